import PyProof.Rows.All
import Wide.All
import OpenK.AllK
import Wide.FinOn
import Lean
import PyProof.EqAt
import PyProof.EqKinds
import PyProof.TupleCall
import PyProof.NeKinds
import PyProof.IsiTupleOf
import PyProof.IsiPairs
import PyProof.IsiHeapPairs
import PyProof.ConsumeWalk
import PyProof.EnumFor
import PyProof.EnumMake
import PyProof.AutoSeq1
import KE.KDictOf
import KE.KIntText
import KE.KRevIter
import KE.KTryMore
import OpenK.AllK
import PyProof.AutoListH
import PyProof.AutoSeq1
import PyProof.ConsumeWalk
import PyProof.EnumFor
import PyProof.EnumMake
import PyProof.EqAt
import PyProof.EqKinds
import PyProof.ExcArgsOwn
import PyProof.ExcAttrAll.ValueError
import PyProof.FactsAll.list_3
import PyProof.FactsAll.str_0
import PyProof.FactsAll.str_5
import PyProof.FactsAll.str_6
import PyProof.FactsAll.str_7
import PyProof.InstStoreFacts
import PyProof.IsiHeapPairs
import PyProof.IsiPairs
import PyProof.IsiTupleOf
import PyProof.ListRange
import PyProof.MinMaxWalk
import PyProof.NeKinds
import PyProof.Rows.All
import PyProof.Rows.FStr
import PyProof.Rows.StrNews2
import PyProof.Rows.StrSplitJoin
import PyProof.SeqRoads
import PyProof.SumWalkG
import PyProof.TupleCall
import Wide.All
import Wide.FinOn
import PyProof.FactsAll.list_2
import PyProof.ListRange
import KE.KRevIter
import PyProof.SumWalkG
import PySem.Challenge.RW_moonseat_k44_refusals_apart
section
open PySem PySem.Spec PyProof.Rows
def wAa:=@wpAny_bind
def wBa:=@wpAny_pure
def wCa:=@wpAny_mono
def wDa:=@wpAny_holding
def wGa:=@wpAny_execs_cons
def wHa:=@wpAny_call
def wIa:=@Heap.get?_push_of_some
def wJa:=@Heap.get?_push_size
def wKa:=@Heap.get?_update_other
def wLa:=@Heap.lt_size
def wMa:=@List.mem_cons_of_mem
def wNa:=@List.mem_cons_self
def wPa:=@Nat.le_refl
def wQa:=@Nat.le_of_lt
def wSa:=@Nat.le_trans
def wTa:=@Nat.ne_of_lt
def wUa:=@Nat.lt_irrefl
def wYa:=@List.mem_of_getElem?
def vBa:=@decide_eq_false
def vDa:=@absurd
def vFa:=@Option.some.inj
def vIa:=@List.mem_append_left
def vJa:=@List.mem_append_right
def vKa:=@Nat.le_add_right
def vLa:=@eq_of_beq
def vMa:=@Nat.le_succ
def vNa:=@Bool.false_ne_true
def vOa:=@wpAny_standAt
def vTa:=@wpAny_newObj_type
def vUa:=@Heap.get?_update_self
def vWa:=@List.map_cons
def vXa:=@List.length_cons
def vYa:=@List.length_map
def vZa:=@List.length_append
def uAa:=@List.getElem?_map
def uDa:=@List.map_append
def uFa:=@List.append_nil
def uJa:=@List.map_nil
def uLa:=@List.size_toArray
def uNa:=@List.length_drop
def uOa:=@List.length_take
def uPa:=@Heap.size_push
def uRa:=@List.getElem?_append_left
theorem uSa{α:Type _}{l:List α}{i:Nat}{a:α}(h:l[i]?=some a):∃h:i<l.length,l[i]=a:=List.getElem?_eq_some_iff.mp h
theorem uTa{α:Type _}{a b:α}{l:List α}(h:a∈b::l):a=b∨a∈l:=List.mem_cons.mp h
theorem uWa{α:Type _}{a:α}{s t:List α}(h:a∈s++t):a∈s∨a∈t:=List.mem_append.mp h
abbrev uXa:=PySem.W.Frag
end
noncomputable section
set_option Elab.async false
set_option linter.all false
set_option maxRecDepth 100000
set_option maxHeartbeats 4000000
namespace L2
open PySem
noncomputable def inClass(s:Stmt)(j:Nat):Stmt:=match s with
 | .ClassDef _ _ _ body _ _ _ _ _ _ _=>body.getD j (.Pass ⟨0,0,0,0⟩)
 | _=>.Pass ⟨0,0,0,0⟩
noncomputable def defArgs(s:Stmt):Arguments:=match s with
 | .FunctionDef _ a _ _ _ _ _ _ _ _=>a
 | _=>{ posonlyargs:=[],args:=[],vararg:=none,kwonlyargs:=[],kw_defaults:=[],kwarg:=none,defaults:=[] }
noncomputable def defBody(s:Stmt):List Stmt:=match s with
 | .FunctionDef _ _ b _ _ _ _ _ _ _=>b
 | _=>[]
noncomputable def defScope(s:Stmt):Scope:=match s with
 | .FunctionDef _ _ _ _ _ _ sc _ _ _=>sc
 | _=>{ kind:=.function,names:=[],isGenerator:=false,isCoroutine:=false }
end L2
namespace CP
open PySem
noncomputable def sN(s:Stmt):Str:=match s with
 | .FunctionDef n _ _ _ _ _ _ _ _ _=>n
 | .ClassDef n _ _ _ _ _ _ _ _ _ _=>n
 | _ => ""
end CP
namespace M
open PySem
noncomputable def top(i:Nat):Stmt:=PySem.Challenge.pw_moonseat_k44_refusals_apart.main.body.getD i (.Pass ⟨0,0,0,0⟩)
end M
set_option maxHeartbeats 0
noncomputable def PySem.W.Fast.tw8023699853465025563:PySem.Program:=PySem.Challenge.pw_moonseat_k44_refusals_apart
theorem PySem.W.Fast.te8023699853465025563:PySem.Challenge.pw_moonseat_k44_refusals_apart=PySem.W.Fast.tw8023699853465025563:=rfl
namespace Hd
noncomputable section
open PySem PySem.W PyProof.Rows L2 M CP
noncomputable abbrev pw:=PySem.Challenge.pw_moonseat_k44_refusals_apart
theorem prm:((fun(_:Params->Obj)=>true) boot_o_0)=true:=by first | k_qdec | rfl
noncomputable def de(P:Params)(x:Str)(t:Nat)(v:Value):DictEntry:=⟨PyData.keyHash P x,.str x t,v⟩
noncomputable def f3(a b:Int)(r:Nat)(l:List Value):List Value:=.int a 0::.int b 0::.ref r::l
noncomputable def fC(n q:Str)(a b c:Nat)(l x1 x2 x3 x4:Int)(r1:Nat)(z:Bool)(k:Int)(r2:Nat)(m:Int)(e:Nat):Data:=.fields #[.str n a,.str q b,.str "/claim/cut.py" c,.int l 0,.int x1 0,.int x2 0,.int x3 0,.int x4 0,.ref r1,.bool z,.int k 0,.ref r2,.none,.none,.none,.none,.int m 0,.int l 0,.str "/claim/cut.py" e]
noncomputable def oU(l:List Value):Obj:=⟨.type "tuple",none,.seq (List.toArray l) 0,#[]⟩
def oF(n q:Str)(s:Stmt)(m:Str)(t cd:Nat):Obj:=⟨.type "function",none,.func (fnOf n q (defArgs s) (defBody s) (defScope s) .none .none .none (.str m t) none (.ref cd) .none),#[]⟩
def oT(n q:Str)(s:Stmt):Obj:=⟨.none,none,.func { name:=n,qualname:=q,params:=defArgs s,body:=.stmts (defBody s),scope:=defScope s,globals:=0,closure:=[],defaults:=.none,kwdefaults:=.none,doc:=.none,pyModule:=.none,annotations:=none,code:=.none,closureTuple:=.none,builtins:=0 },#[]⟩
noncomputable def ins2:BT->Nat->Obj->BT
 | .nil,_,o=>.node o .nil .nil
 | .node v l r,i,o=>match Nat.beq i 0 with
  | true=>.node o l r
  | false=>match Nat.beq (i % 2) 1 with
   | true=>.node v (ins2 l (i / 2) o) r
   | false=>.node v l (ins2 r (i / 2 - 1) o)
def putAll(t:BT)(l:List (Nat×Obj)):BT:=l.foldl (fun t q=>ins2 t q.1 q.2) t
noncomputable def env:Env:={ scope:=pw.main.scope,locals:=mainNs,globals:=mainNs,cells:=[],code:=.ref 13,frame:=some 14 }
noncomputable def bd:List Stmt:=behindTheImports pw
def cE:Code:=.body bd env
noncomputable def oD(l:List DictEntry)(k:Nat):Obj:=⟨.type "dict",none,.dict (List.toArray l) k,#[]⟩
noncomputable def oX(c d:Nat)(m:Str)(t:Nat):Obj:=⟨.type "frame",none,.plain,#[some (.ref c),some (.ref 3),some (.ref d),none,some (.str m t),none,some (.ref 0)]⟩
noncomputable def oS(a:Nat):Obj:=⟨.type "super",none,.fields #[.ref a,.ref a,.ref a],#[]⟩
noncomputable def oB(a:Nat):Obj:=⟨.type "builtin_function_or_method",none,.fields #[.builtin "object.__init_subclass__",.ref a],#[]⟩
noncomputable def oP:Obj:=⟨.type "builtin_function_or_method",none,.fields #[.builtin "type.__prepare__",.type "type"],#[]⟩
noncomputable def oE(d:Data):Obj:=⟨.type "code",none,d,#[]⟩
noncomputable def oK(n:Str)(b o:List Value)(s:Nat)(u:List Value)(f:Option Value)(t t':Nat)(w:String):Obj:=⟨.type "type",none,.cls { name:=n,bases:=b,mro:=o,ns:=s,qualname:=n,hasDict:=true,slotNames:=[],subclasses:=u,abstract:=false,collection:=none,hasDel:=false },#[f,none,some (.str n t),some (.str n t'),some (.builtin w),some (.bool true)]⟩
noncomputable def oW(t:Nat):List Str->List Value
 | []=>[]
 | x::l=>.str x t::oW (t+1) l
def oV(t:Nat)(l:List Str):Obj:=oU (oW t l)
def o0:Obj:=oU []
noncomputable def o1:Obj:=⟨.none,none,.fields #[],#[]⟩
noncomputable def nz:Nat->List Obj->List (Nat×Obj)
 | _,[]=>[]
 | n,o::l=>(n,o)::nz (n+1) l
def vN(s:Stmt):List Str:=((defScope s).names.filter fun y=>y.2==.local).map (·.1)
def oC(n q:Str)(s:Stmt)(a r:Nat)(l:List Value)(m:Nat):Obj:=oE (.fields (List.toArray (.str n a::.str q (a+1)::.str "/claim/cut.py" (a+2)::.int s.pos.line 0::.int (defArgs s).args.length 0::.int 0 0::.int 0 0::.int 3 0::.ref r::.bool true::.int 181 0::.ref (r+1)::.none::List.append l [.int m 0,.int s.pos.line 0,.str "/claim/cut.py" (m+1)])))
def fO(q:Str)(m:Str)(u:Nat)(s:Stmt)(v:Bool)(a t:Nat):List Obj:=match v with
 | true=>[o0,o1,oV (t+3) (vN s),o0,oT (sN s) q s,oC (sN s) q s t a [.ref (a+2),.ref (a+3),.ref (a+4)] (t+3+(vN s).length),oF (sN s) q s m u (a+5)]
 | false=>[o0,o1,oT (sN s) q s,oC (sN s) q s t a [.none,.none,.ref (a+2)] (t+3),oF (sN s) q s m u (a+3)]
def cO(P:Params)(m:Str)(u:Nat)(s:Stmt)(a t:Nat):List Obj:=
 [oU [.ref 31],oP,oD [de P "__module__" (t+7) (.str m u),de P "__qualname__" (t+9) (.str (sN s) (t+8)),de P "__firstlineno__" (t+11) (.int s.pos.line (t+10)),de P "__static_attributes__" (t+12) (.ref (a+7))] 4,o0,o1,
  oE (fC (sN s) (sN s) (t+2) (t+3) (t+4) s.pos.line 0 0 0 0 (a+3) false 181 (a+4) ↑(t+5) (t+6)),oX (a+5) (a+2) m u,o0,
  oD [de P "__module__" (t+7) (.str m u),de P "__firstlineno__" (t+11) (.int s.pos.line (t+10)),de P "__static_attributes__" (t+12) (.ref (a+7)),de P "__doc__" (t+13) .none] 2,
  oK (sN s) [.ref 31] [.ref (a+9),.ref 31,.type "ValueError",.type "Exception",.type "BaseException",.type "object"] (a+8) [] (some (.ref a)) t (t+8) "ValueError.__new__",oS (a+9),oB (a+9)]
noncomputable abbrev It:=Nat×Bool×Nat×Nat
def iO(m:Str)(u:Nat)(y:It):List Obj:=fO (sN (top y.1)) m u (top y.1) y.2.1 y.2.2.1 y.2.2.2
noncomputable def iF(y:It):Nat:=y.2.2.1+cond y.2.1 6 4
def iE(P:Params)(y:It):DictEntry:=de P (sN (top y.1)) (y.2.2.2+5+cond y.2.1 (vN (top y.1)).length 0) (.ref (iF y))
noncomputable def kI(y:It):List Nat:=cond y.2.1 [y.2.2.1,y.2.2.1+2,y.2.2.1+3,y.2.2.1+5,y.2.2.1+6] [y.2.2.1,y.2.2.1+3,y.2.2.1+4]
def iT(y:It)(l:List Value):List Value:=f3 (top y.1).pos.line 0 (iF y - 1) l
def jO(P:Params)(m:Str)(u:Nat)(y:Nat×Nat×Nat):List Obj:=cO P m u (top y.1) y.2.1 y.2.2
def jE(P:Params)(y:Nat×Nat×Nat):DictEntry:=de P (sN (top y.1)) (y.2.2+15) (.ref (y.2.1+9))
def jT(y:Nat×Nat×Nat)(l:List Value):List Value:=f3 (top y.1).pos.line 0 (y.2.1+5) l
noncomputable def kJ(y:Nat×Nat×Nat):List Nat:=[y.2.1,y.2.1+7,y.2.1+8,y.2.1+9]
noncomputable def vE(u:List Value):Obj:=oK "VerseError" [.type "ValueError"] [.ref 31,.type "ValueError",.type "Exception",.type "BaseException",.type "object"] 30 u (some (.ref 22)) 196 204 "ValueError.__new__"
noncomputable def i1:List It:=[(0,true,15,187)]
noncomputable def i2:List (Nat×Nat×Nat):=[(3,35,214),(4,47,230),(5,59,246)]
noncomputable def i3:List (Nat×Nat×Nat):=[(6,71,262),(7,83,278),(8,95,294),(9,107,310)]
noncomputable def i4:List (Nat×Nat×Nat):=[(10,119,326),(11,131,342),(12,143,358),(13,155,374)]
noncomputable def i5:List (Nat×Nat×Nat):=[(14,167,390),(15,179,406),(16,191,422),(17,203,438)]
noncomputable def i6:List (Nat×Nat×Nat):=[(18,215,454),(19,227,470),(20,239,486),(21,251,502)]
noncomputable def i7:List (Nat×Nat×Nat):=[(22,263,518)]
noncomputable def i8:List It:=[(27,true,332,613)]
noncomputable def i9:List It:=[(28,true,339,622),(29,false,346,630),(30,true,351,636),(31,true,358,652),(32,true,365,664),(33,true,372,677),(34,true,379,686),(35,true,386,696),(36,true,393,704),(37,true,400,717),(38,true,407,729),(39,true,414,738),(40,true,421,747),(41,true,428,756),(42,true,435,767)]
noncomputable def i10:List It:=[(44,true,442,784),(45,false,449,792),(46,true,454,798),(47,true,461,806),(48,true,468,817),(49,true,475,827),(50,true,482,835)]
noncomputable def i11:List It:=[(52,false,489,847),(53,true,494,853),(54,true,501,866),(55,false,508,880),(56,true,513,886),(57,true,520,896),(58,false,527,907)]
noncomputable def i12:List It:=[(62,true,532,919)]
noncomputable def i13:List It:=[(63,true,539,926),(64,false,546,934),(65,true,551,940)]
noncomputable def i14:List It:=[(69,false,558,956),(70,false,563,962),(71,true,568,968)]
noncomputable def i15:List It:=[(74,true,778,1253),(75,false,785,1262),(76,true,790,1268),(77,false,797,1280),(78,true,802,1286),(79,true,809,1297),(80,true,816,1306)]
noncomputable def i16:List It:=[(84,true,823,1323),(85,false,830,1331),(86,true,835,1337),(87,false,842,1350),(88,false,847,1356),(89,true,852,1362)]
noncomputable def i17:List It:=[(93,false,859,1380),(94,true,864,1386),(95,false,871,1397),(96,true,876,1403),(97,true,883,1416),(98,false,890,1429)]
noncomputable def i18:List It:=[(108,true,895,1453),(109,true,902,1463),(110,true,909,1474),(111,true,916,1486),(112,false,923,1497)]
noncomputable def i19:List It:=[(117,false,985,1584),(118,true,990,1590),(119,false,997,1600),(120,true,1002,1606),(121,true,1009,1618)]
noncomputable def i20:List It:=[(123,true,1016,1633),(124,false,1023,1646),(125,true,1028,1652),(126,true,1035,1661),(127,true,1042,1672),(128,false,1049,1683)]
def n0(P:Params)(u:List Value):List Obj:=(List.append (i1.flatMap (iO "__main__" 164)) (List.append [oU [.type "ValueError"],oP,oD [de P "__module__" 203 (.str "moonseat.errors" 194),de P "__qualname__" 205 (.str "VerseError" 204),de P "__firstlineno__" 207 (.int 5 206),de P "__static_attributes__" 208 (.ref 29)] 4,o0,o1,oE (fC "VerseError" "VerseError" 198 199 200 5 0 0 0 0 25 false 181 26 201 202),oX 27 24 "moonseat.errors" 194,o0,oD [de P "__module__" 203 (.str "moonseat.errors" 194),de P "__firstlineno__" 207 (.int 5 206),de P "__static_attributes__" 208 (.ref 29),de P "__weakref__" 210 (.ref 32),de P "__doc__" 211 .none] 3,vE u,⟨.type "getset_descriptor",none,(.fields #[.str "__weakref__" 209,.ref 31,.builtin "ExceptionGroup.__weakref__",.none]),#[]⟩,oS 31,oB 31] (i2.flatMap (jO P "moonseat.errors" 194))))
noncomputable def n1(P:Params)(u:List Value):List Obj:=(i3.flatMap (jO P "moonseat.errors" 194))
noncomputable def n2(P:Params)(u:List Value):List Obj:=(i4.flatMap (jO P "moonseat.errors" 194))
noncomputable def n3(P:Params)(u:List Value):List Obj:=(i5.flatMap (jO P "moonseat.errors" 194))
noncomputable def n4(P:Params)(u:List Value):List Obj:=(i6.flatMap (jO P "moonseat.errors" 194))
def n5(P:Params)(u:List Value):List Obj:=(List.append (i7.flatMap (jO P "moonseat.errors" 194)) (List.append [oU [.ref 31],oP,oD [de P "__module__" 541 (.str "moonseat.errors" 194),de P "__qualname__" 543 (.str "Broken" 542),de P "__firstlineno__" 545 (.int 47 544),de P "__init__" 554 (.ref 288),de P "__static_attributes__" 557 (.ref 289)] 5,o0,⟨.none,none,(.fields #[.int 49 0,.int 4 0,.ref 287]),#[]⟩,oE (fC "Broken" "Broken" 536 537 538 47 0 0 0 0 278 false 181 279 539 540),oX 280 277 "moonseat.errors" 194] (List.append (fO "Broken.__init__" "moonseat.errors" 194 (inClass (top 23) 0) true 282 546) (List.append [oV 555 ["place", "word"],oD [de P "__module__" 541 (.str "moonseat.errors" 194),de P "__firstlineno__" 545 (.int 47 544),de P "__init__" 554 (.ref 288),de P "__static_attributes__" 557 (.ref 289),de P "__doc__" 558 .none] 2,oK "Broken" [.ref 31] [.ref 291,.ref 31,.type "ValueError",.type "Exception",.type "BaseException",.type "object"] 290 [] (some (.ref 275)) 534 542 "ValueError.__new__",oS 291,oB 291,oU [.ref 31],oP,oD [de P "__module__" 568 (.str "moonseat.errors" 194),de P "__qualname__" 570 (.str "Stranded" 569),de P "__firstlineno__" 572 (.int 52 571),de P "__init__" 580 (.ref 307),de P "__static_attributes__" 582 (.ref 308)] 5,o0,⟨.none,none,(.fields #[.int 54 0,.int 4 0,.ref 306]),#[]⟩,oE (fC "Stranded" "Stranded" 563 564 565 52 0 0 0 0 297 false 181 298 566 567),oX 299 296 "moonseat.errors" 194] (List.append (fO "Stranded.__init__" "moonseat.errors" 194 (inClass (top 24) 0) true 301 573) (List.append [oU [.str "name" 581],oD [de P "__module__" 568 (.str "moonseat.errors" 194),de P "__firstlineno__" 572 (.int 52 571),de P "__init__" 580 (.ref 307),de P "__static_attributes__" 582 (.ref 308),de P "__doc__" 583 .none] 2,oK "Stranded" [.ref 31] [.ref 310,.ref 31,.type "ValueError",.type "Exception",.type "BaseException",.type "object"] 309 [] (some (.ref 294)) 561 569 "ValueError.__new__",oS 310,oB 310,oU [.ref 31],oP,oD [de P "__module__" 593 (.str "moonseat.errors" 194),de P "__qualname__" 595 (.str "BadRow" 594),de P "__firstlineno__" 597 (.int 56 596),de P "__init__" 605 (.ref 326),de P "__static_attributes__" 607 (.ref 327)] 5,o0,⟨.none,none,(.fields #[.int 58 0,.int 4 0,.ref 325]),#[]⟩,oE (fC "BadRow" "BadRow" 588 589 590 56 0 0 0 0 316 false 181 317 591 592),oX 318 315 "moonseat.errors" 194] (List.append (fO "BadRow.__init__" "moonseat.errors" 194 (inClass (top 25) 0) true 320 598) (List.append [oU [.str "at" 606],oD [de P "__module__" 593 (.str "moonseat.errors" 194),de P "__firstlineno__" 597 (.int 56 596),de P "__init__" 605 (.ref 326),de P "__static_attributes__" 607 (.ref 327),de P "__doc__" 608 .none] 2,oK "BadRow" [.ref 31] [.ref 329,.ref 31,.type "ValueError",.type "Exception",.type "BaseException",.type "object"] 328 [] (some (.ref 313)) 586 594 "ValueError.__new__",oS 329,oB 329] (i8.flatMap (iO "moonseat.stands" 611))))))))))
def n6(P:Params)(u:List Value):List Obj:=(List.append (i9.flatMap (iO "moonseat.stands" 611)) (List.append (i10.flatMap (iO "moonseat.sheets" 782)) (List.append (i11.flatMap (iO "moonseat.ahead" 845)) (i12.flatMap (iO "moonseat.host" 913)))))
def n7(P:Params)(u:List Value):List Obj:=(List.append (i13.flatMap (iO "moonseat.host" 913)) (i14.flatMap (iO "moonseat.house" 950)))
def n8(P:Params)(u:List Value):List Obj:=(List.append [o0,oP,oD [de P "__module__" 985 (.str "moonseat.house" 950),de P "__qualname__" 987 (.str "House" 986),de P "__firstlineno__" 989 (.int 286 988),de P "__init__" 997 (.ref 588),de P "sheet" 1006 (.ref 595),de P "row" 1014 (.ref 602),de P "check_new" 1022 (.ref 609),de P "check_ends" 1034 (.ref 616),de P "do" 1043 (.ref 623),de P "put" 1058 (.ref 630),de P "begin" 1066 (.ref 637),de P "offer" 1079 (.ref 644),de P "take" 1089 (.ref 651),de P "amend" 1103 (.ref 658),de P "turn" 1113 (.ref 665),de P "fork" 1124 (.ref 672),de P "drop" 1132 (.ref 679),de P "change" 1145 (.ref 686),de P "back" 1154 (.ref 693),de P "again" 1163 (.ref 700),de P "deeds" 1170 (.ref 707),de P "rules" 1177 (.ref 714),de P "first" 1184 (.ref 721),de P "names" 1191 (.ref 728),de P "verses" 1199 (.ref 735),de P "turned" 1207 (.ref 742),de P "onwards" 1215 (.ref 749),de P "plan" 1223 (.ref 756),de P "fitting" 1231 (.ref 763),de P "twin" 1238 (.ref 770),de P "__static_attributes__" 1243 (.ref 771)] 31,o0,⟨.none,none,(.fields (List.toArray (List.append (f3 288 4 587 (f3 294 4 594 (f3 300 4 601 (f3 303 4 608 (f3 310 4 615 (f3 316 4 622 (f3 321 4 629 (f3 327 4 636 ([]))))))))) (List.append (f3 332 4 643 (f3 343 4 650 (f3 349 4 657 (f3 360 4 664 (f3 366 4 671 (f3 371 4 678 (f3 374 4 685 (f3 382 4 692 ([]))))))))) (List.append (f3 389 4 699 (f3 396 4 706 (f3 399 4 713 (f3 402 4 720 (f3 405 4 727 (f3 408 4 734 (f3 411 4 741 (f3 414 4 748 ([]))))))))) (f3 417 4 755 (f3 420 4 762 (f3 423 4 769 ([]))))))))),#[]⟩,oE (fC "House" "House" 980 981 982 286 0 0 0 0 578 false 181 579 983 984),oX 580 577 "moonseat.house" 950] (List.append (fO "House.__init__" "moonseat.house" 950 (inClass (top 72) 0) true 582 990) (List.append (fO "House.sheet" "moonseat.house" 950 (inClass (top 72) 1) true 589 998) (List.append (fO "House.row" "moonseat.house" 950 (inClass (top 72) 2) true 596 1007) (List.append (fO "House.check_new" "moonseat.house" 950 (inClass (top 72) 3) true 603 1015) (List.append (fO "House.check_ends" "moonseat.house" 950 (inClass (top 72) 4) true 610 1023) (List.append (fO "House.do" "moonseat.house" 950 (inClass (top 72) 5) true 617 1035) (List.append (fO "House.put" "moonseat.house" 950 (inClass (top 72) 6) true 624 1044) (List.append (fO "House.begin" "moonseat.house" 950 (inClass (top 72) 7) true 631 1059) (List.append (fO "House.offer" "moonseat.house" 950 (inClass (top 72) 8) true 638 1067) (List.append (fO "House.take" "moonseat.house" 950 (inClass (top 72) 9) true 645 1080) (List.append (fO "House.amend" "moonseat.house" 950 (inClass (top 72) 10) true 652 1090) (List.append (fO "House.turn" "moonseat.house" 950 (inClass (top 72) 11) true 659 1104) (List.append (fO "House.fork" "moonseat.house" 950 (inClass (top 72) 12) true 666 1114) (List.append (fO "House.drop" "moonseat.house" 950 (inClass (top 72) 13) true 673 1125) (List.append (fO "House.change" "moonseat.house" 950 (inClass (top 72) 14) true 680 1133) (List.append (fO "House.back" "moonseat.house" 950 (inClass (top 72) 15) true 687 1146) (List.append (fO "House.again" "moonseat.house" 950 (inClass (top 72) 16) true 694 1155) (List.append (fO "House.deeds" "moonseat.house" 950 (inClass (top 72) 17) true 701 1164) (List.append (fO "House.rules" "moonseat.house" 950 (inClass (top 72) 18) true 708 1171) (List.append (fO "House.first" "moonseat.house" 950 (inClass (top 72) 19) true 715 1178) (List.append (fO "House.names" "moonseat.house" 950 (inClass (top 72) 20) true 722 1185) (List.append (fO "House.verses" "moonseat.house" 950 (inClass (top 72) 21) true 729 1192) (List.append (fO "House.turned" "moonseat.house" 950 (inClass (top 72) 22) true 736 1200) (List.append (fO "House.onwards" "moonseat.house" 950 (inClass (top 72) 23) true 743 1208) (List.append (fO "House.plan" "moonseat.house" 950 (inClass (top 72) 24) true 750 1216) (List.append (fO "House.fitting" "moonseat.house" 950 (inClass (top 72) 25) true 757 1224) (List.append (fO "House.twin" "moonseat.house" 950 (inClass (top 72) 26) true 764 1232) [oV 1239 ["done", "now", "opened", "undone"],oD [de P "__module__" 985 (.str "moonseat.house" 950),de P "__firstlineno__" 989 (.int 286 988),de P "__init__" 997 (.ref 588),de P "sheet" 1006 (.ref 595),de P "row" 1014 (.ref 602),de P "check_new" 1022 (.ref 609),de P "check_ends" 1034 (.ref 616),de P "do" 1043 (.ref 623),de P "put" 1058 (.ref 630),de P "begin" 1066 (.ref 637),de P "offer" 1079 (.ref 644),de P "take" 1089 (.ref 651),de P "amend" 1103 (.ref 658),de P "turn" 1113 (.ref 665),de P "fork" 1124 (.ref 672),de P "drop" 1132 (.ref 679),de P "change" 1145 (.ref 686),de P "back" 1154 (.ref 693),de P "again" 1163 (.ref 700),de P "deeds" 1170 (.ref 707),de P "rules" 1177 (.ref 714),de P "first" 1184 (.ref 721),de P "names" 1191 (.ref 728),de P "verses" 1199 (.ref 735),de P "turned" 1207 (.ref 742),de P "onwards" 1215 (.ref 749),de P "plan" 1223 (.ref 756),de P "fitting" 1231 (.ref 763),de P "twin" 1238 (.ref 770),de P "__static_attributes__" 1243 (.ref 771),de P "__dict__" 1245 (.ref 774),de P "__weakref__" 1247 (.ref 775),de P "__doc__" 1248 .none] 4,oK "House" [.type "object"] [.ref 773,.type "object"] 772 [] (none) 978 986 "object.__new__",⟨.type "getset_descriptor",none,(.fields #[.str "__dict__" 1244,.ref 773,.builtin "function.__dict__",.builtin "function.__dict__#set"]),#[]⟩,⟨.type "getset_descriptor",none,(.fields #[.str "__weakref__" 1246,.ref 773,.builtin "ExceptionGroup.__weakref__",.none]),#[]⟩,oS 773,oB 773]))))))))))))))))))))))))))))
def n9(P:Params)(u:List Value):List Obj:=(List.append (i15.flatMap (iO "moonseat.lengths" 1251)) (List.append (i16.flatMap (iO "moonseat.likened" 1317)) (List.append (i17.flatMap (iO "moonseat.mends" 1374)) (i18.flatMap (iO "moonseat.rules" 1435)))))
def n10(P:Params)(u:List Value):List Obj:=(List.append [o0,oP,oD [de P "__module__" 1510 (.str "moonseat.rules" 1435),de P "__qualname__" 1512 (.str "Rules" 1511),de P "__firstlineno__" 1514 (.int 599 1513),de P "__init__" 1526 (.ref 941),de P "kinds" 1533 (.ref 948),de P "shuns" 1540 (.ref 955),de P "bars" 1547 (.ref 962),de P "dues" 1554 (.ref 969),de P "many" 1561 (.ref 976),de P "__static_attributes__" 1567 (.ref 977)] 10,o0,⟨.none,none,(.fields (List.toArray (f3 601 4 940 (f3 612 4 947 (f3 615 4 954 (f3 618 4 961 (f3 621 4 968 (f3 624 4 975 ([]))))))))),#[]⟩,oE (fC "Rules" "Rules" 1505 1506 1507 599 0 0 0 0 931 false 181 932 1508 1509),oX 933 930 "moonseat.rules" 1435] (List.append (fO "Rules.__init__" "moonseat.rules" 1435 (inClass (top 113) 0) true 935 1515) (List.append (fO "Rules.kinds" "moonseat.rules" 1435 (inClass (top 113) 1) true 942 1527) (List.append (fO "Rules.shuns" "moonseat.rules" 1435 (inClass (top 113) 2) true 949 1534) (List.append (fO "Rules.bars" "moonseat.rules" 1435 (inClass (top 113) 3) true 956 1541) (List.append (fO "Rules.dues" "moonseat.rules" 1435 (inClass (top 113) 4) true 963 1548) (List.append (fO "Rules.many" "moonseat.rules" 1435 (inClass (top 113) 5) true 970 1555) (List.append [oV 1562 ["bar_rows", "due_rows", "kind_rows", "shun_rows", "size"],oD [de P "__module__" 1510 (.str "moonseat.rules" 1435),de P "__firstlineno__" 1514 (.int 599 1513),de P "__init__" 1526 (.ref 941),de P "kinds" 1533 (.ref 948),de P "shuns" 1540 (.ref 955),de P "bars" 1547 (.ref 962),de P "dues" 1554 (.ref 969),de P "many" 1561 (.ref 976),de P "__static_attributes__" 1567 (.ref 977),de P "__dict__" 1569 (.ref 980),de P "__weakref__" 1571 (.ref 981),de P "__doc__" 1572 .none] 4,oK "Rules" [.type "object"] [.ref 979,.type "object"] 978 [] (none) 1503 1511 "object.__new__",⟨.type "getset_descriptor",none,(.fields #[.str "__dict__" 1568,.ref 979,.builtin "function.__dict__",.builtin "function.__dict__#set"]),#[]⟩,⟨.type "getset_descriptor",none,(.fields #[.str "__weakref__" 1570,.ref 979,.builtin "ExceptionGroup.__weakref__",.none]),#[]⟩,oS 979,oB 979,oV 1579 ["kind", "shun", "bar", "due"]] (List.append (i19.flatMap (iO "moonseat.notes" 1575)) (i20.flatMap (iO "law_moonseat_k44_refusals_apart" 1631)))))))))))
def E(P:Params):List DictEntry:=(List.append [de P "__doc__" 166 .none,de P "__package__" 167 .none,de P "__loader__" 168 (.builtin "__main__.__loader__#opaque"),de P "__spec__" 169 .none,de P "__annotations__" 170 (.ref 6),de P "__builtins__" 171 (.ref 4),de P "__file__" 173 (.str "/claim/cut.py" 172),de P "__cached__" 174 .none] (List.append (i1.map (iE P)) (List.append [de P "VerseError" 213 (.ref 31)] (List.append (i2.map (jE P)) (List.append (i3.map (jE P)) (List.append (i4.map (jE P)) (List.append (i5.map (jE P)) (List.append (i6.map (jE P)) (List.append (i7.map (jE P)) (List.append [de P "Broken" 560 (.ref 291),de P "Stranded" 585 (.ref 310),de P "BadRow" 610 (.ref 329)] (List.append (i8.map (iE P)) (List.append (i9.map (iE P)) (List.append (i10.map (iE P)) (List.append (i11.map (iE P)) (List.append [de P "LEAST_BEAT" 916 (.int 2 915),de P "MOST_BEAT" 918 (.int 5 917)] (List.append (i12.map (iE P)) (List.append (i13.map (iE P)) (List.append [de P "MOST_SHEETS" 953 (.int 8 952),de P "MOST_LETTERS" 955 (.int 8 954)] (List.append (i14.map (iE P)) (List.append [de P "House" 1250 (.ref 773)] (List.append (i15.map (iE P)) (List.append [de P "NOTHING" 1320 (.int 0 1319),de P "NO_VERSE_MORE" 1322 (.int 1 1321)] (List.append (i16.map (iE P)) (List.append [de P "LEAST_COST" 1377 (.int 1 1376),de P "MOST_COST" 1379 (.int 9 1378)] (List.append (i17.map (iE P)) (List.append [de P "MOST_SIZE" 1438 (.int 30 1437),de P "MOST_KINDS" 1440 (.int 4 1439),de P "MOST_SHUNS" 1442 (.int 20 1441),de P "MOST_BARS" 1444 (.int 12 1443),de P "MOST_DUES" 1446 (.int 3 1445),de P "MOST_RUN" 1448 (.int 4 1447),de P "MOST_REST" 1450 (.int 4 1449),de P "MOST_FAR" 1452 (.int 2 1451)] (List.append (i18.map (iE P)) (List.append [de P "Rules" 1574 (.ref 979),de P "MOST_FIGURES" 1578 (.int 4 1577),de P "PARTS" 1583 (.ref 984)] (List.append (i19.map (iE P)) (i20.map (iE P)))))))))))))))))))))))))))))))
def mT(k:Nat):Obj:=⟨.none,none,.fields (List.toArray (List.take (3 * k) (i1.foldr iT (f3 5 0 27 (i2.foldr jT (i3.foldr jT (i4.foldr jT (i5.foldr jT (i6.foldr jT (i7.foldr jT (f3 47 0 280 (f3 52 0 299 (f3 56 0 318 (i8.foldr iT (i9.foldr iT (i10.foldr iT (i11.foldr iT (i12.foldr iT (i13.foldr iT (i14.foldr iT (f3 286 0 580 (i15.foldr iT (i16.foldr iT (i17.foldr iT (i18.foldr iT (f3 599 0 933 (i19.foldr iT (i20.foldr iT [])))))))))))))))))))))))))))),#[]⟩
def mD(P:Params)(x:Str)(t k:Nat):Obj:=oD (de P "__name__" 165 (.str x t)::(E P).take k) (k+1)
def lA(P:Params):List Obj:=[boot_o_0 P,boot_o_1 P,boot_o_2 P,boot_o_3 P,boot_o_4 P,boot_o_5 P,boot_o_6 P,boot_o_7 P,boot_o_8 P,boot_o_9 P,boot_o_10 P,o0,o1,oE (fC "<module>" "<module>" 182 183 184 1 0 0 0 0 11 false 181 12 185 186),oX 13 3 "__main__" 164]
noncomputable def hA(P:Params):Heap:=⟨⟨lA P⟩,{}⟩
def t0(P:Params):BT:=putAll .nil (nz 0 (lA P))
def t1(P:Params):BT:=putAll (t0 P) ((3,mD P "moonseat.errors" 194 13)::(12,mT 5)::nz 15 (n0 P [.ref 44,.ref 56,.ref 68]))
def t2(P:Params):BT:=putAll (t1 P) ((3,mD P "moonseat.errors" 194 17)::(12,mT 9)::(31,vE [.ref 44,.ref 56,.ref 68,.ref 80,.ref 92,.ref 104,.ref 116])::nz 71 (n1 P [.ref 44,.ref 56,.ref 68,.ref 80,.ref 92,.ref 104,.ref 116]))
def t3(P:Params):BT:=putAll (t2 P) ((3,mD P "moonseat.errors" 194 21)::(12,mT 13)::(31,vE [.ref 44,.ref 56,.ref 68,.ref 80,.ref 92,.ref 104,.ref 116,.ref 128,.ref 140,.ref 152,.ref 164])::nz 119 (n2 P [.ref 44,.ref 56,.ref 68,.ref 80,.ref 92,.ref 104,.ref 116,.ref 128,.ref 140,.ref 152,.ref 164]))
def t4(P:Params):BT:=putAll (t3 P) ((3,mD P "moonseat.errors" 194 25)::(12,mT 17)::(31,vE [.ref 44,.ref 56,.ref 68,.ref 80,.ref 92,.ref 104,.ref 116,.ref 128,.ref 140,.ref 152,.ref 164,.ref 176,.ref 188,.ref 200,.ref 212])::nz 167 (n3 P [.ref 44,.ref 56,.ref 68,.ref 80,.ref 92,.ref 104,.ref 116,.ref 128,.ref 140,.ref 152,.ref 164,.ref 176,.ref 188,.ref 200,.ref 212]))
def t5(P:Params):BT:=putAll (t4 P) ((3,mD P "moonseat.errors" 194 29)::(12,mT 21)::(31,vE [.ref 44,.ref 56,.ref 68,.ref 80,.ref 92,.ref 104,.ref 116,.ref 128,.ref 140,.ref 152,.ref 164,.ref 176,.ref 188,.ref 200,.ref 212,.ref 224,.ref 236,.ref 248,.ref 260])::nz 215 (n4 P [.ref 44,.ref 56,.ref 68,.ref 80,.ref 92,.ref 104,.ref 116,.ref 128,.ref 140,.ref 152,.ref 164,.ref 176,.ref 188,.ref 200,.ref 212,.ref 224,.ref 236,.ref 248,.ref 260]))
def t6(P:Params):BT:=putAll (t5 P) ((3,mD P "moonseat.stands" 611 34)::(12,mT 26)::(31,vE [.ref 44,.ref 56,.ref 68,.ref 80,.ref 92,.ref 104,.ref 116,.ref 128,.ref 140,.ref 152,.ref 164,.ref 176,.ref 188,.ref 200,.ref 212,.ref 224,.ref 236,.ref 248,.ref 260,.ref 272,.ref 291,.ref 310,.ref 329])::nz 263 (n5 P [.ref 44,.ref 56,.ref 68,.ref 80,.ref 92,.ref 104,.ref 116,.ref 128,.ref 140,.ref 152,.ref 164,.ref 176,.ref 188,.ref 200,.ref 212,.ref 224,.ref 236,.ref 248,.ref 260,.ref 272,.ref 291,.ref 310,.ref 329]))
def t7(P:Params):BT:=putAll (t6 P) ((3,mD P "moonseat.host" 913 66)::(12,mT 56)::nz 339 (n6 P []))
def t8(P:Params):BT:=putAll (t7 P) ((3,mD P "moonseat.house" 950 74)::(12,mT 62)::nz 539 (n7 P []))
def t9(P:Params):BT:=putAll (t8 P) ((3,mD P "moonseat.house" 950 75)::(12,mT 63)::nz 575 (n8 P []))
def t10(P:Params):BT:=putAll (t9 P) ((3,mD P "moonseat.rules" 1435 111)::(12,mT 87)::nz 778 (n9 P []))
def t11(P:Params):BT:=putAll (t10 P) ((3,mD P "law_moonseat_k44_refusals_apart" 1631 125)::(12,mT 99)::nz 928 (n10 P []))
def lF(P:Params):List Obj:=(List.append [boot_o_0 P,boot_o_1 P,boot_o_2 P,mD P "law_moonseat_k44_refusals_apart" 1631 125,boot_o_4 P,boot_o_5 P,boot_o_6 P,boot_o_7 P,boot_o_8 P,boot_o_9 P,boot_o_10 P,o0,mT 99,oE (fC "<module>" "<module>" 182 183 184 1 0 0 0 0 11 false 181 12 185 186),oX 13 3 "__main__" 164] (List.append (n0 P [.ref 44,.ref 56,.ref 68,.ref 80,.ref 92,.ref 104,.ref 116,.ref 128,.ref 140,.ref 152,.ref 164,.ref 176,.ref 188,.ref 200,.ref 212,.ref 224,.ref 236,.ref 248,.ref 260,.ref 272,.ref 291,.ref 310,.ref 329]) (List.append (n1 P [.ref 44,.ref 56,.ref 68,.ref 80,.ref 92,.ref 104,.ref 116,.ref 128,.ref 140,.ref 152,.ref 164,.ref 176,.ref 188,.ref 200,.ref 212,.ref 224,.ref 236,.ref 248,.ref 260,.ref 272,.ref 291,.ref 310,.ref 329]) (List.append (n2 P [.ref 44,.ref 56,.ref 68,.ref 80,.ref 92,.ref 104,.ref 116,.ref 128,.ref 140,.ref 152,.ref 164,.ref 176,.ref 188,.ref 200,.ref 212,.ref 224,.ref 236,.ref 248,.ref 260,.ref 272,.ref 291,.ref 310,.ref 329]) (List.append (n3 P [.ref 44,.ref 56,.ref 68,.ref 80,.ref 92,.ref 104,.ref 116,.ref 128,.ref 140,.ref 152,.ref 164,.ref 176,.ref 188,.ref 200,.ref 212,.ref 224,.ref 236,.ref 248,.ref 260,.ref 272,.ref 291,.ref 310,.ref 329]) (List.append (n4 P [.ref 44,.ref 56,.ref 68,.ref 80,.ref 92,.ref 104,.ref 116,.ref 128,.ref 140,.ref 152,.ref 164,.ref 176,.ref 188,.ref 200,.ref 212,.ref 224,.ref 236,.ref 248,.ref 260,.ref 272,.ref 291,.ref 310,.ref 329]) (List.append (n5 P [.ref 44,.ref 56,.ref 68,.ref 80,.ref 92,.ref 104,.ref 116,.ref 128,.ref 140,.ref 152,.ref 164,.ref 176,.ref 188,.ref 200,.ref 212,.ref 224,.ref 236,.ref 248,.ref 260,.ref 272,.ref 291,.ref 310,.ref 329]) (List.append (n6 P [.ref 44,.ref 56,.ref 68,.ref 80,.ref 92,.ref 104,.ref 116,.ref 128,.ref 140,.ref 152,.ref 164,.ref 176,.ref 188,.ref 200,.ref 212,.ref 224,.ref 236,.ref 248,.ref 260,.ref 272,.ref 291,.ref 310,.ref 329]) (List.append (n7 P [.ref 44,.ref 56,.ref 68,.ref 80,.ref 92,.ref 104,.ref 116,.ref 128,.ref 140,.ref 152,.ref 164,.ref 176,.ref 188,.ref 200,.ref 212,.ref 224,.ref 236,.ref 248,.ref 260,.ref 272,.ref 291,.ref 310,.ref 329]) (List.append (n8 P [.ref 44,.ref 56,.ref 68,.ref 80,.ref 92,.ref 104,.ref 116,.ref 128,.ref 140,.ref 152,.ref 164,.ref 176,.ref 188,.ref 200,.ref 212,.ref 224,.ref 236,.ref 248,.ref 260,.ref 272,.ref 291,.ref 310,.ref 329]) (List.append (n9 P [.ref 44,.ref 56,.ref 68,.ref 80,.ref 92,.ref 104,.ref 116,.ref 128,.ref 140,.ref 152,.ref 164,.ref 176,.ref 188,.ref 200,.ref 212,.ref 224,.ref 236,.ref 248,.ref 260,.ref 272,.ref 291,.ref 310,.ref 329]) (n10 P [.ref 44,.ref 56,.ref 68,.ref 80,.ref 92,.ref 104,.ref 116,.ref 128,.ref 140,.ref 152,.ref 164,.ref 176,.ref 188,.ref 200,.ref 212,.ref 224,.ref 236,.ref 248,.ref 260,.ref 272,.ref 291,.ref 310,.ref 329]))))))))))))
noncomputable def hF(P:Params):Heap:=⟨⟨lF P⟩,{}⟩
def kA:List Addr:=(List.append [2,3] (List.append (i1.flatMap kI) (List.append [22,29,30,31,32] (List.append (i2.flatMap kJ) (List.append (i3.flatMap kJ) (List.append (i4.flatMap kJ) (List.append (i5.flatMap kJ) (List.append (i6.flatMap kJ) (List.append (i7.flatMap kJ) (List.append [275,282,284,285,287,288,289,290,291,294,301,303,304,306,307,308,309,310,313,320,322,323,325,326,327,328,329] (List.append (i8.flatMap kI) (List.append (i9.flatMap kI) (List.append (i10.flatMap kI) (List.append (i11.flatMap kI) (List.append (i12.flatMap kI) (List.append (i13.flatMap kI) (List.append (i14.flatMap kI) (List.append [582,584,585,587,588,589,591,592,594,595,596,598,599,601,602,603,605,606,608,609,610,612,613,615,616,617,619,620,622,623,624,626,627,629,630,631,633,634,636,637,638,640,641,643,644,645,647,648,650,651,652,654,655,657,658,659,661,662,664,665,666,668,669,671,672,673,675,676,678,679,680,682,683,685,686,687,689,690,692,693,694,696,697,699,700,701,703,704,706,707,708,710,711,713,714,715,717,718,720,721,722,724,725,727,728,729,731,732,734,735,736,738,739,741,742,743,745,746,748,749,750,752,753,755,756,757,759,760,762,763,764,766,767,769,770,771,772,773,774,775] (List.append (i15.flatMap kI) (List.append (i16.flatMap kI) (List.append (i17.flatMap kI) (List.append (i18.flatMap kI) (List.append [935,937,938,940,941,942,944,945,947,948,949,951,952,954,955,956,958,959,961,962,963,965,966,968,969,970,972,973,975,976,977,978,979,980,981,984] (List.append (i19.flatMap kI) (i20.flatMap kI)))))))))))))))))))))))))
def K(P:Params):Frag:=kA.map fun a=>(a,(lF P).getD a o0)
theorem kOk:∀P,kA=(K P).map (·.1):=fun _=>by kernel_rfl
def sts0:List Stmt:=(List.range' 0 6).map top
def sts1:List Stmt:=(List.range' 6 4).map top
def sts2:List Stmt:=(List.range' 10 4).map top
def sts3:List Stmt:=(List.range' 14 4).map top
def sts4:List Stmt:=(List.range' 18 4).map top
def sts5:List Stmt:=(List.range' 22 6).map top
def sts6:List Stmt:=(List.range' 28 35).map top
def sts7:List Stmt:=(List.range' 63 9).map top
def sts8:List Stmt:=(List.range' 72 1).map top
def sts9:List Stmt:=(List.range' 73 40).map top
def sts10:List Stmt:=(List.range' 113 16).map top
def q:Program:={ pw with main:={ pw.main with body:=((List.append (List.range' 0 1) (List.append (List.range' 2 24) (List.append (List.range' 27 16) (List.append (List.range' 44 7) (List.append (List.range' 52 7) (List.append (List.range' 60 6) (List.append (List.range' 67 6) (List.append (List.range' 74 7) (List.append (List.range' 82 8) (List.append (List.range' 91 8) (List.append (List.range' 100 14) (List.append (List.range' 115 7) (List.range' 123 6)))))))))))))).map top } }
noncomputable abbrev Xt:Shared->Bool:=fun s=>xlAt q [] s&&recOk (RowW.records (OpenRow.toRowW (OpenLaw.row PySem.Challenge.rw_moonseat_k44_refusals_apart))) s
noncomputable def G2(p:Program)(w:World)(m:Nat)(an:Option Value)(n:Nat)(s:Shared)(t:Thread):=segRun treeTable p w m an 1 n s t
lay_quick G2
theorem g2{p:Program}{w:World}{m:Nat}{an:Option Value}{n:Nat}{s:Shared}{t:Thread}{r}(e:PySem.W.Fast.tw10880070632800087129 p w m an n s t=r):segRun treeTable p w m an 1 n s t=r:=by rw[<-PySem.W.Fast.te10880070632800087129]at e;exact e
noncomputable def G3(p:Program)(w:World)(m:Nat)(an:Option Value)(n:Nat)(s:SharedT)(t:Thread):=segRunT treeTable p w m an 1 n s t
lay_quick G3
theorem g3{p:Program}{w:World}{m:Nat}{an:Option Value}{n:Nat}{s:SharedT}{t:Thread}{r}(e:PySem.W.Fast.tw4145583888436359099 p w m an n s t=r):segRunT treeTable p w m an 1 n s t=r:=by rw[<-PySem.W.Fast.te4145583888436359099]at e;exact e
noncomputable def G4(p:Program)(w:World)(m:Nat)(an:Option Value)(n:Nat)(s:Shared)(t:Thread):=topRun treeTable p w m an n s t
lay_quick G4
theorem g4{p:Program}{w:World}{m:Nat}{an:Option Value}{n:Nat}{s:Shared}{t:Thread}{r}(e:PySem.W.Fast.tw6531939937263253831 p w m an n s t=r):topRun treeTable p w m an n s t=r:=by rw[<-PySem.W.Fast.te6531939937263253831]at e;exact e
noncomputable def G7(p:Program)(g h:Heap)(s:Shared):=(staticsOk (importedModules p.main.body) g h&&namesBound p h&&gensDone s&&laidKept g h)
lay_quick G7
theorem g7{p:Program}{g h:Heap}{s:Shared}{r}(e:PySem.W.Fast.tw9566738594451217396 p g h s=r):(staticsOk (importedModules p.main.body) g h&&namesBound p h&&gensDone s&&laidKept g h)=r:=by rw[<-PySem.W.Fast.te9566738594451217396]at e;exact e
noncomputable def G9(h:Heap):=(h.isNs mainGlobals&&(Array.mk []:Array GenState).size==0,h.objs.size,h.nsMap mainGlobals "__annotations__")
lay_quick G9
theorem g9{h:Heap}{r}(e:PySem.W.Fast.tw14578262778655688011 h=r):(h.isNs mainGlobals&&(Array.mk []:Array GenState).size==0,h.objs.size,h.nsMap mainGlobals "__annotations__")=r:=by rw[<-PySem.W.Fast.te14578262778655688011]at e;exact e
noncomputable def G5(q:Program)(R:WRecords)(md:List Str)(s:Shared):=(openSeen q [] md (fun s=>xlAt q [] s&&recOk R s) true s)
noncomputable def G6(q:Program):=openGood q []
lay_quick G5 G6
theorem g5{q:Program}{R:WRecords}{md:List Str}{s:Shared}{α:Type}(f:_->α)(e:f (PySem.W.Fast.tw5989712690265804088 q R md s)=f (PySem.W.Fast.tw12956129408465502666 q)):f (openSeen q [] md (fun s=>xlAt q [] s&&recOk R s) true s)=f (openGood q []):=by rw[<-PySem.W.Fast.te5989712690265804088,<-PySem.W.Fast.te12956129408465502666]at e;exact e
noncomputable def Lpre(w:World)(os:OsState):=topGo treeTable pw w 11 (some (.ref 6)) 12 (⟨boot_heap w.params,Array.mk [],boot_drawn,boot_toks,os⟩:Shared) (topStub pw)
def Rpre(w:World)(os:OsState):=some ((⟨hA w.params,Array.mk [],{},187,os⟩:Shared),(⟨denote treeTable cE,cE,(⟨0,0,0,0⟩:Pos),[topFrame (⟨0,0,0,0⟩:Pos)]⟩:Thread))
lay_quick Lpre Rpre
theorem Qpre:Lpre=Rpre:=PySem.W.Fast.te10476676399240795362.trans ((by kernel_rfl:PySem.W.Fast.tw10476676399240795362=PySem.W.Fast.tw9996742816549557572).trans PySem.W.Fast.te9996742816549557572.symm)
theorem Ppre(w:World)(os:OsState):topGo treeTable pw w 11 (some (.ref 6)) 12 (⟨boot_heap w.params,Array.mk [],boot_drawn,boot_toks,os⟩:Shared) (topStub pw)=some ((⟨hA w.params,Array.mk [],{},187,os⟩:Shared),(⟨denote treeTable cE,cE,(⟨0,0,0,0⟩:Pos),[topFrame (⟨0,0,0,0⟩:Pos)]⟩:Thread)):=congrFun (congrFun Qpre w) os
theorem Pblk(w:World)(os:OsState):segRun treeTable pw w 11 (some (.ref 6)) 1 1 (⟨hA w.params,Array.mk [],{},187,os⟩:Shared) (blockOf bd env cE (⟨0,0,0,0⟩:Pos) [topFrame (⟨0,0,0,0⟩:Pos)])=some (Flow.next,SharedT.abs (⟨t0 w.params,15,{},Array.mk [],{},187,os⟩:SharedT),cE,(⟨0,0,0,0⟩:Pos)):=g2 (by kernel_rfl)
theorem P0(w:World)(os:OsState):segRunT treeTable pw w 11 (some (.ref 6)) 1 864 (⟨t0 w.params,15,{},Array.mk [],{},187,os⟩:SharedT) (piecesOf sts0 env cE (⟨0,0,0,0⟩:Pos) [topFrame (⟨0,0,0,0⟩:Pos)])=some (Flow.next,(⟨t1 w.params,71,{},Array.mk [],{},262,os⟩:SharedT),cE,(⟨11,0,12,8⟩:Pos)):=g3 (by kernel_rfl)
theorem P1(w:World)(os:OsState):segRunT treeTable pw w 11 (some (.ref 6)) 1 853 (⟨t1 w.params,71,{},Array.mk [],{},262,os⟩:SharedT) (piecesOf sts1 env cE (⟨11,0,12,8⟩:Pos) [topFrame (⟨0,0,0,0⟩:Pos)])=some (Flow.next,(⟨t2 w.params,119,{},Array.mk [],{},326,os⟩:SharedT),cE,(⟨19,0,20,8⟩:Pos)):=g3 (by kernel_rfl)
theorem P2(w:World)(os:OsState):segRunT treeTable pw w 11 (some (.ref 6)) 1 853 (⟨t2 w.params,119,{},Array.mk [],{},326,os⟩:SharedT) (piecesOf sts2 env cE (⟨19,0,20,8⟩:Pos) [topFrame (⟨0,0,0,0⟩:Pos)])=some (Flow.next,(⟨t3 w.params,167,{},Array.mk [],{},390,os⟩:SharedT),cE,(⟨27,0,28,8⟩:Pos)):=g3 (by kernel_rfl)
theorem P3(w:World)(os:OsState):segRunT treeTable pw w 11 (some (.ref 6)) 1 853 (⟨t3 w.params,167,{},Array.mk [],{},390,os⟩:SharedT) (piecesOf sts3 env cE (⟨27,0,28,8⟩:Pos) [topFrame (⟨0,0,0,0⟩:Pos)])=some (Flow.next,(⟨t4 w.params,215,{},Array.mk [],{},454,os⟩:SharedT),cE,(⟨35,0,36,8⟩:Pos)):=g3 (by kernel_rfl)
theorem P4(w:World)(os:OsState):segRunT treeTable pw w 11 (some (.ref 6)) 1 853 (⟨t4 w.params,215,{},Array.mk [],{},454,os⟩:SharedT) (piecesOf sts4 env cE (⟨35,0,36,8⟩:Pos) [topFrame (⟨0,0,0,0⟩:Pos)])=some (Flow.next,(⟨t5 w.params,263,{},Array.mk [],{},518,os⟩:SharedT),cE,(⟨43,0,44,8⟩:Pos)):=g3 (by kernel_rfl)
theorem P5(w:World)(os:OsState):segRunT treeTable pw w 11 (some (.ref 6)) 1 991 (⟨t5 w.params,263,{},Array.mk [],{},518,os⟩:SharedT) (piecesOf sts5 env cE (⟨43,0,44,8⟩:Pos) [topFrame (⟨0,0,0,0⟩:Pos)])=some (Flow.next,(⟨t6 w.params,339,{},Array.mk [],{},622,os⟩:SharedT),cE,(⟨61,0,64,37⟩:Pos)):=g3 (by kernel_rfl)
theorem P6(w:World)(os:OsState):segRunT treeTable pw w 11 (some (.ref 6)) 1 990 (⟨t6 w.params,339,{},Array.mk [],{},622,os⟩:SharedT) (piecesOf sts6 env cE (⟨61,0,64,37⟩:Pos) [topFrame (⟨0,0,0,0⟩:Pos)])=some (Flow.next,(⟨t7 w.params,539,{},Array.mk [],{},926,os⟩:SharedT),cE,(⟨249,0,251,41⟩:Pos)):=g3 (by kernel_rfl)
theorem P7(w:World)(os:OsState):segRunT treeTable pw w 11 (some (.ref 6)) 1 200 (⟨t7 w.params,539,{},Array.mk [],{},926,os⟩:SharedT) (piecesOf sts7 env cE (⟨249,0,251,41⟩:Pos) [topFrame (⟨0,0,0,0⟩:Pos)])=some (Flow.next,(⟨t8 w.params,575,{},Array.mk [],{},978,os⟩:SharedT),cE,(⟨280,0,285,44⟩:Pos)):=g3 (by kernel_rfl)
theorem P8(w:World)(os:OsState):segRunT treeTable pw w 11 (some (.ref 6)) 1 1091 (⟨t8 w.params,575,{},Array.mk [],{},978,os⟩:SharedT) (piecesOf sts8 env cE (⟨280,0,285,44⟩:Pos) [topFrame (⟨0,0,0,0⟩:Pos)])=some (Flow.next,(⟨t9 w.params,778,{},Array.mk [],{},1251,os⟩:SharedT),cE,(⟨286,0,424,16⟩:Pos)):=g3 (by kernel_rfl)
theorem P9(w:World)(os:OsState):segRunT treeTable pw w 11 (some (.ref 6)) 1 875 (⟨t9 w.params,778,{},Array.mk [],{},1251,os⟩:SharedT) (piecesOf sts9 env cE (⟨286,0,424,16⟩:Pos) [topFrame (⟨0,0,0,0⟩:Pos)])=some (Flow.next,(⟨t10 w.params,928,{},Array.mk [],{},1503,os⟩:SharedT),cE,(⟨592,0,598,67⟩:Pos)):=g3 (by kernel_rfl)
theorem P10(w:World)(os:OsState):segRunT treeTable pw w 11 (some (.ref 6)) 1 764 (⟨t10 w.params,928,{},Array.mk [],{},1503,os⟩:SharedT) (piecesOf sts10 env cE (⟨592,0,598,67⟩:Pos) [topFrame (⟨0,0,0,0⟩:Pos)])=some (Flow.next,(⟨t11 w.params,1054,{},Array.mk [],{},1689,os⟩:SharedT),cE,(⟨764,0,777,87⟩:Pos)):=g3 (by kernel_rfl)
theorem Pfin(w:World)(os:OsState):topRun treeTable pw w 11 (some (.ref 6)) 2 (SharedT.abs (⟨t11 w.params,1054,{},Array.mk [],{},1689,os⟩:SharedT)) (⟨doneF .next,cE,(⟨764,0,777,87⟩:Pos),[topFrame (⟨0,0,0,0⟩:Pos)]⟩:Thread)=some (⟨hF w.params,Array.mk [],{},1689,os⟩:Shared):=g4 (by kernel_rfl)
theorem Pc0(w:World)(os:OsState):(openSeen q [] (importedModules pw.main.body) Xt true (⟨hF w.params,Array.mk [],{},1689,os⟩:Shared)).1=(openGood q []).1:=g5 (·.1) (by kernel_rfl)
theorem Pc1(w:World)(os:OsState):(openSeen q [] (importedModules pw.main.body) Xt true (⟨hF w.params,Array.mk [],{},1689,os⟩:Shared)).2.1=(openGood q []).2.1:=g5 (·.2.1) (by kernel_rfl)
theorem Pc2(w:World)(os:OsState):(openSeen q [] (importedModules pw.main.body) Xt true (⟨hF w.params,Array.mk [],{},1689,os⟩:Shared)).2.2.1=(openGood q []).2.2.1:=g5 (·.2.2.1) (by kernel_rfl)
theorem Pc3(w:World)(os:OsState):(openSeen q [] (importedModules pw.main.body) Xt true (⟨hF w.params,Array.mk [],{},1689,os⟩:Shared)).2.2.2.1=(openGood q []).2.2.2.1:=g5 (·.2.2.2.1) (by kernel_rfl)
theorem Pc4(w:World)(os:OsState):(openSeen q [] (importedModules pw.main.body) Xt true (⟨hF w.params,Array.mk [],{},1689,os⟩:Shared)).2.2.2.2.1=(openGood q []).2.2.2.2.1:=g5 (·.2.2.2.2.1) (by kernel_rfl)
theorem Pc5(w:World)(os:OsState):(openSeen q [] (importedModules pw.main.body) Xt true (⟨hF w.params,Array.mk [],{},1689,os⟩:Shared)).2.2.2.2.2.1=(openGood q []).2.2.2.2.2.1:=g5 (·.2.2.2.2.2.1) (by kernel_rfl)
theorem Pc6(w:World)(os:OsState):(openSeen q [] (importedModules pw.main.body) Xt true (⟨hF w.params,Array.mk [],{},1689,os⟩:Shared)).2.2.2.2.2.2.1=(openGood q []).2.2.2.2.2.2.1:=g5 (·.2.2.2.2.2.2.1) (by kernel_rfl)
theorem Pc7(w:World)(os:OsState):(openSeen q [] (importedModules pw.main.body) Xt true (⟨hF w.params,Array.mk [],{},1689,os⟩:Shared)).2.2.2.2.2.2.2.1=(openGood q []).2.2.2.2.2.2.2.1:=g5 (·.2.2.2.2.2.2.2.1) (by kernel_rfl)
theorem Pc8(w:World)(os:OsState):(openSeen q [] (importedModules pw.main.body) Xt true (⟨hF w.params,Array.mk [],{},1689,os⟩:Shared)).2.2.2.2.2.2.2.2=(openGood q []).2.2.2.2.2.2.2.2:=g5 (·.2.2.2.2.2.2.2.2) (by kernel_rfl)
theorem Pa(w:World)(os:OsState):(staticsOk (importedModules pw.main.body) (boot_heap w.params) (hF w.params)&&namesBound pw (hF w.params)&&gensDone (⟨hF w.params,Array.mk [],{},1689,os⟩:Shared)&&laidKept (boot_heap w.params) (hF w.params))=true:=g7 (by kernel_rfl)
theorem py_of{l:List Obj}{ks:List Addr}{n:Nat}(e:l.length=n)(al:(l.all fun o=>o.alive)=true)(h:(ks.all fun a=>Nat.blt a n)=true):ks.map (Heap.get? ⟨⟨l⟩,{}⟩)=(ks.map fun a=>(a,l.getD a o0)).map fun p=>some p.2:=by
 rw[List.map_map];refine List.map_congr_left fun a ha=>?_;have z:a < l.length:=by rw[e];exact Nat.blt_eq.mp (List.all_eq_true.mp h a ha)
 refine(Heap.get?_eq_some _ _ _).mpr ⟨?_,?_⟩
 ·show l.toArray[a]?=some (l.getD a o0);simp[z]
 ·have e:l.getD a o0=l[a]:=by simp[z]
  show(l.getD a o0).alive=true;rw[e];exact List.all_eq_true.mp al _ (List.getElem_mem z)
theorem Py(w:World)(os:OsState):kA.map ((⟨hF w.params,Array.mk [],{},1689,os⟩:Shared)).heap.get?=(K w.params).map fun p=>some p.2:=py_of (l:=lF w.params) (ks:=kA) (n:=1054) (by kernel_rfl) (by kernel_rfl) (by kernel_rfl)
theorem Pz(w:World):((boot_heap w.params).isNs mainGlobals&&(Array.mk []:Array GenState).size==0,(boot_heap w.params).objs.size,(boot_heap w.params).nsMap mainGlobals "__annotations__")=(true,11,(some (.ref 6))):=g9 (by kernel_rfl)
theorem run(w:World)(os:OsState):topRun treeTable pw w 11 (some (.ref 6)) (12+(1+(864+(853+(853+(853+(853+(991+(990+(200+(1091+(875+(764+2))))))))))))) (⟨boot_heap w.params,Array.mk [],boot_drawn,boot_toks,os⟩:Shared) (topStub pw)=some (⟨hF w.params,Array.mk [],{},1689,os⟩:Shared):=
 go_top (Ppre w os) (piece_block (Pblk w os) (piece_app (l:=sts0) (segRun_of (P0 w os)) (piece_app (l:=sts1) (segRun_of (P1 w os)) (piece_app (l:=sts2) (segRun_of (P2 w os)) (piece_app (l:=sts3) (segRun_of (P3 w os)) (piece_app (l:=sts4) (segRun_of (P4 w os)) (piece_app (l:=sts5) (segRun_of (P5 w os)) (piece_app (l:=sts6) (segRun_of (P6 w os)) (piece_app (l:=sts7) (segRun_of (P7 w os)) (piece_app (l:=sts8) (segRun_of (P8 w os)) (piece_app (l:=sts9) (segRun_of (P9 w os)) (piece_app (l:=sts10) (segRun_of (P10 w os)) (piece_nil (Pfin w os))))))))))))))
theorem opn:opening pw=plainProg pw.main.scope.names:=by kernel_rfl
theorem fen(s:Shared):fenceModules? pw s=some s:=by kernel_rfl
theorem left:LeftO pw q [] Xt (Hook.obs (kHook K kA kOk)) (Hook.val (kHook K kA kOk)) 18478:=
 LeftO.of_pieces (H₀:=boot_heap) (H₁:=hF) (boot_open opn (by decide) fen) Pz run (by decide) fun w=>funext fun os=>Prod.ext (Pa w os) (Prod.ext (Prod.ext (Pc0 w os) (Prod.ext (Pc1 w os) (Prod.ext (Pc2 w os) (Prod.ext (Pc3 w os) (Prod.ext (Pc4 w os) (Prod.ext (Pc5 w os) (Prod.ext (Pc6 w os) (Prod.ext (Pc7 w os) (Pc8 w os))))))))) (Py w os))
end
end Hd
set_option tactic.hygienic false
set_option bootstrap.genMatcherCode false
set_option genSizeOf false
set_option maxHeartbeats 1000000
namespace L2
open PySem PySem.Spec PyProof.Rows
inductive KD where
 | i (n:Int) | s (x:Str) | t (l:List KD)
mutual
noncomputable def Y3:KD->KD->Bool
 | .i n,.i m=>n==m
 | .s x,.s y=>x==y
 | .t l,.t m=>ZM l m
 | _,_=>false
noncomputable def ZM:List KD->List KD->Bool
 | [],[]=>true
 | a::l,b::m=>Y3 a b&&ZM l m
 | _,_=>false
end
mutual
theorem vk:∀{a b:KD},Y3 a b=true↔a=b
 | .i n,.i m=>by rw[Y3];simp
 | .s n,.s m=>by rw[Y3];simp
 | .t l,.t m=>by rw[Y3,gl];simp
 | .i _,.s _=>by simp[Y3]
 | .i _,.t _=>by simp[Y3]
 | .s _,.i _=>by simp[Y3]
 | .s _,.t _=>by simp[Y3]
 | .t _,.i _=>by simp[Y3]
 | .t _,.s _=>by simp[Y3]
theorem gl:∀{a b:List KD},ZM a b=true↔a=b
 | [],[]=>by simp[ZM]
 | a::l,b::m=>by rw[ZM,Bool.and_eq_true,vk,gl];simp
 | [],_::_=>by simp[ZM]
 | _::_,[]=>by simp[ZM]
end
noncomputable instance:DecidableEq KD:=fun a b=>decidable_of_iff (Y3 a b=true) vk
mutual
noncomputable def jv(h:Heap):KD->Value->Prop
 | .i n,v=>(∃t,v=.int n t) \/∃b:Bool,v=.bool b/\n=(if b then 1 else 0)
 | .s x,v=>∃t,v=.str x t
 | .t l,v=>∃a its,v=.ref a/\h.IsTuple a its/\jA h l its.toList
noncomputable def jA(h:Heap):List KD->List Value->Prop
 | [],vs=>vs=[]
 | k::ks,vs=>∃v r,vs=v::r/\jv h k v/\jA h ks r
end
mutual
noncomputable def KD.dep:KD->Nat
 | .i _=>0
 | .s _=>0
 | .t l=>Yz l+1
noncomputable def Yz:List KD->Nat
 | []=>0
 | k::ks=>max k.dep (Yz ks)
end
mutual
noncomputable def KD.drw:KD->Nat
 | .i _=>1
 | .s _=>1
 | .t l=>vm l+1
noncomputable def vm:List KD->Nat
 | []=>0
 | k::ks=>k.drw+vm ks
end
mutual
noncomputable def Zj(w:World):KD->Int
 | .i n=>hashInt n
 | .s x=>hashStr w x
 | .t l=>reduceHash (Builtin.Tuple.tupleHashOf (zR w l))
noncomputable def zR(w:World):List KD->List Int
 | []=>[]
 | k::ks=>Zj w k::zR w ks
end
mutual
theorem jv.inj{h:Heap}:∀{x y:KD} {v:Value},jv h x v->jv h y v->x=y
 | .i n,.i m,v,p,q=>by
  rw[jv]at p;rw[jv]at q;rcases p with⟨t,rfl⟩ | ⟨b,rfl,rfl⟩
  ·rcases q with⟨t,e⟩ | ⟨b,e,_⟩ <;> cases e
   rfl
  ·rcases q with⟨t,e⟩ | ⟨b,e,rfl⟩ <;> cases e
   rfl
 | .s n,.s m,v,p,q=>by
  rw[jv]at p;rw[jv]at q;obtain⟨t,rfl⟩:=p;obtain⟨t,e⟩:=q;cases e;rfl
 | .t n,.t m,v,p,q=>by
  rw[jv]at p;rw[jv]at q;obtain⟨a,its,rfl,o1,p⟩:=p;obtain⟨a',its',e,o2,q⟩:=q;cases e;obtain⟨o,g,_,_,d⟩:=o1;obtain⟨o',g',_,_,d'⟩:=o2;rw[g]at g';cases g';rw[d]at d';cases d';rw[jA.inj p q]
 | .i n,.s m,v,p,q=>by
  rw[jv]at p;rw[jv]at q;obtain⟨t,rfl⟩:=q;rcases p with⟨t,e⟩ | ⟨b,e,_⟩ <;> cases e
 | .i n,.t m,v,p,q=>by
  rw[jv]at p;rw[jv]at q;obtain⟨_,_,rfl,_⟩:=q;rcases p with⟨t,e⟩ | ⟨b,e,_⟩ <;> cases e
 | .s n,.i m,v,p,q=>by
  rw[jv]at p;rw[jv]at q;obtain⟨t,rfl⟩:=p;rcases q with⟨t,e⟩ | ⟨b,e,_⟩ <;> cases e
 | .s n,.t m,v,p,q=>by
  rw[jv]at p;rw[jv]at q;obtain⟨t,rfl⟩:=p;obtain⟨_,_,e,_⟩:=q;cases e
 | .t n,.i m,v,p,q=>by
  rw[jv]at p;rw[jv]at q;obtain⟨_,_,rfl,_⟩:=p;rcases q with⟨t,e⟩ | ⟨b,e,_⟩ <;> cases e
 | .t n,.s m,v,p,q=>by
  rw[jv]at p;rw[jv]at q;obtain⟨_,_,rfl,_⟩:=p;obtain⟨t,e⟩:=q;cases e
theorem jA.inj{h:Heap}:∀{x y:List KD} {v:List Value},jA h x v->jA h y v->x=y
 | [],[],_,_,_=>rfl
 | [],_::_,_,p,q=>by
  rw[jA]at p;rw[jA]at q;subst p;obtain⟨_,_,e,_⟩:=q;cases e
 | _::_,[],_,p,q=>by
  rw[jA]at p;rw[jA]at q;subst q;obtain⟨_,_,e,_⟩:=p;cases e
 | x::xs,y::ys,_,p,q=>by
  rw[jA]at p;rw[jA]at q;obtain⟨v,r,rfl,p1,p2⟩:=p;obtain⟨v',r',e,q1,q2⟩:=q;cases e;rw[jv.inj p1 q1,jA.inj p2 q2]
end
mutual
theorem jv.keep{h h':Heap}(m:∀a its,h.IsTuple a its->h'.IsTuple a its):∀{k:KD} {v:Value},jv h k v->jv h' k v
 | .i _,_,p=>by rw[jv]at p⊢;exact p
 | .s _,_,p=>by rw[jv]at p⊢;exact p
 | .t l,_,p=>by
  rw[jv]at p⊢;obtain⟨a,its,rfl,o,p⟩:=p;exact⟨a,its,rfl,m a its o,jA.keep m p⟩
theorem jA.keep{h h':Heap}(m:∀a its,h.IsTuple a its->h'.IsTuple a its):∀{k:List KD} {v:List Value},jA h k v->jA h' k v
 | [],_,p=>by rw[jA]at p⊢;exact p
 | k::ks,_,p=>by
  rw[jA]at p⊢;obtain⟨v,r,rfl,p1,p2⟩:=p;exact⟨v,r,rfl,jv.keep m p1,jA.keep m p2⟩
end
section
theorem K1(hu:A.units < cLine)(h:Q (hashInt (if b then 1 else 0)) { s with toks:=s.toks+1 }):wpAny (model prog w) A (pyHash (.bool b)) Q E s:=by
 refine PySem.W.pyHash_slot (v:=.bool b) (T := "bool") rfl F.slot_bool_hash entry_int_hash (args_int_hash _) (beq_builtin_none _) (.inr hu) ?_;cases b
 ·exact(show wpAny _ _ (do ret (<-mkInt 0)) _ _ s from wAa (wpAny_mkInt (wBa ⟨_,_,rfl,by
    have e:reduceHash 0=hashInt 0:=by decide
    rw[e];exact h⟩)))
 ·exact(show wpAny _ _ (do ret (<-mkInt 1)) _ _ s from wAa (wpAny_mkInt (wBa ⟨_,_,rfl,by
    have e:reduceHash 1=hashInt 1:=by decide
    rw[e];exact h⟩)))
mutual
theorem gp:∀(k:KD) (v:Value) (A:Around) (s:Shared) (Q:Int->Shared->Prop),jv s.heap k v->A.units+k.dep < cLine->Q (Zj w k) { s with toks:=s.toks+k.drw }->wpAny (model prog w) A (pyHash v) Q E s
 | .i n,v,A,s,Q,p,hu,h=>by
  rw[jv]at p;rw[Zj,KD.drw]at h;rcases p with⟨t,rfl⟩ | ⟨b,rfl,rfl⟩
  ·exact wpAny_pyHash_int h
  ·exact K1 (by rw[KD.dep]at hu;exact hu) h
 | .s x,v,A,s,Q,p,hu,h=>by
  rw[jv]at p;rw[Zj,KD.drw]at h;obtain⟨t,rfl⟩:=p;exact wpAny_pyHash_str h
 | .t l,v,A,s,Q,p,hu,h=>by
  rw[jv]at p;rw[Zj,KD.drw]at h;rw[KD.dep]at hu;obtain⟨a,its,rfl,o,p⟩:=p;obtain⟨ob,g,c,n,dt⟩:=o;refine PySem.W.pyHash_slot (v:=.ref a) (T := "tuple") ⟨_,g,c⟩ F.slot_tuple_hash F.entry_tuple_hash (F.args_tuple_hash_1 _) (beq_builtin_none _) (.inr (by lia)) ?_;refine(show wpAny _ _ (Builtin.Tuple.tupleItemsOf (.ref a) >>= _) _ _ s from wAa (wpAny_tupleItemsOf g dt (wAa ?_)));rw[<-Array.forIn_toList];refine uq l its.toList A.in1 s #[] _ p (by rw[Around.in1_units];lia) fun b' hb=>?_;show wpAny _ _ (retInt (Builtin.Tuple.tupleHashOf b'.toList)) _ _ _;rw[hb];exact wAa (wpAny_mkInt (wBa ⟨_,_,rfl,by simpa[Nat.add_assoc]using h⟩))
theorem uq:∀(ks:List KD) (vs:List Value) (A:Around) (s:Shared) (b:Array Int) (Q:Array Int->Shared->Prop),jA s.heap ks vs->A.units+Yz ks < cLine->(∀b':Array Int,b'.toList=b.toList++zR w ks->Q b' { s with toks:=s.toks+vm ks })->
  wpAny (model prog w) A (forIn vs b fun x r=>do let h<-pyHash x;pure (ForInStep.yield (r.push h))) Q E s
 | [],vs,A,s,b,Q,p,hu,h=>by
  rw[jA]at p;subst p;rw[List.forIn_nil];exact wBa (by simpa[vm,zR]using h b)
 | k::ks,vs,A,s,b,Q,p,hu,h=>by
  rw[jA]at p;rw[Yz]at hu;obtain⟨v,r,rfl,p1,p2⟩:=p;rw[List.forIn_cons];refine wAa (wAa (gp k v A s _ p1 (by lia) (wBa ?_)));refine uq ks r A _ _ Q p2 (by lia) fun b' hb=>?_;have:=h b' (by rw[hb,zR];simp);rw[vm]at this;simpa[Nat.add_assoc]using this
end
end
section
open SeqAt
variable {s:Shared}
theorem Y_{α:Type}[DecidableEq α]{a b:α}{c:Bool}(h:c=true↔a=b):decide (a=b)=c:=by
 cases c with
 | true=>exact decide_eq_true (h.mp rfl)
 | false=>exact vBa fun z=>by have:=h.mpr z;cases this
theorem jA.len:∀{ks:List KD} {vs:List Value},jA h ks vs->vs.length=ks.length
 | [],_,p=>by rw[jA]at p;subst p;rfl
 | k::ks,_,p=>by
  rw[jA]at p;obtain⟨v,r,rfl,_,p2⟩:=p;simp[p2.len]
theorem jA.get:∀{ks:List KD} {vs:List Value} {j:Nat} {v:Value},jA h ks vs->vs[j]?=some v->∃k,ks[j]?=some k/\jv h k v
 | [],_,_,_,p,e=>by rw[jA]at p;subst p;simp at e
 | k::ks,_,j,v',p,e=>by
  rw[jA]at p;obtain⟨v,r,rfl,p1,p2⟩:=p;cases j with
  | zero=>cases e;exact⟨k,rfl,p1⟩
  | succ j=>exact p2.get (j:=j) e
theorem Vt:∀{ks:List KD} {k:KD},k∈ks->k.dep<=Yz ks
 | [],_,h=>by cases h
 | x::xs,k,h=>by
  rw[Yz];rcases uTa h with rfl | h
  ·lia
  ·have:=Vt h
   lia
theorem WT:∀(n:Nat) (x y:KD) (u v:Value) (A:Around),x.dep<=n->jv s.heap x u->jv s.heap y v->A.units+n < cLine->EqAt A s u v (decide (x=y))
 | n,.i a,.i b,u,v,A,hn,p,q,hu=>by
  rw[jv]at p;rw[jv]at q;rcases p with⟨t,rfl⟩ | ⟨c,rfl,rfl⟩
  ·rcases q with⟨t',rfl⟩ | ⟨c',rfl,rfl⟩
   ·rw[Y_ (c:=(a==b)) (by simp)];exact .int_int a t b t'
   ·rw[Y_ (c:=(a==if c' then 1 else 0)) (by simp)];exact .int_bool a t c'
  ·rcases q with⟨t',rfl⟩ | ⟨c',rfl,rfl⟩
   ·rw[Y_ (c:=((if c then 1 else 0)==b)) (by simp)];exact .bool_int c b t'
   ·rw[Y_ (c:=(c==c')) (by cases c <;> cases c' <;> simp)];exact .bool_bool c c'
 | n,.s a,.s b,u,v,A,hn,p,q,hu=>by
  rw[jv]at p;rw[jv]at q;obtain⟨t,rfl⟩:=p;obtain⟨t',rfl⟩:=q;rw[Y_ (c:=(a==b)) (by simp)];exact .str_str a t b t'
 | n,.i a,.s b,u,v,A,hn,p,q,hu=>by
  rw[jv]at p;rw[jv]at q;obtain⟨t',rfl⟩:=q;rw[decide_eq_false (by intro z;cases z)];rcases p with⟨t,rfl⟩ | ⟨c,rfl,rfl⟩
  ·exact .int_str a t b t'
  ·exact .bool_str c b t'
 | n,.s a,.i b,u,v,A,hn,p,q,hu=>by
  rw[jv]at p;rw[jv]at q;obtain⟨t',rfl⟩:=p;rw[decide_eq_false (by intro z;cases z)];rcases q with⟨t,rfl⟩ | ⟨c,rfl,rfl⟩
  ·exact .str_int a t' b t
  ·exact .str_bool a t' c
 | n,.i a,.t b,u,v,A,hn,p,q,hu=>by
  rw[jv]at p;rw[jv]at q;obtain⟨e,its,rfl,o,_⟩:=q;rw[decide_eq_false (by intro z;cases z)];rcases p with⟨t,rfl⟩ | ⟨c,rfl,rfl⟩
  ·exact .int_tuple a t o (by lia)
  ·exact .bool_tuple c o (by lia)
 | n,.t a,.i b,u,v,A,hn,p,q,hu=>by
  rw[jv]at p;rw[jv]at q;obtain⟨e,its,rfl,o,_⟩:=p;rw[decide_eq_false (by intro z;cases z)];rcases q with⟨t,rfl⟩ | ⟨c,rfl,rfl⟩
  ·exact .tuple_int b t o (by lia)
  ·exact .tuple_bool c o (by lia)
 | n,.s a,.t b,u,v,A,hn,p,q,hu=>by
  rw[jv]at p;rw[jv]at q;obtain⟨e,its,rfl,o,_⟩:=q;obtain⟨t,rfl⟩:=p;rw[decide_eq_false (by intro z;cases z)];exact .str_tuple a t o (by lia)
 | n,.t a,.s b,u,v,A,hn,p,q,hu=>by
  rw[jv]at p;rw[jv]at q;obtain⟨e,its,rfl,o,_⟩:=p;obtain⟨t,rfl⟩:=q;rw[decide_eq_false (by intro z;cases z)];exact .tuple_str b t o (by lia)
 | 0,.t a,.t b,u,v,A,hn,p,q,hu=>by rw[KD.dep]at hn;lia
 | n+1,.t a,.t b,u,v,A,hn,p,q,hu=>by
  rw[KD.dep]at hn;rw[jv]at p;rw[jv]at q;obtain⟨l,its,rfl,o,p⟩:=p;obtain⟨l',its',rfl,o',q⟩:=q;by_cases hl:l=l'
  ·subst hl;obtain⟨z,g,_,_,d⟩:=o;obtain⟨z',g',_,_,d'⟩:=o';rw[g]at g';cases g';rw[d]at d';cases d';rw[jA.inj p q,decide_eq_true rfl];exact .same _
  ·have l1:=p.len;have l2:=q.len;have ev:=RcAt.tuples (A:=A) (e:=fun j=>decide (a[j]?=b[j]?)) o o' (by lia) fun j h1 h2=>by
    have g1:its.toList[j]?=some its[j]:=by simp[h1]
    have g2:its'.toList[j]?=some its'[j]:=by simp[h2]
    obtain⟨k1,e1,r1⟩:=p.get g1;obtain⟨k2,e2,r2⟩:=q.get g2;have:=WT n k1 k2 _ _ A.in1 (wSa (Vt (wYa e1)) (by lia)) r1 r2 (by rw[Around.in1_units];lia);rw[e1,e2];have ee:decide (some k1=some k2)=decide (k1=k2):=by
     by_cases z:k1=k2
     ·rw[decide_eq_true z,decide_eq_true (by rw[z])]
     ·rw[decide_eq_false z,decide_eq_false (fun y=>z (Option.some.inj y))]
    rw[ee];exact this
   refine .of_refs hl ?_;rw[Y_ (c:=((List.range (min its.size its'.size)).all (fun j=>decide (a[j]?=b[j]?))&&its.size==its'.size))]
   ·exact ev
   ·rw[Bool.and_eq_true,beq_iff_eq,List.all_eq_true];have z1:its.size=a.length:=by rw[<-l1];simp
    have z2:its'.size=b.length:=by rw[<-l2];simp
    rw[z1,z2];constructor
    ·rintro⟨h1,h2⟩;congr 1;refine List.ext_getElem? fun j=>?_;by_cases hj:j < a.length
     ·exact of_decide_eq_true (h1 j (by simp;lia))
     ·rw[List.getElem?_eq_none (by lia),List.getElem?_eq_none (by lia)]
    ·intro h;cases h;exact⟨fun j _=>by simp,rfl⟩
end
section
theorem ur:∀(n:Nat) (k:KD) (v:Value) (A:Around) (Q:Bool->Shared->Prop),k.dep<=n->jv s.heap k v->Q true s->wpAny (model prog w) A (eqIsQuiet n v) Q E s
 | n,.i _,v,A,Q,_,p,h=>by
  rw[jv]at p;rcases p with⟨t,rfl⟩ | ⟨b,rfl,_⟩
  ·rw[eqIsQuiet_byValue n (v:=.int _ t) rfl];exact wBa h
  ·rw[eqIsQuiet_byValue n (v:=.bool b) rfl];exact wBa h
 | n,.s x,v,A,Q,_,p,h=>by
  rw[jv]at p;obtain⟨t,rfl⟩:=p;rw[eqIsQuiet_byValue n (v:=.str x t) rfl];exact wBa h
 | 0,.t l,v,A,Q,hn,p,h=>by rw[KD.dep]at hn;lia
 | n+1,.t l,v,A,Q,hn,p,h=>by
  rw[KD.dep]at hn;rw[jv]at p;obtain⟨a,its,rfl,o,p⟩:=p;obtain⟨ob,g,c,m,dt⟩:=o;have ty:s.TypeIs (.ref a) "tuple" := ⟨ob,g,c⟩
  unfold eqIsQuiet;refine wAa (wpAny_specialOf ty F.slot_tuple_eq.lookup ?_);refine(show wpAny _ _ (isInstance (.ref a) (.type "tuple") >>= _) _ _ s from wAa (wpAny_isInstance ty isSubtype_tuple_tuple ?_));rw[if_neg (by decide)];refine wAa (wpAny_seqItems g dt (wAa ?_));rw[Option.getD_some,<-Array.forIn_toList];have ql:∀(rest:List Value),(∃ks,jA s.heap ks rest/\Yz ks<=n)->wpAny (model prog w) A (forIn rest ((none:Option Bool),PUnit.unit) fun y r=>do
    if (!(<-eqIsQuiet n y))=true then pure (ForInStep.done (some false,PUnit.unit))else do pure PUnit.unit;pure (ForInStep.yield (none,PUnit.unit))) (fun r s'=>r=(none,PUnit.unit)/\s'=s) E s:=by
   intro rest;induction rest with
   | nil=>intro _;rw[List.forIn_nil];exact wBa ⟨rfl,rfl⟩
   | cons y rest ih=>
    rintro⟨ks,hk,hd⟩;cases ks with
    | nil=>rw[jA]at hk;cases hk
    | cons k ks=>
     rw[jA]at hk;obtain⟨_,_,e,k1,k2⟩:=hk;cases e;rw[Yz]at hd;rw[List.forIn_cons];refine wAa (wAa (ur n k y A _ (by lia) k1 ?_));rw[if_neg (by decide)];exact wBa (ih ⟨ks,k2,by lia⟩)
  refine wCa (ql its.toList ⟨l,p,by lia⟩) ?_ fun _ _ x=>x;rintro r s' ⟨rfl,rfl⟩;exact wBa h
end
def jM(prog:Program)(w:World):HeapKind prog w KD where
 is:=fun h k a=>jv h k (.ref a)/\k.dep<=8
 hash:=Zj w
 draws:=KD.drw
 room:=fun A=>A.units+8 < cLine
 inj:=fun p q=>p.1.inj q.1
 keeps:=fun p ho hd hs=>by
  refine⟨p.1.keep fun b its t=>?_,p.2⟩;obtain⟨ob,g,c,m,dt⟩:=t;refine⟨ob,(hs.2 b ?_).trans g,c,m,dt⟩;rintro rfl;rw[ho]at g;cases g;rw[hd]at dt;cases dt
 pyHash:=fun hu p h=>gp _ _ _ _ _ p.1 (by have:=p.2;lia) h
 eqBool:=fun hu p q h=>WT 8 _ _ _ _ _ p.2 p.1 q.1 hu _ _ _ _ h
 quiet:=fun p h=>ur 8 _ _ _ _ p.2 p.1 h
noncomputable abbrev JL:=Sum Int Str
noncomputable def vn:JL->Value->Bool
 | .inl k,v=>Value.isInt k v
 | .inr x,v=>Value.isStrOf x v
noncomputable def eO(w:World):JL->Int
 | .inl k=>hashInt k
 | .inr x=>hashStr w x
theorem jU:∀{k:JL} {v:Value},vn k v=true->(∃i t,k=Sum.inl i/\v=Value.int i t) \/ (∃x t,k=Sum.inr x/\v=Value.str x t)
 | .inl i,v,h=>by
  obtain⟨t,e⟩:=Value.isInt_shape (k:=i) (v:=v) h;exact .inl ⟨i,t,rfl,e⟩
 | .inr x,v,h=>by
  obtain⟨t,e⟩:=Value.isStrOf_shape (x:=x) (v:=v) h;exact .inr ⟨x,t,rfl,e⟩
theorem K2(x:Str)(t:Tok):vn (.inr x) (.str x t)=true:=by simp[vn,Value.isStrOf]
theorem Xu(a b:Int):decide ((Sum.inl a:JL)=Sum.inl b)=(a==b):=by
 by_cases e:a=b
 ·subst e;simp
 ·have h:¬(Sum.inl a:JL)=Sum.inl b:=fun q=>e (Sum.inl.inj q);rw[decide_eq_false h];exact(beq_eq_false_iff_ne.mpr e).symm
theorem Xv(a b:Str):decide ((Sum.inr a:JL)=Sum.inr b)=decide (a=b):=by
 by_cases e:a=b
 ·subst e;simp
 ·have h:¬(Sum.inr a:JL)=Sum.inr b:=fun q=>e (Sum.inr.inj q);rw[decide_eq_false h,decide_eq_false e]
theorem Xw(a:Int)(b:Str):decide ((Sum.inl a:JL)=Sum.inr b)=false:=vBa (fun q=>nomatch q)
theorem Xx(a:Str)(b:Int):decide ((Sum.inr a:JL)=Sum.inl b)=false:=vBa (fun q=>nomatch q)
def Jj(prog:Program)(w:World):PySem.KeyKind prog w JL where
 is:=vn
 hash:=eO w
 inj:=fun v a b ha hb=>by
  rcases jU ha with⟨i,t,rfl,rfl⟩ | ⟨x,t,rfl,rfl⟩
  ·rcases jU hb with⟨j,u,rfl,e⟩ | ⟨y,u,rfl,e⟩
   ·injection e with e1 _;rw[e1]
   ·exact nomatch e
  ·rcases jU hb with⟨j,u,rfl,e⟩ | ⟨y,u,rfl,e⟩
   ·exact nomatch e
   ·injection e with e1 _;rw[e1]
 byValue:=fun k v h=>by
  rcases jU h with⟨i,t,rfl,rfl⟩ | ⟨x,t,rfl,rfl⟩ <;> rfl
 pyHash:=fun hv h=>by
  rcases jU hv with⟨i,t,rfl,rfl⟩ | ⟨x,t,rfl,rfl⟩
  ·exact wpAny_pyHash_int h
  ·exact wpAny_pyHash_str h
 eqBool:=fun hu hv h=>by
  rcases jU hu with⟨i,t,rfl,rfl⟩ | ⟨x,t,rfl,rfl⟩
  ·rcases jU hv with⟨j,u,rfl,rfl⟩ | ⟨y,u,rfl,rfl⟩
   ·rw[Xu]at h;exact wpAny_eqBool_int h
   ·rw[Xw]at h;exact SeqAt.EqAt.int_str i t y u _ _ _ _ h
  ·rcases jU hv with⟨j,u,rfl,rfl⟩ | ⟨y,u,rfl,rfl⟩
   ·rw[Xx]at h;exact SeqAt.EqAt.str_int x t j u _ _ _ _ h
   ·rw[Xv]at h;exact wpAny_eqBool_str h
 «strs»:=fun k x t v h=>by
  rcases jU h with⟨i,u,rfl,e⟩ | ⟨y,u,rfl,e⟩
  ·exact nomatch e
  ·injection e with e1 _;subst e1;cases v <;> rfl
theorem Gs(prog:Program)(w:World)(k:JL)(v:Value):(Jj prog w).is k v=vn k v:=rfl
theorem yJ(prog:Program)(w:World)(x:Str)(t:Tok):(Jj prog w).is (.inr x) (.str x t)=true:=K2 x t
inductive V where
 | non | bl (b:Bool) | int (i:Int) | str (x:Str) | byt (b:Array UInt8) | flt (b:UInt64) | ref (a:Addr) | ty (n:String)
 deriving DecidableEq
def je:V->Value->Prop
 | .non,u=>u=Value.none
 | .bl b,u=>u=Value.bool b
 | .int i,u=>∃t,u=Value.int i t
 | .str x,u=>∃t,u=Value.str x t
 | .byt b,u=>∃t,u=Value.bytes b t
 | .flt b,u=>∃t,u=Value.float b t
 | .ref a,u=>u=Value.ref a
 | .ty n,u=>u=Value.type n
abbrev jd:List V->List Value->Prop:=Paired je
theorem jd.length{xs:List V}{us:List Value}(r:jd xs us):xs.length=us.length:=Paired.length r
theorem jd.get:∀{xs:List V} {us:List Value} {i:Nat} {x:V},jd xs us->xs[i]?=some x->∃u,us[i]?=some u/\je x u
 | _,_,_,_,.nil,e=>by simp at e
 | _,_,0,_,.cons r _,e=>by simp at e;subst e;exact⟨_,rfl,r⟩
 | _,_,i+1,x,.cons _ t,e=>by
  obtain⟨u,h1,h2⟩:=jd.get (i:=i) (x:=x) t (by simpa using e);exact⟨u,by simpa using h1,h2⟩
theorem jd.set(r:je x u):∀{xs:List V} {us:List Value} (i:Nat),jd xs us->jd (xs.set i x) (us.set i u)
 | _,_,_,.nil=>.nil
 | _,_,0,.cons _ t=>.cons r t
 | _,_,i+1,.cons q t=>.cons q (jd.set r i t)
theorem jd.append:∀{xs ys:List V} {us ws:List Value},jd xs us->jd ys ws->jd (xs++ys) (us++ws)
 | _,_,_,_,.nil,s=>s
 | _,_,_,_,.cons r t,s=>.cons r (jd.append t s)
theorem jd.take:∀{xs:List V} {us:List Value} (n:Nat),jd xs us->jd (xs.take n) (us.take n)
 | _,_,0,_=>.nil
 | _,_,_+1,.nil=>.nil
 | _,_,n+1,.cons r t=>.cons r (jd.take n t)
theorem jd.drop:∀{xs:List V} {us:List Value} (n:Nat),jd xs us->jd (xs.drop n) (us.drop n)
 | _,_,0,r=>r
 | _,_,_+1,.nil=>.nil
 | _,_,n+1,.cons _ t=>jd.drop n t
def YO:Option V->Option Value->Prop
 | some v,some u=>je v u
 | none,none=>True
 | _,_=>False
def KV:List (κ×V)->List (κ×Value)->Prop:=Paired fun(p:κ×V) (q:κ×Value)=>p.1=q.1/\je p.2 q.2
inductive HO where
 | lst (xs:List V)
 | tup (xs:List V)
 | dK (kvs:List (JL×V)) (ep:Nat)
 | mem (K:uXa) (l:List (KD×Bool)) (m:List KD)
 | dD (kvs:List (KD×Addr×V)) (ep:Nat)
 | set (S:Int->Bool) (n:Nat)
 | ins (C dx:Addr) (fs:List (Str×V))
 | own (x:Addr)
 | xd (fs:List (Str×V))
 | met (f x:Addr)
 | rng (lo hi:Int)
 | frz (o:Obj) (u:HO)
 | tbl (ps:Array Value)
 | ext (φ:Heap->Prop)
noncomputable abbrev Hp:=Addr->Option HO
noncomputable def upd(H:Hp)(a:Addr)(o:HO):Hp:=fun b=>if b=a then some o else H b
theorem jc:upd H a o a=some o:=by unfold upd;rw[if_pos rfl]
theorem j7{H:Hp}{a b:Addr}{o:HO}(h:b≠a):upd H a o b=H b:=by unfold upd;rw[if_neg h]
theorem jo{H:Hp}{a b:Addr}{o:HO}(h:H a=some o)(h':H b=none):a≠b:=by
 intro e;subst e;rw[h]at h';cases h'
def TF:HO->Prop
 | .tup _=>True
 | .frz _ _=>True
 | _=>False
def vo(K:uXa)(H:Hp)(a:Addr)(xs:List V):Prop:=(H a=some (.tup xs) \/∃o,H a=some (.frz o (.tup xs))) \/
  ∃(o:Obj) (its:Array Value) (n:Nat),K.lookup a=some o/\o.cls=.type "tuple" /\o.data=.seq its n/\its.size<=sizeLine/\jd xs its.toList
theorem vo.stay{K:uXa}{H H':Hp}{a:Addr}{xs:List V}(h:vo K H a xs)(ht:∀b u,TF u->H b=some u->H' b=some u):vo K H' a xs:=by
 rcases h with(h | ⟨o,h⟩) | h
 ·exact .inl (.inl (ht _ _ trivial h))
 ·exact .inl (.inr ⟨o,ht _ _ trivial h⟩)
 ·exact .inr h
mutual
noncomputable def Jp(K:uXa)(H:Hp):KD->V->Prop
 | .i n,v=>v=.int n \/∃b:Bool,v=.bl b/\n=(if b then 1 else 0)
 | .s x,v=>v=.str x
 | .t l,v=>∃a vs,v=.ref a/\vo K H a vs/\JF K H l vs
noncomputable def JF(K:uXa)(H:Hp):List KD->List V->Prop
 | [],vs=>vs=[]
 | k::ks,vs=>∃v r,vs=v::r/\Jp K H k v/\JF K H ks r
end
mutual
theorem Jp.stay{K:uXa}{H H':Hp}(ht:∀b u,TF u->H b=some u->H' b=some u):∀{k:KD} {v:V},Jp K H k v->Jp K H' k v
 | .i n,v,h=>by rw[Jp]at h⊢;exact h
 | .s x,v,h=>by rw[Jp]at h⊢;exact h
 | .t l,v,h=>by
  rw[Jp]at h⊢;obtain⟨a,vs,e,t,q⟩:=h;exact⟨a,vs,e,t.stay ht,JF.stay ht q⟩
theorem JF.stay{K:uXa}{H H':Hp}(ht:∀b u,TF u->H b=some u->H' b=some u):∀{ks:List KD} {vs:List V},JF K H ks vs->JF K H' ks vs
 | [],vs,h=>by rw[JF]at h⊢;exact h
 | k::ks,vs,h=>by
  rw[JF]at h⊢;obtain⟨v,r,e,t,q⟩:=h;exact⟨v,r,e,Jp.stay ht t,JF.stay ht q⟩
end
section
variable (P:Program) (w:World)
def jC(H:Hp)(h:Heap)(a:Addr):HO->Prop
 | .lst xs=>xs.length<=sizeLine/\∃(its:List Value) (n:Nat),jd xs its/\h.get? a=some { cls:=.type "list",data:=.seq its.toArray n }
 | .tup xs=>xs.length<=sizeLine/\∃its:List Value,jd xs its/\IsTup h a its.toArray
 | .dK kvs ep=>kvs.length<=sizeLine/\(a==sysModules)=false/\∃vs,KV kvs vs/\∃o es,h.get? a=some o/\o.ExactDict/\o.data=.dict es ep/\KeysOf (Jj P w) es/\Pairs (Jj P w) es.toList vs/\(vs.map (·.1)).Nodup
 | .mem K l m=>l.length<=sizeLine/\(a==sysModules)=false/\∃xs:List (KD×Addr×Bool),
   (∀q∈xs,(q.1,q.2.2)∈l/\Jp K H q.1 (.ref q.2.1)/\q.1.dep<=8)/\(∀k∈m,k∈xs.map (·.1))/\
   ∃o es ep,h.get? a=some o/\o.ExactDict/\o.data=.dict es ep/\es.toList=(xs.map fun q=>(q.1,q.2.1,Value.bool q.2.2)).map (entryOfKey (jM P w))/\(xs.map (·.1)).Nodup
 | .dD kvs ep=>kvs.length<=sizeLine/\(a==sysModules)=false/\(kvs.map (·.1)).Nodup/\∃xs:List (KD×Addr×Value),
   Paired (fun(p:KD×Addr×V) (q:KD×Addr×Value)=>p.1=q.1/\p.2.1=q.2.1/\je p.2.2 q.2.2) kvs xs/\
   ∃o es,h.get? a=some o/\o.ExactDict/\o.data=.dict es ep/\es.toList=xs.map (entryOfKey (jM P w))
 | .set S n=>h.SetOf (intKind P w) a S n
 | .ins C dx fs=>H dx=some (.own a)/\fs.length<=1000/\dx≠a/\h.get? a=some (PySem.W.instObj C dx)/\
   ∃mA,h.Ns1 dx mA/\(∀f,YO (fs.lookup f) (mA f))/\PySem.Within mA (fs.map (·.1))
 | .own _=>∃o,h.get? a=some o
 | .xd fs=>∃mA,h.Ns1 a mA/\∀f,YO (fs.lookup f) (mA f)
 | .rng lo hi=>∃t u v,h.get? a=some { cls:=.type "range",data:=.fields #[.int lo t,.int hi u,.int 1 v] }
 | .frz o u=>h.get? a=some o/\jC H h a u
 | .tbl ps=>h.get? a=some { cls:=.none,data:=.fields ps }
 | .met f x=>h.get? a=some (PySem.W.methodObj (.ref f) (.ref x))
 | .ext φ=>φ h/\(∃o,h.get? a=some o)/\∀h1 h2:Heap,φ h1->(∀o,h1.get? a=some o->h2.get? a=some o)->φ h2
def J2(H:Hp)(h:Heap):Prop:=∀a o,H a=some o->jC P w H h a o
end
section
variable {P:Program} {w:World} {H H':Hp} {h h':Heap} {a:Addr} {o:HO}
theorem jC.lt(x:jC P w H h a o):a < h.objs.size:=by
 cases o with
 | lst xs=>obtain⟨_,_,_,_,e⟩:=x;exact wLa e
 | tup xs=>obtain⟨_,_,_,p⟩:=x;exact p.lt
 | dK kvs ep=>obtain⟨_,_,_,_,o,_,e,_⟩:=x;exact wLa e
 | mem K l m=>obtain⟨_,_,_,_,_,o,_,_,e,_⟩:=x;exact wLa e
 | dD kvs ep=>obtain⟨_,_,_,_,_,o,_,e,_⟩:=x;exact wLa e
 | set S n=>obtain⟨o,_,_,_,e,_⟩:=x;exact wLa e
 | ins C dx fs=>obtain⟨_,_,_,e,_⟩:=x;exact wLa e
 | own y=>obtain⟨_,e⟩:=x;exact wLa e
 | xd fs=>obtain⟨_,⟨_,_,_,e,_⟩,_⟩:=x;exact wLa e
 | rng lo hi=>obtain⟨_,_,_,e⟩:=x;exact wLa e
 | frz ob u=>obtain⟨e,_⟩:=x;exact wLa e
 | tbl ps=>exact wLa (show h.get? a=some _ from x)
 | met f y=>exact wLa (show h.get? a=some _ from x)
 | ext φ=>obtain⟨_,⟨_,e⟩,_⟩:=x;exact wLa e
theorem jC.stay(x:jC P w H h a o)(k:∀b u,(b=a \/ H b=some (.own a))->h.get? b=some u->h'.get? b=some u)
  (ho:∀b,H b=some (.own a)->H' b=some (.own a)) (ht:∀b u,TF u->H b=some u->H' b=some u):jC P w H' h' a o:=by
 induction o with
 | lst xs=>obtain⟨z,its,n,r,e⟩:=x;exact⟨z,its,n,r,k _ _ (.inl rfl) e⟩
 | tup xs=>obtain⟨z,its,r,ob,e,c⟩:=x;exact⟨z,its,r,ob,k _ _ (.inl rfl) e,c⟩
 | dK kvs ep=>obtain⟨z,y,vs,r,ob,es,e,c⟩:=x;exact⟨z,y,vs,r,ob,es,k _ _ (.inl rfl) e,c⟩
 | mem K l m=>
  obtain⟨z,y,xs,r,rm,ob,es,ep,e,c⟩:=x;exact⟨z,y,xs,fun q hq=>⟨(r q hq).1,(r q hq).2.1.stay ht,(r q hq).2.2⟩,rm,ob,es,ep,k _ _ (.inl rfl) e,c⟩
 | dD kvs ep=>obtain⟨z,y,nd,xs,r,ob,es,e,c⟩:=x;exact⟨z,y,nd,xs,r,ob,es,k _ _ (.inl rfl) e,c⟩
 | set S n=>obtain⟨ob,es,ep,t,e,c⟩:=x;exact⟨ob,es,ep,t,k _ _ (.inl rfl) e,c⟩
 | ins C dx fs=>
  obtain⟨d,z,ne,e,mA,⟨od,es,ep,e2,c⟩,r⟩:=x;exact⟨ho _ d,z,ne,k _ _ (.inl rfl) e,mA,⟨od,es,ep,k _ _ (.inr d) e2,c⟩,r⟩
 | own y=>obtain⟨ob,e⟩:=x;exact⟨ob,k _ _ (.inl rfl) e⟩
 | xd fs=>obtain⟨mA,⟨od,es,ep,e,c⟩,r⟩:=x;exact⟨mA,⟨od,es,ep,k _ _ (.inl rfl) e,c⟩,r⟩
 | rng lo hi=>obtain⟨t,u,v,e⟩:=x;exact⟨t,u,v,k _ _ (.inl rfl) e⟩
 | frz ob u ih=>obtain⟨e,q⟩:=x;exact⟨k _ _ (.inl rfl) e,ih q⟩
 | tbl ps=>
  have e:h.get? a=some { cls:=.none,data:=.fields ps }:=x;show h'.get? a=some { cls:=.none,data:=.fields ps };exact k a _ (.inl rfl) e
 | met f y=>
  have e:h.get? a=some (PySem.W.methodObj (.ref f) (.ref y)):=x;show h'.get? a=some (PySem.W.methodObj (.ref f) (.ref y));exact k a _ (.inl rfl) e
 | ext φ=>obtain⟨p,⟨o,e⟩,st⟩:=x;exact⟨st _ _ p fun o q=>k _ _ (.inl rfl) q,⟨o,k _ _ (.inl rfl) e⟩,st⟩
theorem J2.lt(x:J2 P w H h)(e:H a=some o):a < h.objs.size:=(x a o e).lt
theorem J2.fresh(x:J2 P w H h)(e:h.objs.size<=a):H a=none:=by
 cases q:H a with
 | none=>rfl
 | some u=>exact vDa (Nat.lt_of_lt_of_le (x.lt q) e) (wUa _)
theorem J2.kept(x:J2 P w H h)(k:∀b u,h.get? b=some u->h'.get? b=some u):J2 P w H h':=fun a o e=>
 (x a o e).stay (fun b u _ q=>k b u q) (fun _ q=>q) fun _ _ _ q=>q
theorem J2.laid(x:J2 P w H h)(k:∀b u,h.get? b=some u->h'.get? b=some u)(hp:h.objs.size<=a)(new:jC P w (upd H a o) h' a o):J2 P w (upd H a o) h':=fun b u e=>by
 have hn:=x.fresh hp;by_cases hb:b=a
 ·subst hb;rw[jc]at e;cases e;exact new
 ·rw[j7 hb]at e;exact(x b u e).stay (fun c v _ q=>k c v q) (fun c q=>by rw[j7 (jo q hn)];exact q) fun c xs _ q=>by rw[j7 (jo q hn)];exact q
end
def Rd(H:Hp)(a:Addr)(u:HO):Prop:=H a=some u \/∃o,H a=some (.frz o u)
theorem Rd.of(h:H a=some u):Rd H a u:=.inl h
theorem Rd.ok{P:Program}{w:World}{H:Hp}{h:Heap}{a:Addr}{u:HO}(r:Rd H a u)(x:J2 P w H h):jC P w H h a u:=by
 rcases r with r | ⟨o,r⟩
 ·exact x a u r
 ·obtain⟨_,q⟩:=x a _ r;exact q
def WU:Option HO->Prop
 | some (.lst _)=>True
 | some (.dK _ _)=>True
 | some (.mem _ _ _)=>True
 | some (.dD _ _)=>True
 | some (.set _ _)=>True
 | some (.ins _ _ _)=>True
 | some (.ext _)=>True
 | _=>False
section
variable {P:Program} {w:World} {H:Hp} {h h':Heap} {x e:Addr} {o':HO}
theorem J2.write(ok:J2 P w H h)(mu:WU (H x))(he:e=x \/ H e=some (.own x))(k:∀b u,b≠e->h.get? b=some u->h'.get? b=some u)(heo:∃u,h'.get? e=some u)
  (new:jC P w (upd H x o') h' x o'):J2 P w (upd H x o') h':=fun b u q=>by
 have nown:∀c y,H c=some (.own y)->c≠x:=fun c y r z=>by subst z;rw[r]at mu;exact mu
 have ntup:∀c u,TF u->H c=some u->c≠x:=fun c u t r z=>by
  subst z;rw[r]at mu;cases u <;> first | exact t | exact mu
 by_cases hb:b=x
 ·subst hb;rw[jc]at q;cases q;exact new
 ·rw[j7 hb]at q;by_cases hbe:b=e
  ·have q':H b=some (.own x):=by
    rcases he with z | z
    ·exact vDa (hbe.trans z) hb
    ·rw[hbe];exact z
   rw[q]at q';cases q';obtain⟨v,hv⟩:=heo;exact⟨v,by rw[hbe];exact hv⟩
  ·refine(ok b u q).stay (fun c v hc r=>k c v ?_ r) (fun c r=>by rw[j7 (nown c b r)];exact r) fun c xs t r=>by rw[j7 (ntup c xs t r)];exact r
   rcases hc with rfl | hc
   ·exact hbe
   ·rintro rfl;rcases he with z | z
    ·exact nown c b hc z
    ·rw[hc]at z;cases z;exact hb rfl
end
structure Un (fs ex:List Addr) (H H':Hp) (h h':Heap):Prop where
 keep:∀b o,h.get? b=some o->H b=none->b∉fs->b∉ex->h'.get? b=some o
 slot:∀b o,h.get? b=some o->H b=none->b∈fs->b∉ex->∃sl,h'.get? b=some { o with slots:=sl }
 free:∀b o,h.get? b=some o->H b=none->b∉ex->H' b=none
 there:∀b o,h.get? b=some o->b∉ex->∃o',h'.get? b=some o'
 tups:∀b xs,H b=some (.tup xs)->H' b=some (.tup xs)
 frzs:∀b o u,H b=some (.frz o u)->H' b=some (.frz o u)
 tbls:∀b ps,H b=some (.tbl ps)->∃more,H' b=some (.tbl (ps++more))
section
variable {fs fs' ex ex':List Addr} {H H1 H2:Hp} {h h1 h2 h':Heap} {a x e:Addr} {o:HO}
theorem Un.any(u:Un fs ex H H1 h h1){b:Addr}{ob:Obj}(q:h.get? b=some ob)(n:H b=none)(hx:b∉ex):∃sl,h1.get? b=some { ob with slots:=sl }:=by
 by_cases hb:b∈fs
 ·exact u.slot b ob q n hb hx
 ·exact⟨ob.slots,u.keep b ob q n hb hx⟩
theorem Un.trans(a:Un fs ex H H1 h h1)(b:Un fs ex H1 H2 h1 h2):Un fs ex H H2 h h2 where
 keep:=fun c ob q n hc hx=>b.keep c ob (a.keep c ob q n hc hx) (a.free c ob q n hx) hc hx
 slot:=fun c ob q n hc hx=>by
  obtain⟨sl,e1⟩:=a.slot c ob q n hc hx;obtain⟨sl',e2⟩:=b.slot c _ e1 (a.free c ob q n hx) hc hx;exact⟨sl',e2⟩
 free:=fun c ob q n hx=>by
  obtain⟨o',e1⟩:=a.there c ob q hx;exact b.free c o' e1 (a.free c ob q n hx) hx
 there:=fun c ob q hx=>by
  obtain⟨o',e1⟩:=a.there c ob q hx;exact b.there c o' e1 hx
 tups:=fun c xs q=>b.tups c xs (a.tups c xs q)
 frzs:=fun c ob xs q=>b.frzs c ob xs (a.frzs c ob xs q)
 tbls:=fun c ps q=>by
  obtain⟨m1,e1⟩:=a.tbls c ps q;obtain⟨m2,e2⟩:=b.tbls c _ e1;exact⟨m1++m2,by rw[e2,Array.append_assoc]⟩
theorem Un.kept(k:∀b u,h.get? b=some u->h'.get? b=some u):Un fs ex H H h h':=
 ⟨fun b ob q _ _ _=>k b ob q,fun b ob q _ _ _=>⟨ob.slots,k b ob q⟩,fun _ _ _ n _=>n,fun b ob q _=>⟨ob,k b ob q⟩,fun _ _ q=>q,fun _ _ _ q=>q,fun _ ps q=>⟨#[],by rw[q];simp⟩⟩
theorem Un.refl:Un fs ex H H h h:=Un.kept fun _ _ q=>q
theorem Un.laid(k:∀b u,h.get? b=some u->h'.get? b=some u)(hp:h.objs.size<=a)(hn:H a=none):Un fs ex H (upd H a o) h h' where
 keep:=fun b u q _ _ _=>k b u q
 slot:=fun b u q _ _ _=>⟨u.slots,k b u q⟩
 free:=fun b u q n _=>by rw[j7 (Nat.ne_of_lt (Nat.lt_of_lt_of_le (Heap.lt_size q) hp))];exact n
 there:=fun b u q _=>⟨u,k b u q⟩
 tups:=fun b xs q=>by rw[j7 (jo q hn)];exact q
 frzs:=fun b u xs q=>by rw[j7 (jo q hn)];exact q
 tbls:=fun b ps q=>⟨#[],by rw[j7 (jo q hn),q];simp⟩
theorem Un.write(mu:WU (H x))(he:e=x \/ H e=some (.own x))(k:∀b u,b≠e->h.get? b=some u->h'.get? b=some u)(heo:∃u,h'.get? e=some u):Un fs ex H (upd H x o) h h':=by
 have hx:∀b,H b=none->b≠x:=fun b n z=>by subst z;rw[n]at mu;exact mu
 have hb:∀b,H b=none->b≠e:=fun b n z=>by
  subst z;rcases he with r | r
  ·exact hx b n r
  ·rw[n]at r;cases r
 have hm:∀b u,H b=some u->¬WU (some u)->b≠x:=fun b u q nm z=>by subst z;rw[q]at mu;exact nm mu
 refine⟨fun b u q n _ _=>k b u (hb b n) q,fun b u q n _ _=>⟨u.slots,k b u (hb b n) q⟩,fun b u q n _=>by rw[j7 (hx b n)];exact n,fun b u q _=>?_,
  fun b xs q=>by rw[j7 (hm b _ q fun z=>z)];exact q,fun b u xs q=>by rw[j7 (hm b _ q fun z=>z)];exact q,fun b ps q=>⟨#[],by rw[j7 (hm b _ q fun z=>z),q];simp⟩⟩
 by_cases hbe:b=e
 ·subst hbe;exact heo
 ·exact⟨u,k b u hbe q⟩
end
noncomputable def YA(h:Heap)(H:Hp):List Addr:=(List.range h.objs.size).filter fun a=>(H a).isSome
def zo(h:Heap)(H:Hp):Heap:=PySem.W.hideAll h (YA h H)
theorem K3(h:Heap)(H:Hp):(zo h H).objs.size=h.objs.size:=PySem.W.hideAll_size _ _
theorem ww(e:h.get? b=some o)(n:H b=none):(zo h H).get? b=some o:=
 PySem.W.hideAll_get _ e fun hm=>by
  have q:(H b).isSome=true:=(List.mem_filter.mp hm).2;rw[n]at q;simp at q
theorem QB(e:(zo h H).get? b=some o):h.get? b=some o/\H b=none:=by
 have e':h.get? b=some o:=PySem.W.of_hideAll (YA h H) e;refine⟨e',?_⟩;cases q:H b with
 | none=>rfl
 | some x=>
  have hm:b∈YA h H:=List.mem_filter.mpr ⟨List.mem_range.mpr (wLa e'),by simp[q]⟩;have z:(zo h H).get? b=none:=PySem.W.hideAll_none (YA h H) hm;rw[z]at e;cases e
structure Mod (K:uXa) (mg:Str->Option Value) (base:Heap):Prop where
 kin:K.In base
 glob:base.Ns mainGlobals mg
 blt:∃mb,base.Ns builtinsNs mb/\∀x:Str,x≠ "__name__" ->mb x=bootBuiltins x
 nolimit:base.NoLimit
structure Cx where
 prog:Program
 w:World
 K:uXa
 mg:Str->Option Value
 base:Heap
 A:Around
 N:List Str
 s₀:Shared
 H₀:Hp
 env:Env
 outer:List Env
 stack:List Env
 ex:List Addr
 fn:Str->Bool
 calm:Bool
 pn:List (Addr×Obj)
 xe:Value->Shared->Prop
noncomputable def jL(l:List Env):List Addr:=l.filterMap (·.frame)
abbrev Cx.fs(X:Cx):List Addr:=jL X.outer
def zS(sc:Scope)(x:Str):Prop:=sc.names.lookup x=some .local \/ sc.names.lookup x=some .cell \/ sc.names.lookup x=some .free
def ZC(sc:Scope)(x:Str):Prop:=sc.names.lookup x=some .local \/ sc.names.lookup x=some .cell
def eP(env:Env)(h:Heap)(m:Str->Option Value)(x:Str)(u:Value):Prop:=
 (env.kindOf x=some .local/\m x=some u) \/ ((env.kindOf x=some .cell \/ env.kindOf x=some .free)/\∃c,env.cells.lookup x=some c/\h.IsCell c (some u))
structure Cx.Ok (X:Cx):Prop where
 mod:Mod X.K X.mg X.base
 kind:X.env.scope.kind=.function
 glob:X.env.globals=mainGlobals
 blt:X.env.builtins=builtinsNs
 above:X.s₀.heap.objs.size<=X.env.locals
 inj:∀x y c,X.env.cells.lookup x=some c->X.env.cells.lookup y=some c->x=y
 has:∀x,(X.env.kindOf x=some .cell \/ X.env.kindOf x=some .free)->∃c,X.env.cells.lookup x=some c
 cab:∀x c,X.fn x=true->X.env.cells.lookup x=some c->X.s₀.heap.objs.size<=c
 hd:X.calm=true->X.A.handled=none
 frames:X.A.frames=some X.stack
 stk:X.stack=X.outer \/ (X.stack=X.env::X.outer/\X.env.frame=some X.env.locals)
 exf:∀b∈X.ex,b≠X.env.locals/\∀x c,X.env.cells.lookup x=some c->c≠b
 bs:∀b o,X.base.get? b=some o->X.s₀.heap.get? b=some o/\X.H₀ b=none
 bsz:X.base.objs.size<=X.s₀.heap.objs.size
 noex:∀b o,X.base.get? b=some o->b∉X.ex
 exfs:∀b∈X.ex,b∉X.fs
 funs:X.s₀.heap.FunFrames X.base X.outer
 frf:∀b∈X.fs,X.H₀ b=none
structure Inv (X:Cx) (pins:List (Addr×Obj)) (U:List (Option V)) (H:Hp) (s:Shared):Prop where
 ok:X.Ok
 os:s.os=X.s₀.os
 bare:AllBare s.gens
 base:Un X.fs X.ex X.H₀ H X.s₀.heap s.heap
 loc:∃m,s.heap.Ns X.env.locals m/\∀(i:Nat) (x:Str) (v:V),X.N[i]?=some x->U[i]?=some (some v)->zS X.env.scope x->∃u,je v u/\eP X.env s.heap m x u
 cell:∀x c,X.env.cells.lookup x=some c->∃v,s.heap.IsCell c v
 free:H X.env.locals=none
 freeC:∀x c,X.env.cells.lookup x=some c->H c=none
 pin:∀p∈X.pn++pins,s.heap.get? p.1=some p.2/\H p.1=none/\p.1≠X.env.locals/\p.1∉X.fs/\∀v,p.2.data≠.cell v
 hok:J2 X.prog X.w H s.heap
 len:U.length=X.N.length
section
variable {X:Cx} {pins:List (Addr×Obj)} {U:List (Option V)} {H H':Hp} {s:Shared} {h':Heap}
theorem Cx.Ok.nofr(ok:X.Ok){b:Addr}{o:Obj}(e:X.base.get? b=some o):b∉X.fs:=fun hb=>by
 have:=(ok.funs.mem hb).1;rw[e]at this;cases this
theorem Inv.bs(I:Inv X pins U H s):∀b o,X.base.get? b=some o->s.heap.get? b=some o/\H b=none:=fun b o e=>
 ⟨I.base.keep b o (I.ok.bs b o e).1 (I.ok.bs b o e).2 (I.ok.nofr e) (I.ok.noex b o e),I.base.free b o (I.ok.bs b o e).1 (I.ok.bs b o e).2 (I.ok.noex b o e)⟩
theorem Inv.bk(I:Inv X pins U H s):∀b o,X.base.get? b=some o->s.heap.get? b=some o:=fun b o e=>(I.bs b o e).1
theorem Inv.mod(I:Inv X pins U H s):Mod X.K X.mg X.base:=I.ok.mod
theorem Inv.kIn(I:Inv X pins U H s):X.K.In s.heap:=I.ok.mod.kin.keeps I.bk
theorem Inv.lt(I:Inv X pins U H s):X.env.locals < s.heap.objs.size:=let ⟨_,hn,_⟩:=I.loc;hn.lt
theorem Inv.sz(I:Inv X pins U H s):X.s₀.heap.objs.size<=s.heap.objs.size:=wSa I.ok.above (wQa I.lt)
theorem Inv.nofs(I:Inv X pins U H s)(h:s.heap.objs.size<=a):a∉X.fs:=fun hb=>by
 obtain⟨_,o,ho,_⟩:=I.ok.funs.mem hb;exact vDa (Nat.lt_of_lt_of_le (wLa ho) (wSa I.sz h)) (wUa _)
theorem Inv.cne(I:Inv X pins U H s):∀x c,X.env.cells.lookup x=some c->c≠X.env.locals:=fun x c e z=>by
 obtain⟨v,o,ho,hd⟩:=I.cell x c e;obtain⟨m,⟨o',es,ep,ho',hd',_⟩,_⟩:=I.loc;rw[z,ho']at ho;cases ho;rw[hd']at hd;cases hd
theorem Inv.funs(I:Inv X pins U H s):s.heap.FunFrames X.base X.outer:=by
 have all:∀(l:List Env),(∀b∈jL l,b∈X.fs)->X.s₀.heap.FunFrames X.base l->s.heap.FunFrames X.base l:=by
  intro l;induction l with
  | nil=>intro _ _;trivial
  | cons env r ih=>
   intro hs hl;obtain⟨hk,⟨L,o,hf,hn,ho,hd⟩,hr⟩:=hl;have hL:L∈X.fs:=hs L (by unfold jL;rw[List.filterMap_cons,hf];exact wNa);obtain⟨sl,e⟩:=I.base.slot L o ho (I.ok.frf L hL) hL fun z=>I.ok.exfs L z hL;exact⟨hk,⟨L,_,hf,hn,e,hd⟩,ih (fun b hb=>hs b (by unfold jL;rw[List.filterMap_cons,hf];exact wMa _ hb)) hr⟩
 exact all X.outer (fun _ hb=>hb) I.ok.funs
theorem Inv.stack(I:Inv X pins U H s):s.heap.FunFrames X.base X.stack:=by
 rcases I.ok.stk with e | ⟨e,hf⟩
 ·rw[e];exact I.funs
 ·rw[e];obtain⟨m,hn,_⟩:=I.loc;refine .cons (by rw[I.ok.kind];decide) hf hn ?_ I.funs;exact Heap.get?_none_of_le (wSa I.ok.bsz I.ok.above)
theorem Inv.stkSub(I:Inv X pins U H s):∀b∈jL X.stack,b∈X.env.locals::X.fs:=fun b hb=>by
 rcases I.ok.stk with e | ⟨e,hf⟩
 ·rw[e]at hb;exact wMa _ hb
 ·rw[e]at hb;unfold jL at hb;rw[List.filterMap_cons,hf]at hb;exact hb
theorem Inv.stkFree(I:Inv X pins U H s):∀b∈jL X.stack,H b=none:=fun b hb=>by
 rcases uTa (I.stkSub b hb)with e | hb
 ·rw[e];exact I.free
 ·obtain⟨_,o,ho,_⟩:=I.ok.funs.mem hb;exact I.base.free b o ho (I.ok.frf b hb) fun z=>I.ok.exfs b z hb
theorem Inv.step{g':Array GenState}{t':Nat}{d':Drawn}{ch:List Addr}(I:Inv X pins U H s)
  (hch:∀b∈ch,(b∈X.ex \/ X.s₀.heap.objs.size<=b)/\b≠X.env.locals/\(∀x c,X.env.cells.lookup x=some c->c≠b)/\∀p∈X.pn++pins,p.1≠b)
  (keep:∀b o,b≠X.env.locals->b∉X.fs->b∉ch->s.heap.get? b=some o->H b=none->h'.get? b=some o)
  (slot:∀b o,b≠X.env.locals->b∈X.fs->b∉ch->s.heap.get? b=some o->H b=none->∃sl,h'.get? b=some { o with slots:=sl }) (free:∀b o,b∉ch->s.heap.get? b=some o->H b=none->H' b=none)
  (there:∀b o,b∉ch->s.heap.get? b=some o->∃o',h'.get? b=some o')
  (tups:∀b xs,H b=some (.tup xs)->H' b=some (.tup xs)) (frzs:∀b o u,H b=some (.frz o u)->H' b=some (.frz o u)) (tbls:∀b ps,H b=some (.tbl ps)->∃more,H' b=some (.tbl (ps++more)))
  (ns:∀m,s.heap.Ns X.env.locals m->h'.Ns X.env.locals m) (hok:J2 X.prog X.w H' h') (hg:AllBare g'):
  Inv X pins U H' { s with heap:=h',gens:=g',drawn:=d',toks:=t' }:=by
 have neL:∀b o,X.s₀.heap.get? b=some o->b≠X.env.locals:=fun b o e=>wTa (Nat.lt_of_lt_of_le (wLa e) I.ok.above);have neC:∀b o,X.s₀.heap.get? b=some o->b∉X.ex->b∉ch:=fun b o e hx hb=>by
  rcases(hch b hb).1 with z | z
  ·exact hx z
  ·exact vDa (Nat.lt_of_lt_of_le (wLa e) z) (wUa _)
 have cellK:∀x c,X.env.cells.lookup x=some c->∀v,s.heap.IsCell c v->h'.IsCell c v:=fun x c e v xx=>by
  obtain⟨o,ho,hd⟩:=xx;have nch:c∉ch:=fun z=>(hch c z).2.2.1 x c e rfl;by_cases hc:c∈X.fs
  ·obtain⟨sl,q⟩:=slot c o (I.cne x c e) hc nch ho (I.freeC x c e);exact⟨_,q,hd⟩
  ·exact⟨o,keep c o (I.cne x c e) hc nch ho (I.freeC x c e),hd⟩
 refine⟨I.ok,I.os,hg,⟨fun b o e n hb hx=>?_,fun b o e n hb hx=>?_,fun b o e n hx=>?_,fun b o e hx=>?_,fun b xs e=>tups b xs (I.base.tups b xs e),fun b o xs e=>frzs b o xs (I.base.frzs b o xs e),fun b ps e=>?_⟩,?_,fun x c e=>?_,?_,fun x c e=>?_,fun p hp=>?_,hok,I.len⟩
 ·exact keep b o (neL b o e) hb (neC b o e hx) (I.base.keep b o e n hb hx) (I.base.free b o e n hx)
 ·obtain⟨sl,e1⟩:=I.base.slot b o e n hb hx;obtain⟨sl',e2⟩:=slot b _ (neL b o e) hb (neC b o e hx) e1 (I.base.free b o e n hx);exact⟨sl',e2⟩
 ·obtain⟨o',e1⟩:=I.base.there b o e hx;exact free b o' (neC b o e hx) e1 (I.base.free b o e n hx)
 ·obtain⟨o',e1⟩:=I.base.there b o e hx;exact there b o' (neC b o e hx) e1
 ·obtain⟨m1,e1⟩:=I.base.tbls b ps e;obtain⟨m2,e2⟩:=tbls b _ e1;exact⟨m1++m2,by rw[e2,Array.append_assoc]⟩
 ·obtain⟨m,hn,hl⟩:=I.loc;refine⟨m,ns m hn,fun i x v e1 e2 e3=>?_⟩;obtain⟨u,r,l⟩:=hl i x v e1 e2 e3;refine⟨u,r,?_⟩;rcases l with l | ⟨k,c,e,z⟩
  ·exact .inl l
  ·exact .inr ⟨k,c,e,cellK x c e _ z⟩
 ·obtain⟨v,z⟩:=I.cell x c e;exact⟨v,cellK x c e v z⟩
 ·obtain⟨m,⟨o,_,_,ho,_⟩,_⟩:=I.loc;exact free _ o (fun z=>(hch _ z).2.1 rfl) ho I.free
 ·obtain⟨v,o,ho,hd⟩:=I.cell x c e;exact free c o (fun z=>(hch c z).2.2.1 x c e rfl) ho (I.freeC x c e)
 ·obtain⟨e,n,ne,nf,d⟩:=I.pin p hp;have nch:p.1∉ch:=fun z=>(hch p.1 z).2.2.2 p hp rfl;exact⟨keep p.1 p.2 ne nf nch e n,free p.1 p.2 nch e n,ne,nf,d⟩
theorem Inv.un{t':Nat}(I:Inv X pins U H s)(u:Un X.fs [] H H' s.heap h')(hok:J2 X.prog X.w H' h'):Inv X pins U H' { s with heap:=h',toks:=t' }:=by
 obtain⟨m,⟨o,es,ep,ho,r⟩,_⟩:=id I.loc;obtain⟨sl,hL⟩:=u.any ho I.free (by simp);exact I.step (g':=s.gens) (d':=s.drawn) (ch:=[]) (fun _ z=>nomatch z) (fun b o _ hb _ e n=>u.keep b o e n hb (by simp)) (fun b o _ hb _ e n=>u.slot b o e n hb (by simp)) (fun b o _ e n=>u.free b o e n (by simp)) (fun b o _ e=>u.there b o e (by simp)) u.tups u.frzs u.tbls (fun m' hm=>by
  obtain⟨o',es',ep',ho',r'⟩:=hm;rw[ho]at ho';cases ho';exact⟨_,es',ep',hL,r'⟩) hok I.bare
theorem Inv.call{g':Array GenState}{t':Nat}{d':Drawn}{ch:List Addr}(I:Inv X pins U H s)(u:Un (jL X.stack) ch H H' s.heap h')(hok:J2 X.prog X.w H' h')(hg:AllBare g')
  (hch:∀b∈ch,(b∈X.ex \/ X.s₀.heap.objs.size<=b)/\b≠X.env.locals/\(∀x c,X.env.cells.lookup x=some c->c≠b)/\∀p∈X.pn++pins,p.1≠b):
  Inv X pins U H' { s with heap:=h',gens:=g',drawn:=d',toks:=t' }:=by
 obtain⟨m,⟨o,es,ep,ho,r⟩,_⟩:=id I.loc;obtain⟨sl,hL⟩:=u.any ho I.free fun z=>(hch _ z).2.1 rfl;exact I.step (ch:=ch) hch (fun b o hL hb hc e n=>u.keep b o e n (fun z=>(uTa (I.stkSub b z)).elim hL hb) hc) (fun b o _ _ hc e n=>u.any e n hc) (fun b o hc e n=>u.free b o e n hc) (fun b o hc e=>u.there b o e hc) u.tups u.frzs u.tbls (fun m' hm=>by
  obtain⟨o',es',ep',ho',r'⟩:=hm;rw[ho]at ho';cases ho';exact⟨_,es',ep',hL,r'⟩) hok hg
theorem Inv.turned{t':Nat}{it:Addr}(I:Inv X pins U H s)(k:∀b o,b≠it->s.heap.get? b=some o->h'.get? b=some o)(hn:H it=none)(hL:it≠X.env.locals)
  (h1:it∈X.ex \/ X.s₀.heap.objs.size<=it) (h2:∀x c,X.env.cells.lookup x=some c->c≠it) (h3:∀p∈X.pn++pins,p.1≠it):Inv X pins U H { s with heap:=h',toks:=t' }:=by
 have nit:∀b u,H b=some u->b≠it:=fun b u e z=>by rw[z,hn]at e;cases e
 refine I.step (g':=s.gens) (d':=s.drawn) (ch:=[it]) (fun b hb=>?_) (fun b o _ _ hc e _=>k b o (fun z=>hc (by simp[z])) e) (fun b o _ _ hc e _=>⟨o.slots,k b o (fun z=>hc (by simp[z])) e⟩) (fun _ _ _ _ n=>n)
  (fun b o hc e=>⟨o,k b o (fun z=>hc (by simp[z])) e⟩) (fun _ _ e=>e) (fun _ _ _ e=>e) (fun b ps e=>⟨#[],by rw[e];simp⟩) (fun m hm=>?_) (fun b u e=>?_) I.bare
 ·have e:b=it:=by simpa using hb
  subst e;exact⟨h1,hL,h2,h3⟩
 ·obtain⟨o,es,ep,ho,r⟩:=hm;exact⟨o,es,ep,k _ o (Ne.symm hL) ho,r⟩
 ·refine(I.hok b u e).stay (fun c v hc q=>k c v ?_ q) (fun _ q=>q) fun _ _ _ q=>q;rcases hc with z | z
  ·rw[z];exact nit b u e
  ·exact nit c _ z
theorem Inv.tok(I:Inv X pins U H s)(t:Nat):Inv X pins U H { s with toks:=t }:=I.un (h':=s.heap) (t':=t) Un.refl I.hok
theorem Inv.kept(I:Inv X pins U H s)(k:∀b u,s.heap.get? b=some u->h'.get? b=some u):Inv X pins U H { s with heap:=h',toks:=t' }:=I.un (Un.kept k) (I.hok.kept k)
theorem Inv.laid(I:Inv X pins U H s)(k:∀b u,s.heap.get? b=some u->h'.get? b=some u)(hp:s.heap.objs.size<=a)(new:jC X.prog X.w (upd H a o) h' a o):
  Inv X pins U (upd H a o) { s with heap:=h',toks:=t' }:=I.un (Un.laid k hp (I.hok.fresh hp)) (I.hok.laid k hp new)
theorem Inv.write(I:Inv X pins U H s)(mu:WU (H x))(he:e=x \/ H e=some (.own x))(k:∀b u,b≠e->s.heap.get? b=some u->h'.get? b=some u)(heo:∃u,h'.get? e=some u)
  (new:jC X.prog X.w (upd H x o) h' x o):Inv X pins U (upd H x o) { s with heap:=h',toks:=t' }:=I.un (Un.write mu he k heo) (I.hok.write mu he k heo new)
theorem Inv.weak(I:Inv X pins U H s)(hl:U'.length=U.length)(w:∀(i:Nat) v,U'[i]?=some (some v)->U[i]?=some (some v)):Inv X pins U' H s:=
 ⟨I.ok,I.os,I.bare,I.base,let ⟨m,hn,hl'⟩:=I.loc;⟨m,hn,fun i x v e1 e2 e3=>hl' i x v e1 (w i v e2) e3⟩,I.cell,I.free,I.freeC,I.pin,I.hok,hl.trans I.len⟩
theorem Inv.pins_of(I:Inv X pins U H s)(h:∀p∈pins',s.heap.get? p.1=some p.2/\H p.1=none/\p.1≠X.env.locals/\p.1∉X.fs/\∀v,p.2.data≠.cell v):Inv X pins' U H s:=
 ⟨I.ok,I.os,I.bare,I.base,I.loc,I.cell,I.free,I.freeC,fun p hp=>(uWa hp).elim (fun z=>I.pin p (vIa _ z)) (h p),I.hok,I.len⟩
theorem ZN{N:List Str}(hN:N.Nodup){i j:Nat}{x:Str}(a:N[i]?=some x)(b:N[j]?=some x):i=j:=by
 obtain⟨h1,e1⟩:=uSa a;obtain⟨h2,e2⟩:=uSa b;exact(List.getElem_inj hN).mp (e1.trans e2.symm)
theorem Vu{M:Model}{A:Around}{E:Value->Shared->Prop}{i:Nat}{x:Str}{v:V}{u:Value}{Q:Unit->Shared->Prop}(I:Inv X pins U H s)(hN:X.N.Nodup)(hi:X.N[i]?=some x)(hx:ZC X.env.scope x)(r:je v u)
  (h:∀s',Inv X pins (U.set i (some v)) H s'->(∃a,Heap.SameBut a s.heap s'.heap/\(a=X.env.locals \/ X.env.cells.lookup x=some a))->Q () s') (hf:X.fn x=true \/ X.env.scope.names.lookup x=some .local:=by first | exact .inl rfl | exact .inr rfl | assumption):wpAny M A (storeName X.env x u) Q E s:=by
 obtain⟨m,hn,hl⟩:=id I.loc;have hcls:(X.env.scope.kind==.class||(X.env.scope.kind==.module&&X.env.locals != X.env.globals))=false:=by rw[I.ok.kind];rfl
 have hiU:i < U.length:=by rw[I.len];exact(uSa hi).1
 have cne:=I.cne;have tracked:∀{a:Addr} {h':Heap},(∃o,s.heap.get? a=some o/\H a=none)->Heap.SameBut a s.heap h'->J2 X.prog X.w H h':=fun {a h'} ha hs b ob e=>by
  obtain⟨_,_,hfree⟩:=ha;refine(I.hok b ob e).stay (fun c w' hc q=>(hs.2 c ?_).trans q) (fun _ q=>q) fun _ _ _ q=>q;rintro rfl;rcases hc with rfl | hc
  ·rw[hfree]at e;cases e
  ·rw[hfree]at hc;cases hc
 rcases hx with hk | hk
 ·refine wpAny_storeName_local hk hn (fun h' hn' hs=>?_) hcls;obtain⟨oL,_,_,hoL,_⟩:=id hn;refine h _ ⟨I.ok,I.os,I.bare,⟨fun b o e n hb hx=>?_,fun b o e n hb hx=>?_,I.base.free,fun b o e hx=>?_,I.base.tups,I.base.frzs,I.base.tbls⟩,⟨_,hn',fun j y v' e1 e2 e3=>?_⟩,fun y c e=>?_,I.free,I.freeC,fun p hp=>?_,tracked ⟨oL,hoL,I.free⟩ hs,by simpa using I.len⟩ ⟨_,hs,.inl rfl⟩
  ·exact(hs.2 b (wTa (Nat.lt_of_lt_of_le (wLa e) I.ok.above))).trans (I.base.keep b o e n hb hx)
  ·obtain⟨sl,e1⟩:=I.base.slot b o e n hb hx;exact⟨sl,(hs.2 b (wTa (Nat.lt_of_lt_of_le (wLa e) I.ok.above))).trans e1⟩
  ·obtain⟨o',e1⟩:=I.base.there b o e hx;exact⟨o',(hs.2 b (wTa (Nat.lt_of_lt_of_le (wLa e) I.ok.above))).trans e1⟩
  ·by_cases hj:j=i
   ·subst hj;rw[hi]at e1;cases e1;rw[List.getElem?_set_self hiU]at e2;cases e2;exact⟨u,r,.inl ⟨hk,by simp⟩⟩
   ·rw[List.getElem?_set_ne (Ne.symm hj)]at e2;obtain⟨u',r',q⟩:=hl j y v' e1 e2 e3;refine⟨u',r',?_⟩;rcases q with⟨k,e⟩ | ⟨k,c,e,z⟩
    ·refine .inl ⟨k,?_⟩;have:y≠x:=fun e=>hj (ZN hN e1 (e▸hi));simp[this,e]
    ·exact .inr ⟨k,c,e,z.sameBut hs (cne y c e)⟩
  ·obtain⟨w',z⟩:=I.cell y c e;exact⟨w',z.sameBut hs (cne y c e)⟩
  ·obtain⟨e,n,ne,nf,d⟩:=I.pin p hp;exact⟨(hs.2 p.1 ne).trans e,n,ne,nf,d⟩
 ·have hfn:X.fn x=true:=by
   rcases hf with z | z
   ·exact z
   ·rw[z]at hk;cases hk
  obtain⟨c,hc⟩:=I.ok.has x (.inl hk);obtain⟨w',z⟩:=I.cell x c hc;refine wpAny_storeName_cell I.ok.kind hk hc z (fun h' hc' hs=>?_);obtain⟨oc,hoc,hocd⟩:=id z;refine h { s with heap:=h' } ⟨I.ok,I.os,I.bare,⟨fun b o e n hb hx=>?_,fun b o e n hb hx=>?_,I.base.free,fun b o e hx=>?_,I.base.tups,I.base.frzs,I.base.tbls⟩,⟨m,hn.sameBut hs (Ne.symm (cne x c hc)),fun j y v' e1 e2 e3=>?_⟩,fun y c' e=>?_,I.free,I.freeC,fun p hp=>?_,tracked ⟨oc,hoc,I.freeC x c hc⟩ hs,by simpa using I.len⟩ ⟨c,hs,.inr hc⟩
  ·exact(hs.2 b (wTa (Nat.lt_of_lt_of_le (wLa e) (I.ok.cab x c hfn hc)))).trans (I.base.keep b o e n hb hx)
  ·obtain⟨sl,e1⟩:=I.base.slot b o e n hb hx;exact⟨sl,(hs.2 b (wTa (Nat.lt_of_lt_of_le (wLa e) (I.ok.cab x c hfn hc)))).trans e1⟩
  ·obtain⟨o',e1⟩:=I.base.there b o e hx;exact⟨o',(hs.2 b (wTa (Nat.lt_of_lt_of_le (wLa e) (I.ok.cab x c hfn hc)))).trans e1⟩
  ·by_cases hj:j=i
   ·subst hj;rw[hi]at e1;cases e1;rw[List.getElem?_set_self hiU]at e2;cases e2;exact⟨u,r,.inr ⟨.inl hk,c,hc,hc'⟩⟩
   ·rw[List.getElem?_set_ne (Ne.symm hj)]at e2;obtain⟨u',r',q⟩:=hl j y v' e1 e2 e3;refine⟨u',r',?_⟩;rcases q with q | ⟨k,c',e,z'⟩
    ·exact .inl q
    ·refine .inr ⟨k,c',e,z'.sameBut hs ?_⟩;rintro rfl;exact hj (ZN hN e1 (I.ok.inj _ _ _ e hc▸hi))
  ·by_cases hcc:c'=c
   ·subst hcc;exact⟨_,hc'⟩
   ·obtain⟨w2,z2⟩:=I.cell y c' e;exact⟨w2,z2.sameBut hs hcc⟩
  ·obtain⟨e,n,ne,nf,d⟩:=I.pin p hp;refine⟨(hs.2 p.1 ?_).trans e,n,ne,nf,d⟩;intro q;rw[q,hoc]at e;have q':oc=p.2:=vFa e;exact d w' (by rw[<-q'];exact hocd)
theorem Yi(I:Inv X pins U H s)(hN:X.N.Nodup)(hi:X.N[i]?=some x)(hx:ZC X.env.scope x)(r:je v u)
  (h:∀s',Inv X pins (U.set i (some v)) H s'->Q () s') (hf:X.fn x=true \/ X.env.scope.names.lookup x=some .local:=by first | exact .inl rfl | exact .inr rfl | assumption):wpAny M A (storeName X.env x u) Q E s:=
 Vu I hN hi hx r (fun s' I' _=>h s' I') hf
theorem Inv.call'(I:Inv X pins U H s)(ho:s'.os=s.os)(u:Un (jL X.stack) ch H H' s.heap s'.heap)(hok:J2 X.prog X.w H' s'.heap)(hg:AllBare s'.gens)
  (hch:∀b∈ch,(b∈X.ex \/ X.s₀.heap.objs.size<=b)/\b≠X.env.locals/\(∀x c,X.env.cells.lookup x=some c->c≠b)/\∀p∈X.pn++pins,p.1≠b):Inv X pins U H' s':=by
 obtain⟨h',g',d',t',o'⟩:=s';have e:o'=s.os:=ho;subst e;exact I.call (g':=g') (t':=t') (d':=d') u hok hg hch
end
noncomputable abbrev XK:=Value->Option Addr->Hp->Prop
noncomputable abbrev St:=List (Option V)
noncomputable abbrev VK:=V->Hp->Prop
noncomputable abbrev TE:=St->Hp->VK->Prop
noncomputable abbrev TT:=St->Hp->(Bool->Hp->Prop)->Prop
noncomputable abbrev TA:=St->Hp->(List V->Hp->Prop)->Prop
structure Ends where
 nx:St->Hp->Prop
 rt:VK
 bk:St->Hp->Prop:=fun _ _=>False
 ct:St->Hp->Prop:=fun _ _=>False
noncomputable abbrev TS:=Ends->St->Hp->Prop
def EP(X:Cx)(pins:List (Addr×Obj))(U:St)(Q:VK)(u:Value)(s':Shared):Prop:=∃v H',Inv X pins U H' s'/\je v u/\Q v H'
def TP(X:Cx)(pins:List (Addr×Obj))(U:St)(Q:Bool->Hp->Prop)(b:Bool)(s':Shared):Prop:=∃H',Inv X pins U H' s'/\Q b H'
def AP(X:Cx)(pins:List (Addr×Obj))(U:St)(Q:List V->Hp->Prop)(us:List Value)(s':Shared):Prop:=∃vs H',Inv X pins U H' s'/\jd vs us/\Q vs H'
def SP(X:Cx)(pins:List (Addr×Obj))(D:Ends)(f:Flow)(s':Shared):Prop:=
 match f with
 | .next=>∃U' H',Inv X pins U' H' s'/\D.nx U' H'
 | .brk=>∃U' H',Inv X pins U' H' s'/\D.bk U' H'
 | .cont=>∃U' H',Inv X pins U' H' s'/\D.ct U' H'
 | .ret u=>∃v U' H',Inv X pins U' H' s'/\je v u/\D.rt v H'
def PE(X:Cx)(e:Expr)(t:TE):Prop:=
 ∀(pins:List (Addr×Obj)) (s:Shared) (U:St) (H:Hp) (Q:VK),Inv X pins U H s->t U H Q->wpAny (model X.prog X.w) X.A (eval e X.env) (EP X pins U Q) X.xe s
def PT(X:Cx)(e:Expr)(t:TT):Prop:=
 ∀(pins:List (Addr×Obj)) (s:Shared) (U:St) (H:Hp) (Q:Bool->Hp->Prop),Inv X pins U H s->t U H Q->wpAny (model X.prog X.w) X.A (isTrue e X.env (eval e X.env)) (TP X pins U Q) X.xe s
def PW(X:Cx)(e:Expr)(t:TT):Prop:=
 ∀(whole:Sem Value) (pins:List (Addr×Obj)) (s:Shared) (U:St) (H:Hp) (Q:Bool->Hp->Prop),Inv X pins U H s->t U H Q->wpAny (model X.prog X.w) X.A (isTrue e X.env whole) (TP X pins U Q) X.xe s
theorem PW.pt(h:PW X e t):PT X e t:=h _
def PA(X:Cx)(es:List Expr)(t:TA):Prop:=
 ∀(pos:Pos) (pins:List (Addr×Obj)) (s:Shared) (U:St) (H:Hp) (Q:List V->Hp->Prop),Inv X pins U H s->t U H Q->wpAny (model X.prog X.w) X.A (spliced (backTo pos (starEach es X.env))) (AP X pins U Q) X.xe s
def PS(X:Cx)(st:Stmt)(t:TS):Prop:=
 ∀(pins:List (Addr×Obj)) (s:Shared) (U:St) (H:Hp) (D:Ends),Inv X pins U H s->t D U H->wpAny (model X.prog X.w) X.A (exec st X.env) (SP X pins D) X.xe s
def jG(X:Cx)(st:List Stmt)(t:TS):Prop:=
 ∀(pins:List (Addr×Obj)) (s:Shared) (U:St) (H:Hp) (D:Ends),Inv X pins U H s->t D U H->wpAny (model X.prog X.w) X.A (execs st X.env) (SP X pins D) X.xe s
theorem jm{α:Type}{t:Sem α}{Q Q':α->Shared->Prop}{M:Model}{A:Around}{E:Value->Shared->Prop}{s:Shared}(h:wpAny M A t Q E s)(hQ:∀a s,Q a s->Q' a s):wpAny M A t Q' E s:=wCa h hQ fun _ _ x=>x
section
variable {X:Cx}
def Jr(i:Nat):TE:=fun U H Q=>∃v,U[i]?=some (some v)/\Q v H
def tC(v:V):TE:=fun _ H Q=>Q v H
theorem Yj(hN:X.N[i]?=some x)(hv:zS X.env.scope x)(hd:(x==("__debug__" : Str))=false:=by decide)(hcd:(x==("__classdict__" : Str))=false:=by decide):PE X (.Name x pos) (Jr i):=by
 intro pins s U H Q I h;obtain⟨v,e,h⟩:=h;obtain⟨m,hn,hl⟩:=I.loc;obtain⟨u,r,l⟩:=hl i x v hN e hv;have fin:EP X pins U Q u s:=⟨v,H,I,r,h⟩
 rcases l with⟨hk,hm⟩ | ⟨hk,c,hc,hcell⟩
 ·exact wpAny_Name (wpAny_loadName_local I.ok.kind hk hn hm fin) hd
 ·rcases hk with hk | hk
  ·exact wpAny_Name (wpAny_loadName_cell I.ok.kind hk hc hcell fin) hd
  ·exact wpAny_Name (wpAny_loadName_free I.ok.kind hk hc hcell fin hcd) hd
theorem Xy{i j pos}:PE X (.Constant (.int i) j pos) (tC (.int i)):=fun _ _ _ H _ I h=>wpAny_Constant_int ⟨.int i,H,I.tok _,⟨_,rfl⟩,h⟩
theorem B_{b j pos}:PE X (.Constant (.bool b) j pos) (tC (.bl b)):=fun _ _ _ H _ I h=>Constant_bool ⟨.bl b,H,I,rfl,h⟩
theorem Xz{j pos}:PE X (.Constant .none j pos) (tC .non):=fun _ _ _ H _ I h=>Constant_none ⟨.non,H,I,rfl,h⟩
theorem K4{x j pos}:PE X (.Constant (.str x) j pos) (tC (.str x)):=fun _ _ _ H _ I h=>Calls.Constant_str ⟨.str x,H,I.tok _,⟨_,rfl⟩,h⟩
def Gl(X:Cx)(x:Str):Prop:=X.env.kindOf x=some .globalImplicit
theorem JB(I:Inv X pins U H s)(hg:Gl X x)(hm:X.mg x=some u)(h:Q u s)
  (hd:(x==("__debug__" : Str))=false:=by decide):wpAny (model X.prog X.w) X.A (eval (.Name x pos) X.env) Q E s:=
 Calls.Name_function_global I.ok.kind hg (Calls.loadGlobal_global (by rw[I.ok.glob];exact I.mod.glob.keeps I.bk) hm h) hd
theorem yT(I:Inv X pins U H s)(hg:Gl X x)(hm:X.mg x=none)(hv:bootBuiltins x=some u)(h:Q u s)
  (hn:x≠ "__name__" := by decide) (hd:(x==("__debug__" : Str))=false:=by decide):wpAny (model X.prog X.w) X.A (eval (.Name x pos) X.env) Q E s:=by
 obtain⟨mb,h1,h2⟩:=I.mod.blt;exact Calls.Name_function_global I.ok.kind hg (Calls.loadGlobal_builtin (by rw[I.ok.glob];exact I.mod.glob.keeps I.bk) hm (by rw[I.ok.blt];exact h1.keeps I.bk) ((h2 x hn).trans hv) h) hd
theorem gq(hg:Gl X x)(hm:X.mg x=some u)(r:je v u)(hd:(x==("__debug__" : Str))=false:=by decide):PE X (.Name x pos) (tC v):=
 fun _ _ _ H _ I h=>JB I hg hm ⟨v,H,I,r,h⟩ hd
theorem Zk(hg:Gl X x)(hm:X.mg x=none)(hv:bootBuiltins x=some u)(r:je v u)(hn:x≠ "__name__" := by decide)(hd:(x==("__debug__" : Str))=false:=by decide):PE X (.Name x pos) (tC v):=
 fun _ _ _ H _ I h=>yT I hg hm hv ⟨v,H,I,r,h⟩ hn hd
variable {a b:Expr} {ta tb:TE} {pos:Pos}
variable {tA tB':TT} {rest:List Expr}
def eQ(t u:TT):TT:=fun U H Q=>t U H fun c H1=>if c=true then u U H1 Q else Q false H1
def fu(t u:TT):TT:=fun U H Q=>t U H fun c H1=>if c=true then Q true H1 else u U H1 Q
def eR(t:TT):TT:=fun U H Q=>t U H fun c H1=>Q (!c) H1
theorem QC(ha:PT X a tA):PW X (.BoolOp .And [a] pos) tA:=by
 intro wh pins s U H Q I h;refine isTrue_and (jm (ha pins s U H Q I h) fun c s1 e=>?_);cases c with
 | true=>exact isTrue_and_nil e
 | false=>exact e
theorem XA(ha:PT X a tA):PW X (.BoolOp .Or [a] pos) tA:=by
 intro wh pins s U H Q I h;refine isTrue_or (jm (ha pins s U H Q I h) fun c s1 e=>?_);cases c with
 | false=>exact isTrue_or_nil e
 | true=>exact e
theorem XB(ha:PT X a tA)(hb:PW X (.BoolOp .And (b::rest) pos) tB'):PW X (.BoolOp .And (a::b::rest) pos) (eQ tA tB'):=by
 intro wh pins s U H Q I h;refine isTrue_and (jm (ha pins s U H _ I h) fun c s1 xx=>?_);obtain⟨H1,I1,q1⟩:=xx;cases c with
 | true=>exact hb wh pins s1 U H1 Q I1 q1
 | false=>exact⟨H1,I1,q1⟩
theorem c0(ha:PT X a tA)(hb:PW X (.BoolOp .Or (b::rest) pos) tB'):PW X (.BoolOp .Or (a::b::rest) pos) (fu tA tB'):=by
 intro wh pins s U H Q I h;refine isTrue_or (jm (ha pins s U H _ I h) fun c s1 xx=>?_);obtain⟨H1,I1,q1⟩:=xx;cases c with
 | true=>exact⟨H1,I1,q1⟩
 | false=>exact hb wh pins s1 U H1 Q I1 q1
theorem XC(ha:PT X a tA):PT X (.UnaryOp .Not a pos) (eR tA):=by
 intro pins s U H Q I h;exact isTrue_not (ha pins s U H (fun c H1=>Q (!c) H1) I h)
def cb(ta tb:TE):TE:=fun U H Q=>ta U H fun x H1=>∃c,x=.bl c/\if c=true then tb U H1 Q else Q (.bl false) H1
def eS(ta tb:TE):TE:=fun U H Q=>ta U H fun x H1=>∃c,x=.bl c/\if c=true then Q (.bl true) H1 else tb U H1 Q
def ce(ta:TE):TE:=fun U H Q=>ta U H fun x H1=>∃c,x=.bl c/\Q (.bl (!c)) H1
theorem XD{op}(h:PE X a t):PE X (.BoolOp op [a] pos) t:=fun pins s U H Q I hw=>BoolOp_one (h pins s U H Q I hw)
theorem XE(ha:PE X a ta)(hb:PE X (.BoolOp .And (b::rest) pos) tb):PE X (.BoolOp .And (a::b::rest) pos) (cb ta tb):=by
 intro pins s U H Q I h;refine BoolOp_and (jm (ha pins s U H _ I h) fun v s1 xx=>?_);obtain⟨x,H1,I1,r1,q1⟩:=xx;obtain⟨c,rfl,q1⟩:=q1;cases r1;refine wpAny_truthy_bool ?_;cases c with
 | true=>exact hb pins s1 U H1 Q I1 q1
 | false=>exact⟨.bl false,H1,I1,rfl,q1⟩
theorem cf(ha:PE X a ta)(hb:PE X (.BoolOp .Or (b::rest) pos) tb):PE X (.BoolOp .Or (a::b::rest) pos) (eS ta tb):=by
 intro pins s U H Q I h;refine BoolOp_or (jm (ha pins s U H _ I h) fun v s1 xx=>?_);obtain⟨x,H1,I1,r1,q1⟩:=xx;obtain⟨c,rfl,q1⟩:=q1;cases r1;refine wpAny_truthy_bool ?_;cases c with
 | false=>exact hb pins s1 U H1 Q I1 q1
 | true=>exact⟨.bl true,H1,I1,rfl,q1⟩
theorem XF(ha:PE X a ta):PE X (.UnaryOp .Not a pos) (ce ta):=by
 intro pins s U H Q I h;refine UnaryOp_ (jm (ha pins s U H _ I h) fun v s1 xx=>?_);obtain⟨x,H1,I1,r1,q1⟩:=xx;obtain⟨c,rfl,q1⟩:=q1;cases r1;exact not_of (wpAny_truthy_bool ⟨.bl (!c),H1,I1,rfl,q1⟩)
def fz(t:TT)(ta tb:TE):TE:=fun U H Q=>t U H fun c H1=>if c=true then ta U H1 Q else tb U H1 Q
theorem wx(hc:PT X c tA)(ha:PE X a ta)(hb:PE X b tb):PE X (.IfExp c a b pos) (fz tA ta tb):=by
 intro pins s U H Q I h;refine wpAny_IfExp (jm (hc pins s U H _ I h) fun d s1 xx=>?_);obtain⟨H1,I1,q1⟩:=xx;cases d with
 | true=>exact ha pins s1 U H1 Q I1 q1
 | false=>exact hb pins s1 U H1 Q I1 q1
end
def jr(K:uXa)(H:Hp)(a:Addr)(xs:List V):Prop:=
 Rd H a (.lst xs) \/
  ∃(o:Obj) (its:Array Value) (n:Nat),K.lookup a=some o/\o.cls=.type "list" /\o.dict=none/\o.data=.seq its n/\its.size<=sizeLine/\jd xs its.toList
def J8(K:uXa)(H:Hp)(a:Addr)(xs:List V):Prop:=
 Rd H a (.tup xs) \/
  ∃(o:Obj) (its:Array Value) (n:Nat),K.lookup a=some o/\o.cls=.type "tuple" /\o.data=.seq its n/\its.size<=sizeLine/\jd xs its.toList
noncomputable def eT:Value->Option V
 | .none=>some .non
 | .bool b=>some (.bl b)
 | .int i _=>some (.int i)
 | .str x _=>some (.str x)
 | .bytes b _=>some (.byt b)
 | .float b _=>some (.flt b)
 | .ref a=>some (.ref a)
 | .type n=>some (.ty n)
 | _=>none
theorem je.abs(r:je x u):eT u=some x:=by
 cases x with
 | non=>cases r;rfl
 | bl _=>cases r;rfl
 | int _=>obtain⟨t,rfl⟩:=r;rfl
 | str _=>obtain⟨t,rfl⟩:=r;rfl
 | byt _=>obtain⟨t,rfl⟩:=r;rfl
 | flt _=>obtain⟨t,rfl⟩:=r;rfl
 | ref _=>cases r;rfl
 | ty _=>cases r;rfl
theorem je.inj(r:je x u)(q:je y u):x=y:=vFa (r.abs.symm.trans q.abs)
theorem jd.inj:∀{xs ys:List V} {us:List Value},jd xs us->jd ys us->xs=ys
 | _,_,_,.nil,.nil=>rfl
 | _,_,_,.cons r t,.cons r' t'=>by rw[r.inj r',jd.inj t t']
section
variable {X:Cx} {pins:List (Addr×Obj)} {U:St} {H:Hp} {s:Shared} {a:Addr} {xs ys:List V}
theorem jr.of{K:uXa}(h:H a=some (.lst xs)):jr K H a xs:=.inl (.inl h)
theorem J8.of{K:uXa}(h:H a=some (.tup xs)):J8 K H a xs:=.inl (.inl h)
theorem Inv.list(I:Inv X pins U H s)(h:jr X.K H a xs):∃its:List Value,jd xs its/\PlainL s.heap a its.toArray/\xs.length<=sizeLine:=by
 rcases h with h | ⟨o,its,n,hk,hc,hd,hs,hz,r⟩
 ·obtain⟨z,its,n,r,e⟩:=h.ok I.hok;exact⟨its,r,⟨_,n,e,rfl,rfl,rfl⟩,z⟩
 ·refine⟨its.toList,r,⟨o,n,I.kIn a o hk,hc,hd,by simpa using hs⟩,?_⟩;have e:=r.length;simp only[Array.length_toList]at e
  lia
theorem Inv.tuple(I:Inv X pins U H s)(h:J8 X.K H a xs):∃its:List Value,jd xs its/\IsTup s.heap a its.toArray/\xs.length<=sizeLine:=by
 rcases h with h | ⟨o,its,n,hk,hc,hs,hz,r⟩
 ·obtain⟨z,its,r,p⟩:=h.ok I.hok;exact⟨its,r,p,z⟩
 ·refine⟨its.toList,r,⟨o,I.kIn a o hk,hc,n,by simpa using hs⟩,?_⟩;have e:=r.length;simp only[Array.length_toList]at e
  lia
theorem Inv.list_inj(I:Inv X pins U H s)(h:jr X.K H a xs)(h':jr X.K H a ys):xs=ys:=by
 obtain⟨its,r,⟨o,n,e,_,_,d⟩,_⟩:=I.list h;obtain⟨its',r',⟨o',n',e',_,_,d'⟩,_⟩:=I.list h';rw[e]at e';cases e';rw[d]at d';injection d' with d1 _;have:its=its':=by simpa using congrArg Array.toList d1
 subst this;exact r.inj r'
theorem Inv.tuple_inj(I:Inv X pins U H s)(h:J8 X.K H a xs)(h':J8 X.K H a ys):xs=ys:=by
 obtain⟨its,r,⟨o,e,_,n,d⟩,_⟩:=I.tuple h;obtain⟨its',r',⟨o',e',_,n',d'⟩,_⟩:=I.tuple h';rw[e]at e';cases e';rw[d]at d';injection d' with d1 _;have:its=its':=by simpa using congrArg Array.toList d1
 subst this;exact r.inj r'
end
noncomputable abbrev Cx.wish(X:Cx)(E:Value->Shared->Prop):Cx:={ X with xe:=E }
abbrev Cx.nox(X:Cx):Cx:=X.wish fun _ _=>False
theorem Cx.Ok.wish{X:Cx}(ok:X.Ok)(E:Value->Shared->Prop):(X.wish E).Ok:=
 ⟨ok.mod,ok.kind,ok.glob,ok.blt,ok.above,ok.inj,ok.has,ok.cab,ok.hd,ok.frames,ok.stk,ok.exf,ok.bs,ok.bsz,ok.noex,ok.exfs,ok.funs,ok.frf⟩
theorem Cx.Ok.unwish{X:Cx}{E:Value->Shared->Prop}(ok:(X.wish E).Ok):X.Ok:=
 ⟨ok.mod,ok.kind,ok.glob,ok.blt,ok.above,ok.inj,ok.has,ok.cab,ok.hd,ok.frames,ok.stk,ok.exf,ok.bs,ok.bsz,ok.noex,ok.exfs,ok.funs,ok.frf⟩
section
variable {X:Cx} {pins:List (Addr×Obj)} {U:St} {H:Hp} {s:Shared} {E:Value->Shared->Prop}
theorem Inv.wish(I:Inv X pins U H s)(E:Value->Shared->Prop):Inv (X.wish E) pins U H s:=⟨I.ok.wish E,I.os,I.bare,I.base,I.loc,I.cell,I.free,I.freeC,I.pin,I.hok,I.len⟩
theorem Inv.unwish(I:Inv (X.wish E) pins U H s):Inv X pins U H s:=⟨I.ok.unwish,I.os,I.bare,I.base,I.loc,I.cell,I.free,I.freeC,I.pin,I.hok,I.len⟩
theorem SP.unwish(h:SP (X.wish E) pins D f s'):SP X pins D f s':=by
 cases f with
 | next=>obtain⟨U',H',I,q⟩:=h;exact⟨U',H',I.unwish,q⟩
 | brk=>obtain⟨U',H',I,q⟩:=h;exact⟨U',H',I.unwish,q⟩
 | cont=>obtain⟨U',H',I,q⟩:=h;exact⟨U',H',I.unwish,q⟩
 | ret u=>obtain⟨v,U',H',I,r,q⟩:=h;exact⟨v,U',H',I.unwish,r,q⟩
theorem jG.nox{st:List Stmt}{t:TS}(h:jG X.nox st t):jG X st t:=fun pins s U H D I hw=>
 wCa (h pins s U H D (I.wish _) hw) (fun _ _ q=>q.unwish) fun _ _ z=>False.elim z
end
section
variable {X:Cx} {st:Stmt} {rest:List Stmt} {t u:TS} {e:Expr} {te:TE} {pos:Pos}
def cg:TS:=fun D U H=>D.nx U H
def eU(t u:TS):TS:=fun D U H=>t { D with nx:=u D } U H
theorem gr:jG X [] cg:=fun _ _ U H _ I h=>wpAny_execs_nil ⟨U,H,I,h⟩
theorem zp(h1:PS X st t)(h2:jG X rest u):jG X (st::rest) (eU t u):=by
 intro pins s U H D I h;refine wGa (jm (h1 pins s U H { D with nx:=u D } I h) fun f s1 q=>?_);cases f with
 | next=>
  obtain⟨U',H',I',q⟩:=q;exact h2 pins s1 U' H' D I' q
 | ret v=>exact q
 | brk=>exact q
 | cont=>exact q
theorem z9(h1:PS X st t):jG X [st] t:=by
 intro pins s U H D I h;refine wGa (jm (h1 pins s U H D I h) fun f s1 q=>?_);cases f with
 | next=>exact wpAny_execs_nil q
 | ret v=>exact q
 | brk=>exact q
 | cont=>exact q
theorem Inv.quiet(I:Inv X pins U H s):interactive X.env=false:=by simp[interactive,I.ok.kind]
def zq(te:TE):TS:=fun D U H=>te U H fun _ H1=>D.nx U H1
theorem yA(he:PE X e te)(hs:swapsWith e none pos.line X.env=pure false:=by rfl):PS X (.Expr e pos) (zq te):=by
 intro pins s U H D I h;exact wpAny_Expr_any (jm (he pins s U H _ I h) fun v s1 ⟨x,H1,I1,r1,q1⟩=>⟨U,H1,I1,q1⟩) I.quiet hs
def XH(te:TE):TS:=fun D U H=>te U H D.rt
theorem zT(he:PE X e te):PS X (.Return (some e) pos) (XH te):=by
 intro pins s U H D I h;exact wpAny_Return_some (jm (he pins s U H _ I h) fun v s1 ⟨x,H1,I1,r1,q1⟩=>⟨x,U,H1,I1,r1,q1⟩)
def ci:TS:=fun D _ H=>D.rt .non H
theorem QD:PS X (.Return none pos) ci:=fun _ _ U H _ I h=>wpAny_Return_none ⟨.non,U,H,I,rfl,h⟩
def eV(c:TT)(t u:TS):TS:=fun D U H=>c U H fun b H1=>if b=true then t D U H1 else u D U H1
theorem WV(hc:PT X c tc)(ha:jG X a t)(hb:jG X b u):PS X (.If c a b pos) (eV tc t u):=by
 intro pins s U H D I h;refine wpAny_If (jm (hc pins s U H _ I h) fun d s1 xx=>?_);obtain⟨H1,I1,q1⟩:=xx;cases d with
 | true=>exact ha pins s1 U H1 D I1 q1
 | false=>exact hb pins s1 U H1 D I1 q1
def XI:TS:=fun _ _ _=>False
theorem K5:jG X sts XI:=fun _ _ _ _ _ _ h=>h.elim
end
noncomputable abbrev TG:=V->St->Hp->(St->Hp->Prop)->Prop
noncomputable abbrev gu:=List V->St->Hp->(St->Hp->Prop)->Prop
def PG(X:Cx)(target:Expr)(t:TG):Prop:=
 ∀(pins:List (Addr×Obj)) (s:Shared) (U:St) (H:Hp) (v:V) (u:Value) (Q:St->Hp->Prop),Inv X pins U H s->je v u->t v U H Q->
  wpAny (model X.prog X.w) X.A (assign target X.env u) (fun _ s'=>∃U' H',Inv X pins U' H' s'/\Q U' H') X.xe s
def zU(X:Cx)(ts:List Expr)(t:gu):Prop:=
 ∀(pins:List (Addr×Obj)) (s:Shared) (U:St) (H:Hp) (vs:List V) (us:List Value) (Q:St->Hp->Prop),Inv X pins U H s->jd vs us->t vs U H Q->
  wpAny (model X.prog X.w) X.A (assignInOrder ((assignEach ts X.env).map (·.2)) us) (fun _ s'=>∃U' H',Inv X pins U' H' s'/\Q U' H') X.xe s
noncomputable abbrev XJ:=V->V->V->Hp->(Hp->Prop)->Prop
def ut(X:Cx)(t:XJ):Prop:=
 ∀(pins:List (Addr×Obj)) (s:Shared) (U:St) (H:Hp) (o i v:V) (ov iv u:Value) (Q:Hp->Prop),Inv X pins U H s->je o ov->je i iv->je v u->t o i v H Q->
  wpAny (model X.prog X.w) X.A (setItem ov iv u) (fun _ s'=>∃H',Inv X pins U H' s'/\Q H') X.xe s
noncomputable abbrev WW:=V->V->Hp->VK->Prop
def WX(X:Cx)(op:Operator)(t:WW):Prop:=
 ∀(pins:List (Addr×Obj)) (s:Shared) (U:St) (H:Hp) (x y:V) (v u:Value) (Q:VK),Inv X pins U H s->je x v->je y u->t x y H Q->
  wpAny (model X.prog X.w) X.A (inplaceOp op v u) (EP X pins U Q) X.xe s
section
variable {X:Cx} {pos:Pos}
def JX(i:Nat):TG:=fun v U H Q=>Q (U.set i (some v)) H
theorem QE(hN:X.N.Nodup)(hi:X.N[i]?=some x)(hx:ZC X.env.scope x)(hf:X.fn x=true \/ X.env.scope.names.lookup x=some .local:=by first | exact .inl rfl | exact .inr rfl | assumption):PG X (.Name x pos) (JX i):=by
 intro pins s U H v u Q I r h;exact wpAny_assign_Name (Yi I hN hi hx r (fun s' I'=>⟨_,H,I',h⟩) hf)
def eW:gu:=fun vs U H Q=>vs=[]/\Q U H
def cj(t:TG)(u:gu):gu:=fun vs U H Q=>∃v r,vs=v::r/\t v U H fun U' H'=>u r U' H' Q
theorem QF:zU X [] eW:=by
 intro pins s U H vs us Q I r h;obtain⟨e,h⟩:=h;subst e;cases r;exact assignInOrder_nil ⟨U,H,I,h⟩
theorem wy(h1:PG X e t)(h2:zU X es u)
  (hs:(assignEach (e::es) X.env).map (·.2)=assign e X.env::(assignEach es X.env).map (·.2):=by rfl):zU X (e::es) (cj t u):=by
 intro pins s U H vs us Q I r h;obtain⟨v,vr,e1,h⟩:=h;subst e1;cases r with
 | cons r rr=>
  rw[hs];refine assignInOrder_cons (jm (h1 pins s U H _ _ _ I r h) fun _ s1 xx=>?_);obtain⟨U1,H1,I1,q1⟩:=xx;exact h2 pins s1 U1 H1 _ _ Q I1 rr q1
def eX(K:uXa)(n:Nat)(t:gu):TG:=fun v U H Q=>∃a xs,v=.ref a/\J8 K H a xs/\xs.length=n/\t xs U H Q
theorem XM(hc:X.calm=true)(h:zU X es t)
  (hn:(assignEach es X.env).length=n:=by rfl) (hst:(assignEach es X.env).findIdx? (·.1)=none:=by rfl):PG X (.Tuple es k pos) (eX X.K n t):=by
 intro pins s U H v u Q I r hw;obtain⟨a,xs,e1,hq,hl,hw⟩:=hw;subst e1;cases r;obtain⟨its,rv,ht,hz⟩:=I.tuple hq;refine assign_Tuple_tuple (I.ok.hd hc) ht (by simp[hn,<-hl,rv.length]) hst fun h' hx=>?_;have I1:Inv X pins U H { s with heap:=h' }:=I.kept (t':=s.toks) fun b o e=>hx b o (wTa (wLa e)) e;exact h pins _ U H xs _ Q I1 (by simpa using rv) hw
def Gu(to ti:TE)(t:XJ):TG:=fun v U H Q=>to U H fun o H1=>ti U H1 fun i H2=>t o i v H2 fun H3=>Q U H3
theorem vq(ho:PE X o to)(hi:PE X i ti)(hs:ut X t)
  (ha:∀v,assign (.Subscript o i pos) X.env v=(do
   let ov<-holding [v] (eval o X.env)
   let iv<-holding [v,ov] (eval i X.env)
   standAt pos
   holding [v,ov,iv] (setItem ov iv v)
   release [v,ov,iv] []):=by intro _;rfl):PG X (.Subscript o i pos) (Gu to ti t):=by
 intro pins s U H v u Q I r h;rw[ha];refine wAa (wDa (jm (ho pins s U H _ I h) fun ov s1 xx=>?_));obtain⟨x,H1,I1,r1,q1⟩:=xx;refine wAa (wDa (jm (hi pins s1 U H1 _ I1 q1) fun iv s2 xx=>?_));obtain⟨y,H2,I2,r2,q2⟩:=xx;refine wAa (vOa (wAa (wDa (jm (hs pins s2 U H2 x y v ov iv u _ I2 r1 r2 r q2) fun _ s3 xx=>?_))));obtain⟨H3,I3,q3⟩:=xx;exact wpAny_release ⟨U,H3,I3,q3⟩
def JQ(te:TE)(g:TG):TS:=fun D U H=>te U H fun x H1=>g x U H1 D.nx
theorem za(he:PE X e te)(hg:PG X tg g)(hs:swapsWithSole [tg] e pos.line X.env=pure false:=by rfl)(hw:swappedStores [tg] e X.env=pure none:=by rfl)
  (h1:(assignEach [tg] X.env).map (·.2)=[assign tg X.env]:=by rfl):PS X (.Assign [tg] e pos) (JQ te g):=by
 intro pins s U H D I h;refine wpAny_Assign_stores (jm (he pins s U H _ I h) fun v s1 xx=>?_) hs hw;obtain⟨x,H1,I1,r1,q1⟩:=xx;rw[h1];exact jm (hg pins s1 U H1 x v _ I1 r1 q1) fun _ s2 q=>q
theorem zb(hN:X.N.Nodup)(hi:X.N[i]?=some x)(hx:ZC X.env.scope x)(he:PE X e te)(hs:swapsWith e (some (.Name x pos')) pos.line X.env=pure false:=by rfl)(hf:X.fn x=true \/ X.env.scope.names.lookup x=some .local:=by first | exact .inl rfl | exact .inr rfl | assumption):
  PS X (.Assign [.Name x pos'] e pos) (JQ te (JX i)):=by
 intro pins s U H D I h;refine wpAny_Assign_Name (jm (he pins s U H _ I h) fun v s1 xx=>?_) hs;obtain⟨y,H1,I1,r1,q1⟩:=xx;exact Yi I1 hN hi hx r1 (fun s2 I2=>⟨_,H1,I2,q1⟩) hf
def wz(i:Nat)(te:TE)(ti:WW):TS:=fun D U H=>∃x,U[i]?=some (some x)/\te U H fun y H1=>ti x y H1 fun z H2=>D.nx (U.set i (some z)) H2
theorem uu(hN:X.N.Nodup)(hi:X.N[i]?=some x)(hx:ZC X.env.scope x)(he:PE X e te)(ho:WX X op ti)(hf:X.fn x=true \/ X.env.scope.names.lookup x=some .local:=by first | exact .inl rfl | exact .inr rfl | assumption):
  PS X (.AugAssign (.Name x pos') op e pos) (wz i te ti):=by
 intro pins s U H D I h;obtain⟨v,e1,h⟩:=h;obtain⟨m,hn,hl⟩:=I.loc;have vis:zS X.env.scope x:=by rcases hx with k | k;exact .inl k;exact .inr (.inl k)
 obtain⟨u,r,l⟩:=hl i x v hi e1 vis;refine wpAny_AugAssign_Name ?_;have go:wpAny (model X.prog X.w) X.A (eval e X.env) (fun w s₂=>wpAny (model X.prog X.w) X.A (inplaceOp op u w) (fun r s₃=>wpAny (model X.prog X.w) X.A (storeName X.env x r) (fun _=>SP X pins D .next) X.xe s₃) X.xe s₂) X.xe s:=by
  refine jm (he pins s U H _ I h) fun w s1 xx=>?_;obtain⟨y,H1,I1,r1,q1⟩:=xx;refine jm (ho pins s1 U H1 v y u w _ I1 r r1 q1) fun z s2 xx=>?_;obtain⟨zv,H2,I2,r2,q2⟩:=xx;exact Yi I2 hN hi hx r2 (fun s3 I3=>⟨_,H2,I3,q2⟩) hf
 rcases l with⟨hk,hm⟩ | ⟨hk,c,hc,hcell⟩
 ·exact wpAny_loadName_local I.ok.kind hk hn hm go
 ·rcases hk with hk | hk
  ·exact wpAny_loadName_cell I.ok.kind hk hc hcell go
  ·rcases hx with k | k
   ·have:X.env.scope.names.lookup x=some .free:=hk;rw[k]at this;cases this
   ·have:X.env.scope.names.lookup x=some .free:=hk;rw[k]at this;cases this
noncomputable def XO(f:Int->Int->Int):WW:=fun x y H Q=>∃i j,x=.int i/\y=.int j/\Q (.int (f i j)) H
theorem XQ:WX X .Add (XO fun i j=>i+j):=by
 intro pins s U H x y v u Q I r1 r2 h;obtain⟨i,j,e1,e2,q⟩:=h;subst e1;subst e2;obtain⟨t,rfl⟩:=r1;obtain⟨t',rfl⟩:=r2;exact iadd_int ⟨.int _,H,I.tok _,⟨_,rfl⟩,q⟩
theorem XR:WX X .Sub (XO fun i j=>i - j):=by
 intro pins s U H x y v u Q I r1 r2 h;obtain⟨i,j,e1,e2,q⟩:=h;subst e1;subst e2;obtain⟨t,rfl⟩:=r1;obtain⟨t',rfl⟩:=r2;exact isub_int ⟨.int _,H,I.tok _,⟨_,rfl⟩,q⟩
end
section
variable {X:Cx} {pos:Pos}
def XS(c:TT)(tb:TS):TS:=fun D U H=>∃W:Nat->St->Hp->Prop,(∃m,W m U H)/\∀m U H,W m U H->
 c U H fun b H1=>if b=true then∃N:St->Hp->Prop,(∀U' H',N U' H'->∃m',m' < m/\W m' U' H')/\tb { D with nx:=N,ct:=N,bk:=D.nx } U H1 else D.nx U H1
theorem wA(hp:PassesOwn (model X.prog X.w) X.A X.env X.xe)(hc:PT X c tc)(hb:jG X body tb):PS X (.While c body [] pos) (XS tc tb):=by
 intro pins s U H D I h;obtain⟨W,⟨m0,w0⟩,turn⟩:=h;refine wpAny_While (codeAny_whileLoop (fun n s'=>∃U' H',Inv X pins U' H' s'/\W n U' H') ?_ m0 ⟨U,H,I,w0⟩);rintro n s1 ⟨U1,H1,I1,w1⟩;refine wpAny_passesOwn hp (jm (hc pins s1 U1 H1 _ I1 (turn n U1 H1 w1)) fun b s2 xx=>?_);obtain⟨H2,I2,q2⟩:=xx;cases b with
 | true=>
  obtain⟨N,hN,q2⟩:=q2;rw[if_pos rfl];refine wpAny_passesOwn hp (jm (hb pins s2 U1 H2 _ I2 q2) fun f s3 q3=>?_);cases f with
  | next=>
   obtain⟨U3,H3,I3,n3⟩:=q3;obtain⟨m',hm,w3⟩:=hN U3 H3 n3;exact⟨m',hm,U3,H3,I3,w3⟩
  | cont=>
   obtain⟨U3,H3,I3,n3⟩:=q3;obtain⟨m',hm,w3⟩:=hN U3 H3 n3;exact⟨m',hm,U3,H3,I3,w3⟩
  | brk=>exact q3
  | ret v=>exact q3
 | false=>
  rw[if_neg Bool.false_ne_true];exact wpAny_execs_nil ⟨U1,H2,I2,q2⟩
end
structure It where
 go:Nat->Hp->Prop
 yld:Nat->Hp->V->Hp->Prop
 stop:Nat->Hp->Prop
def Ja(X:Cx)(pins:List (Addr×Obj))(H:Hp)(b:Addr):Prop:=
 H b=none/\b≠X.env.locals/\b∉X.fs/\(b∈X.ex \/ X.s₀.heap.objs.size<=b)/\(∀x c,X.env.cells.lookup x=some c->c≠b)/\∀p∈X.pn++pins,p.1≠b
theorem Inv.fpOk(I:Inv X pins U H s)(hb:s.heap.objs.size<=b)(hn:H' b=none):Ja X pins H' b:=by
 refine⟨hn,Nat.ne_of_gt (Nat.lt_of_lt_of_le I.lt hb),I.nofs hb,.inr (wSa I.sz hb),fun x c e z=>?_,fun p hp z=>?_⟩
 ·obtain⟨v,q⟩:=I.cell x c e;exact vDa (Nat.lt_of_lt_of_le q.lt (by rw[z];exact hb)) (wUa _)
 ·exact vDa (Nat.lt_of_lt_of_le (wLa (I.pin p hp).1) (by rw[z];exact hb)) (wUa _)
structure Turn (P:Program) (w:World) (K:uXa) (tg:Expr) (J:It) (fp:List Addr) (it:Addr) (tn:Nat->Heap->Prop):Prop where
 mem:it∈fp
 obj:∀i h,tn i h->∀b∈fp,∃o,h.get? b=some o/\∀v,o.data≠.cell v
 keep:∀i h h',tn i h->(∀b∈fp,∀o,h.get? b=some o->h'.get? b=some o)->tn i h'
 item:∀(X:Cx),X.prog=P->X.w=w->X.K=K->X.calm=true->∀(i:Nat) (pins:List (Addr×Obj)) (s:Shared) (U:St) (H:Hp) (E:Value->Shared->Prop),Inv X pins U H s->(∀b∈fp,Ja X pins H b)->tn i s.heap->J.go i H->
  wpAny (model P w) X.A (pyNext (.ref it)) (fun r s1=>∃u,r=some u/\
   wpAny (model P w) X.A (letOwnedTupleGo tg (.ref it) u) (fun _ s2=>∃x H',Inv X pins U H' s2/\je x u/\J.yld i H x H'/\tn (i+1) s2.heap/\∀b∈fp,H' b=none) E s1) E s
 done:∀(X:Cx),X.prog=P->X.w=w->X.K=K->X.calm=true->∀(i:Nat) (pins:List (Addr×Obj)) (s:Shared) (U:St) (H:Hp) (E:Value->Shared->Prop),Inv X pins U H s->(∀b∈fp,Ja X pins H b)->tn i s.heap->J.stop i H->
  wpAny (model P w) X.A (pyNext (.ref it)) (fun r s1=>r=none/\Inv X pins U H s1) E s
 self:∀(A:Around) (i:Nat) (s:Shared) (Q:Value->Shared->Prop) (E:Value->Shared->Prop),tn i s.heap->Q (.ref it) s->wpAny (model P w) A (pyIter (.ref it)) Q E s
noncomputable abbrev TI:=St->Hp->(It->Hp->Prop)->Prop
def Dk(X:Cx)(pins:List (Addr×Obj))(U:St)(tg:Expr)(R:It->Hp->Prop)(itv:Value)(s2:Shared):Prop:=
 ∃(it:Addr) (fp:List Addr) (tn:Nat->Heap->Prop) (J:It) (H':Hp),itv=.ref it/\Inv X pins U H' s2/\Turn X.prog X.w X.K tg J fp it tn/\tn 0 s2.heap/\(∀b∈fp,Ja X pins H' b)/\R J H'
def PI(X:Cx)(tg iter:Expr)(wi:TI):Prop:=
 ∀(pins:List (Addr×Obj)) (s:Shared) (U:St) (H:Hp) (R:It->Hp->Prop),Inv X pins U H s->wi U H R->
  wpAny (model X.prog X.w) X.A (eval iter X.env) (fun v s1=>wpAny (model X.prog X.w) X.A (pyIter v) (Dk X pins U tg R) X.xe s1) X.xe s
theorem Zl(ho:s.heap.get? it=some o)(hc:o.cls=.type n)(hd:o.data=.fields vs)
  (hn:["enumerate", "zip", "dict_itemiterator", "dict_reverseitemiterator", "odict_iterator", "itertools.zip_longest", "itertools.pairwise"].contains n=false) (hQ:Q () s):wpAny M A (letOwnedTupleGo tg (.ref it) u) Q E s:=by
 unfold letOwnedTupleGo;cases tg <;> first
  | exact wBa hQ
  | (cases u <;> first
    | exact wBa hQ
    | (refine wAa (wpAny_load ho ?_)
       rw[hc,hd];show wpAny M A (if (["enumerate", "zip", "dict_itemiterator", "dict_reverseitemiterator", "odict_iterator", "itertools.zip_longest", "itertools.pairwise"].contains n&&vs[0]?==some (rawInt _))=true then _ else _) Q E s;rw[if_neg (by intro h;rw[hn,Bool.false_and]at h;cases h)];exact wBa hQ))
def XU(K:uXa)(a:Addr):It:=
 ⟨fun i H=>∃xs x,jr K H a xs/\xs[i]?=some x,fun i H x H'=>H'=H/\∀xs,jr K H a xs->xs[i]?=some x,fun i H=>∃xs,jr K H a xs/\xs.length<=i⟩
def XV(K:uXa)(a:Addr):It:=
 ⟨fun i H=>∃xs x,J8 K H a xs/\xs[i]?=some x,fun i H x H'=>H'=H/\∀xs,J8 K H a xs->xs[i]?=some x,fun i H=>∃xs,J8 K H a xs/\xs.length<=i⟩
def WY(lo:Int)(n:Nat):It:=⟨fun i _=>i < n,fun i H x H'=>H'=H/\x=.int (lo+i),fun i _=>n<=i⟩
theorem K6{P:Program}{w:World}{K:uXa}{tg:Expr}(a it:Addr):Turn P w K tg (XU K a) [it] it (fun i h=>h.IsListIter it a i) where
 mem:=by simp
 obj:=fun i h st b hb=>by
  have e:b=it:=by simpa using hb
  subst e;obtain⟨o,e,c,d⟩:=st;exact⟨o,e,fun v z=>by rw[d]at z;cases z⟩
 keep:=fun i h h' st k=>st.at fun o e=>k it (by simp) o e
 item:=by
  intro X hP hw hK hc i pins s U H E I hf st hg;subst hP hw hK;obtain⟨xs,x,hq,hx⟩:=hg;obtain⟨its,rv,p,hz⟩:=I.list hq;obtain⟨u,hu,ru⟩:=rv.get hx;obtain⟨f0,f1,f2,f3,f4,f5⟩:=hf it (by simp);refine wpAny_pyNext_list_item st p.isList (x:=u) (by simpa using hu) fun h' st' sb=>?_;have I1:Inv X pins U H { s with heap:=h' }:=I.turned (t':=s.toks) (fun b o hb e=>(sb.2 b hb).trans e) f0 f1 f3 f4 f5;obtain⟨o,e,c,d⟩:=id st';exact⟨u,rfl,Zl (s:={ s with heap:=h' }) e c d (by decide) ⟨x,H,I1,ru,⟨rfl,fun ys hy=>by rw[I.list_inj hy hq];exact hx⟩,st',fun b hb=>(hf b hb).1⟩⟩
 done:=by
  intro X hP hw hK hc i pins s U H E I hf st hg;subst hP hw hK;obtain⟨xs,hq,hx⟩:=hg;obtain⟨its,rv,p,hz⟩:=I.list hq;obtain⟨f0,f1,f2,f3,f4,f5⟩:=hf it (by simp);have hl:=rv.length;exact wpAny_pyNext_list_end (I.ok.hd hc) st p.isList (by simp;lia) fun h' eb=>⟨rfl,I.turned (t':=s.toks) (fun b o hb e=>eb b o hb e) f0 f1 f3 f4 f5⟩
 self:=fun _ _ _ _ _ st h=>wpAny_pyIter_listiter st h
theorem Gv{P:Program}{w:World}{K:uXa}{tg:Expr}(a it:Addr):Turn P w K tg (XV K a) [it] it (fun i h=>h.IsTupleIter it a i) where
 mem:=by simp
 obj:=fun i h st b hb=>by
  have e:b=it:=by simpa using hb
  subst e;obtain⟨o,e,c,d⟩:=st;exact⟨o,e,fun v z=>by rw[d]at z;cases z⟩
 keep:=fun i h h' st k=>st.at fun o e=>k it (by simp) o e
 item:=by
  intro X hP hw hK hc i pins s U H E I hf st hg;subst hP hw hK;obtain⟨xs,x,hq,hx⟩:=hg;obtain⟨its,rv,p,hz⟩:=I.tuple hq;obtain⟨u,hu,ru⟩:=rv.get hx;obtain⟨f0,f1,f2,f3,f4,f5⟩:=hf it (by simp);refine wpAny_pyNext_tuple_item st (show s.heap.IsTuple a its.toArray from p) (x:=u) (by simpa using hu) fun h' st' sb=>?_;have I1:Inv X pins U H { s with heap:=h' }:=I.turned (t':=s.toks) (fun b o hb e=>(sb.2 b hb).trans e) f0 f1 f3 f4 f5;obtain⟨o,e,c,d⟩:=id st';exact⟨u,rfl,Zl (s:={ s with heap:=h' }) e c d (by decide) ⟨x,H,I1,ru,⟨rfl,fun ys hy=>by rw[I.tuple_inj hy hq];exact hx⟩,st',fun b hb=>(hf b hb).1⟩⟩
 done:=by
  intro X hP hw hK hc i pins s U H E I hf st hg;subst hP hw hK;obtain⟨xs,hq,hx⟩:=hg;obtain⟨its,rv,p,hz⟩:=I.tuple hq;obtain⟨f0,f1,f2,f3,f4,f5⟩:=hf it (by simp);have hl:=rv.length;exact wpAny_pyNext_tuple_end (I.ok.hd hc) st (show s.heap.IsTuple a its.toArray from p) (by simp;lia) fun h' eb=>⟨rfl,I.turned (t':=s.toks) (fun b o hb e=>eb b o hb e) f0 f1 f3 f4 f5⟩
 self:=fun _ _ _ _ _ st h=>wpAny_pyIter_tupleiter st h
theorem Gw{P:Program}{w:World}{K:uXa}{tg:Expr}(it:Addr)(lo:Int)(n:Nat):Turn P w K tg (WY lo n) [it] it (fun i h=>IsRangeIter h it (lo+(i:Nat) * 1) ((n:Int) - (i:Nat)) 1) where
 mem:=by simp
 obj:=fun i h st b hb=>by
  have e:b=it:=by simpa using hb
  subst e;exact⟨_,st,fun v z=>by
   have z':Data.fields _=Data.cell v:=z;cases z'⟩
 keep:=fun i h h' st k=>k it (by simp) _ st
 item:=by
  intro X hP hw hK hc i pins s U H E I hf st hg;subst hP hw hK;obtain⟨f0,f1,f2,f3,f4,f5⟩:=hf it (by simp);have W:=Walks.range (prog:=X.prog) (w:=X.w) (I.ok.hd hc) it lo 1 n;refine W.item i s _ _ hg st fun v h' tk hv st' kk=>?_;obtain⟨t,rfl⟩:=hv;have I1:Inv X pins U H { s with heap:=h',toks:=tk }:=I.turned (fun b o hb e=>kk b o (by simpa using hb) e) f0 f1 f3 f4 f5;refine⟨_,rfl,Zl (s:={ s with heap:=h',toks:=tk }) (n := "range_iterator") st' rfl rfl (by decide) ⟨.int (lo+i),H,I1,⟨t,?_⟩,⟨rfl,rfl⟩,st',fun b hb=>(hf b hb).1⟩⟩;rw[Int.mul_one]
 done:=by
  intro X hP hw hK hc i pins s U H E I hf st hg;subst hP hw hK;obtain⟨f0,f1,f2,f3,f4,f5⟩:=hf it (by simp);exact wpAny_pyNext_range_end (I.ok.hd hc) st (by have:n<=i:=hg;lia) fun h' eb=>⟨rfl,I.turned (t':=s.toks) (fun b o hb e=>eb b o hb e) f0 f1 f3 f4 f5⟩
 self:=fun _ _ _ _ _ st h=>wpAny_pyIter_rangeiter st h
section
variable {X:Cx} {tg:Expr}
theorem wB{pins:List (Addr×Obj)}{U:St}{H:Hp}{s:Shared}{R:It->Hp->Prop}{E:Value->Shared->Prop}{lo hi:Int}{t u v:Tok}{tk:Nat}(I:Inv X pins U H s)(h1:-(2 ^ 62)<=lo)(h2:lo < 2 ^ 62)(h3:-(2 ^ 62)<=hi)(h4:hi < 2 ^ 62)
  (q:R (WY lo (hi - lo).toNat) H):wpAny (model X.prog X.w) X.A (pyIter (.ref s.heap.objs.size)) (Dk X pins U tg R) E { s with heap:=s.heap.push { cls:=.type "range",data:=.fields #[.int lo t,.int hi u,.int 1 v] },toks:=tk }:=by
 refine wpAny_pyIter_range (IsRange.new ..) (small_one h1 h2 h3 h4) ?_;have I1:Inv X pins U H { s with heap:=s.heap.push { cls:=.type "range",data:=.fields #[.int lo t,.int hi u,.int 1 v] },toks:=tk }:=I.kept fun b o e=>wIa _ e;refine⟨(s.heap.push { cls:=.type "range",data:=.fields #[.int lo t,.int hi u,.int 1 v] }).objs.size,[(s.heap.push { cls:=.type "range",data:=.fields #[.int lo t,.int hi u,.int 1 v] }).objs.size],_,_,H,rfl,
  I1.kept (t':=tk) fun b o e=>wIa _ e,Gw _ lo (hi - lo).toNat,?_,fun b hb=>?_,q⟩
 ·have e1:lo+((0:Nat):Int) * 1=lo:=by simp
  have e2:(((hi - lo).toNat:Nat):Int) - ((0:Nat):Int)=Builtin.Range.rangeSize lo hi 1:=by rw[rangeSize_one];split <;> lia
  show IsRangeIter _ _ (lo+((0:Nat):Int) * 1) ((((hi - lo).toNat:Nat):Int) - ((0:Nat):Int)) 1;rw[e1,e2];exact wJa _ rfl
 ·have e:b=(s.heap.push { cls:=.type "range",data:=.fields #[.int lo t,.int hi u,.int 1 v] }).objs.size:=by simpa using hb
  subst e;exact I1.fpOk (wPa _) (I1.hok.fresh (wPa _))
def ck(ta:TA):TI:=fun U H R=>ta U H fun vs H1=>∃j:Int,vs=[.int j]/\-(2 ^ 62)<=j/\j < 2 ^ 62/\R (WY 0 j.toNat) H1
theorem K7(hg:Gl X "range")(hm:X.mg "range" = none)(ha:PA X [a] ta)(hs:starEach [a] X.env=[(false,eval a X.env)]:=by rfl):PI X tg (.Call (.Name "range" p) [a] [] pos) (ck ta):=by
 intro pins s U H R I h;refine Call_ (yT I hg hm boot_range (PyProof.Rows.callWith_type1 (jm (ha pos pins s U H _ I h) fun us s1 xx=>?_) hs rfl));obtain⟨vs,H1,I1,r1,q1⟩:=xx;obtain⟨j,e,q1,q2,q⟩:=q1;subst e;cases r1 with
 | cons r rr=>
  cases rr;obtain⟨t,rfl⟩:=r;exact call_range_1 (wB I1 (by lia) (by lia) q1 q2 (by simpa using q))
def eY(wi:TI)(g:TG)(tb:TS):TS:=fun D U H=>wi U H fun J H1=>∃W:Nat->Nat->St->Hp->Prop,(∃m,W 0 m U H1)/\∀i m U H,W i m U H->
 (J.stop i H/\D.nx U H) \/ (J.go i H/\∃N:St->Hp->Prop,(∀U' H',N U' H'->∃m',m' < m/\W (i+1) m' U' H')/\∀x H',J.yld i H x H'->g x U H' fun U2 H2=>tb { D with nx:=N,ct:=N,bk:=D.nx } U2 H2)
noncomputable def zV(fp:List Addr)(h:Heap):List (Addr×Obj):=fp.filterMap fun b=>(h.get? b).map fun o=>(b,o)
theorem Y7(hb:b∈fp)(e:h.get? b=some o):(b,o)∈zV fp h:=List.mem_filterMap.mpr ⟨b,hb,by rw[e];rfl⟩
theorem K8(hp:p∈zV fp h):p.1∈fp/\h.get? p.1=some p.2:=by
 obtain⟨b,hb,e⟩:=List.mem_filterMap.mp hp;cases q:h.get? b with
 | none=>rw[q]at e;cases e
 | some o=>
  rw[q]at e;have e':(b,o)=p:=vFa e;subst e';exact⟨hb,q⟩
theorem Inv.pinned(I:Inv X pins U H s)(hf:∀b∈fp,Ja X pins H b)(ho:∀b∈fp,∃o,s.heap.get? b=some o/\∀v,o.data≠.cell v):Inv X (pins++zV fp s.heap) U H s:=
 I.pins_of fun p hp=>(uWa hp).elim (fun z=>I.pin p (vJa _ z)) fun z=>by
  obtain⟨hb,e⟩:=K8 z;obtain⟨f0,f1,f2,_⟩:=hf p.1 hb;obtain⟨o,e',d⟩:=ho p.1 hb;rw[e]at e';cases e';exact⟨e,f0,f1,f2,d⟩
theorem Inv.unpinned(I:Inv X (pins++pl) U H s):Inv X pins U H s:=I.pins_of fun p hp=>I.pin p (vJa _ (vIa _ hp))
theorem XW(hp:PassesOwn (model X.prog X.w) X.A X.env X.xe)(hc:X.calm=true)(hi:PI X tg iter wi)(hg:PG X tg g)(hb:jG X body tb)
  (hs:∀x,foldedSetIterable iter X.env x=pure x:=by intro _;rfl):PS X (.For tg iter body [] pos) (eY wi g tb):=by
 intro pins s U H D I h;refine wpAny_For (jm (hi pins s U H _ I h) fun v s1 h1=>jm h1 fun itv s2 h2=>?_) hs;obtain⟨it,fp,tn,J,H2,e,I2,T,st2,f2,W,⟨m0,w0⟩,turn⟩:=h2;subst e;have stat:∀{H':Hp},(∀b∈fp,H' b=none)->∀b∈fp,Ja X pins H' b:=fun hn b hb=>⟨hn b hb,(f2 b hb).2⟩
 refine codeAny_forLoop_any (fun n s'=>∃i U' H',Inv X pins U' H' s'/\tn i s'.heap/\(∀b∈fp,H' b=none)/\W i n U' H') ?_ m0 ⟨0,U,H2,I2,st2,fun b hb=>(f2 b hb).1,w0⟩;rintro n s3 ⟨i,U3,H3,I3,st3,fr3,w3⟩;rcases turn i n U3 H3 w3 with⟨stop,qn⟩ | ⟨go,N,hN,step⟩
 ·refine wpAny_passesOwn hp (jm (T.done X rfl rfl rfl hc i pins s3 U3 H3 X.xe I3 (stat fr3) st3 stop) fun r s4 xx=>?_);obtain⟨hr,I4⟩:=xx;subst hr;exact wpAny_execs_nil ⟨U3,H3,I4,qn⟩
 ·refine wpAny_passesOwn hp (jm (T.item X rfl rfl rfl hc i pins s3 U3 H3 X.xe I3 (stat fr3) st3 go) fun r s4 xx=>?_);obtain⟨u,hr,h4⟩:=xx;subst hr;refine wpAny_passesOwn hp (jm h4 fun _ s5 xx=>?_);obtain⟨x,H5,I5,r5,y5,st5,fr5⟩:=xx;have I5':=I5.pinned (stat fr5) (T.obj _ _ st5);refine wpAny_passesOwn hp (jm (hg _ s5 U3 H5 x u _ I5' r5 (step x H5 y5)) fun _ s6 xx=>?_);obtain⟨U6,H6,I6,q6⟩:=xx;refine wpAny_passesOwn hp (jm (hb _ s6 U6 H6 _ I6 q6) fun f s7 q7=>?_);have again:∀{U7:St} {H7:Hp},Inv X (pins++zV fp s5.heap) U7 H7 s7->N U7 H7->∃m,m < n/\∃i U' H',Inv X pins U' H' s7/\tn i s7.heap/\(∀b∈fp,H' b=none)/\W i m U' H':=fun {U7 H7} I7 n7=>by
   obtain⟨m',hm,w7⟩:=hN U7 H7 n7;refine⟨m',hm,i+1,U7,H7,I7.unpinned,T.keep _ _ _ st5 fun b hb o e=>(I7.pin (b,o) (vJa _ (vJa _ (Y7 hb e)))).1,fun b hb=>?_,w7⟩;obtain⟨o,e,d⟩:=T.obj _ _ st5 b hb;exact(I7.pin (b,o) (vJa _ (vJa _ (Y7 hb e)))).2.1
  cases f with
  | next=>obtain⟨U7,H7,I7,n7⟩:=q7;exact again I7 n7
  | cont=>obtain⟨U7,H7,I7,n7⟩:=q7;exact again I7 n7
  | brk=>obtain⟨U7,H7,I7,q7⟩:=q7;exact⟨U7,H7,I7.unpinned,q7⟩
  | ret v=>obtain⟨x7,U7,H7,I7,r7,q7⟩:=q7;exact⟨x7,U7,H7,I7.unpinned,r7,q7⟩
end
noncomputable abbrev R2:=V->V->Hp->VK->Prop
def jw(X:Cx)(f:Value->Value->Sem Value)(r:R2):Prop:=
 ∀(pins:List (Addr×Obj)) (s:Shared) (U:St) (H:Hp) (x y:V) (v u:Value) (Q:VK),Inv X pins U H s->je x v->je y u->r x y H Q->
  wpAny (model X.prog X.w) X.A (f v u) (EP X pins U Q) X.xe s
def XX(X:Cx)(f:Value->Sem Value)(r:V->Hp->VK->Prop):Prop:=
 ∀(pins:List (Addr×Obj)) (s:Shared) (U:St) (H:Hp) (x:V) (v:Value) (Q:VK),Inv X pins U H s->je x v->r x H Q->
  wpAny (model X.prog X.w) X.A (f v) (EP X pins U Q) X.xe s
def JG(X:Cx)(f:Value)(r:List V->Hp->VK->Prop):Prop:=
 ∀(pins:List (Addr×Obj)) (s:Shared) (U:St) (H:Hp) (xs:List V) (us:List Value) (Q:VK),Inv X pins U H s->jd xs us->r xs H Q->
  wpAny (model X.prog X.w) X.A (call f us) (EP X pins U Q) X.xe s
def eZ(X:Cx)(r:V->Hp->(Bool->Hp->Prop)->Prop):Prop:=
 ∀(pins:List (Addr×Obj)) (s:Shared) (U:St) (H:Hp) (x:V) (v:Value) (Q:Bool->Hp->Prop),Inv X pins U H s->je x v->r x H Q->
  wpAny (model X.prog X.w) X.A (truthy v) (TP X pins U Q) X.xe s
def gw(r:R2)(ta tb:TE):TE:=fun U H Q=>ta U H fun x H1=>tb U H1 fun y H2=>r x y H2 Q
def fA(r:V->Hp->VK->Prop)(ta:TE):TE:=fun U H Q=>ta U H fun x H1=>r x H1 Q
def rI(C:Int->Int->Prop)(g:Int->Int->V):R2:=fun x y H Q=>∃i j,x=.int i/\y=.int j/\C i j/\Q (g i j) H
def Y4(g:Int->Int->V):R2:=fun x y H Q=>∃i j,x=.int i/\y=.int j/\Q (g i j) H
def rU(g:Int->V):V->Hp->VK->Prop:=fun x H Q=>∃i,x=.int i/\Q (g i) H
section
variable {X:Cx} {a b c:Expr} {ta tb tc:TE} {pos:Pos}
theorem wC(ha:PE X a ta)(hb:PE X b tb){pins:List (Addr×Obj)}{s:Shared}{U:St}{H:Hp}{R:V->V->Hp->Prop}(I:Inv X pins U H s)
  (h:ta U H fun x H1=>tb U H1 fun y H2=>R x y H2) {Q:Value->Shared->Prop} {f:Value->Value->Sem Value}
  (hf:∀v u s2 x y H2,Inv X pins U H2 s2->je x v->je y u->R x y H2->wpAny (model X.prog X.w) X.A (f v u) Q X.xe s2):
  wpAny (model X.prog X.w) X.A (eval a X.env) (fun v s₁=>wpAny (model X.prog X.w) X.A (eval b X.env) (fun u s₂=>wpAny (model X.prog X.w) X.A (f v u) Q X.xe s₂) X.xe s₁) X.xe s:=by
 refine jm (ha pins s U H _ I h) fun v s1 xx=>?_;obtain⟨x,H1,I1,r1,q1⟩:=xx;refine jm (hb pins s1 U H1 _ I1 q1) fun u s2 xx=>?_;obtain⟨y,H2,I2,r2,q2⟩:=xx;exact hf v u s2 x y H2 I2 r1 r2 q2
theorem WZ{op:Operator}{r:R2}(ho:jw X (binaryOp op) r)(ha:PE X a ta)(hb:PE X b tb):PE X (.BinOp a op b pos) (gw r ta tb):=by
 intro pins s U H Q I h;exact wpAny_BinOp (wC ha hb I h fun v u s2 x y H2 I2 rx ry q=>ho pins s2 U H2 x y v u Q I2 rx ry q)
theorem cn(ho:XX X (unaryOp op) r)(ha:PE X a ta):PE X (.UnaryOp op a pos) (fA r ta):=by
 intro pins s U H Q I h;exact UnaryOp_ (jm (ha pins s U H _ I h) fun v s1 ⟨x,H1,I1,r1,q1⟩=>ho pins s1 U H1 x v Q I1 r1 q1)
theorem W_{f:Value->Value->Sem Value}{C:Int->Int->Prop}{g:Int->Int->Int}
  (rule:∀(i j:Int) (t u:Tok) (s:Shared) (Q:Value->Shared->Prop) (E:Value->Shared->Prop),C i j->Q (.int (g i j) s.toks) { s with toks:=s.toks+1 }->wpAny (model X.prog X.w) X.A (f (.int i t) (.int j u)) Q E s):
  jw X f (rI C fun i j=>.int (g i j)):=by
 intro pins s U H x y v u Q I rx ry h;obtain⟨i,j,rfl,rfl,hc,q⟩:=h;obtain⟨t,rfl⟩:=rx;obtain⟨t',rfl⟩:=ry;exact rule i j t t' s _ _ hc ⟨.int (g i j),H,I.tok _,⟨_,rfl⟩,q⟩
theorem XY{f:Value->Value->Sem Value}{g:Int->Int->Int}
  (rule:∀(i j:Int) (t u:Tok) (s:Shared) (Q:Value->Shared->Prop) (E:Value->Shared->Prop),Q (.int (g i j) s.toks) { s with toks:=s.toks+1 }->wpAny (model X.prog X.w) X.A (f (.int i t) (.int j u)) Q E s):
  jw X f (Y4 fun i j=>.int (g i j)):=by
 intro pins s U H x y v u Q I rx ry h;obtain⟨i,j,rfl,rfl,q⟩:=h;obtain⟨t,rfl⟩:=rx;obtain⟨t',rfl⟩:=ry;exact rule i j t t' s _ _ ⟨.int (g i j),H,I.tok _,⟨_,rfl⟩,q⟩
theorem Gx{f:Value->Value->Sem Value}{g:Int->Int->Bool}
  (rule:∀(i j:Int) (t u:Tok) (s:Shared) (Q:Value->Shared->Prop) (E:Value->Shared->Prop),Q (.bool (g i j)) s->wpAny (model X.prog X.w) X.A (f (.int i t) (.int j u)) Q E s):
  jw X f (Y4 fun i j=>.bl (g i j)):=by
 intro pins s U H x y v u Q I rx ry h;obtain⟨i,j,rfl,rfl,q⟩:=h;obtain⟨t,rfl⟩:=rx;obtain⟨t',rfl⟩:=ry;exact rule i j t t' s _ _ ⟨.bl (g i j),H,I,rfl,q⟩
def wD(i j:Int):Prop:=0 < j/\j < 1073741824
def wE(i j:Int):Prop:=0<=j/\j<=1000000/\i.natAbs < 2 ^ 64
def ZO(i j:Int):Prop:=(-(2 ^ 64) < i/\i < 2 ^ 64) \/ (-(2 ^ 64) < j/\j < 2 ^ 64)
theorem ZO.ok{i j:Int}(h:ZO i j):IntMulOk i j:=by
 rcases h with⟨h1,h2⟩ | ⟨h1,h2⟩
 ·exact .of_left (intBits_le_64 h1 h2)
 ·exact .of_right (intBits_le_64 h1 h2)
theorem XZ:jw X (binaryOp .Add) (Y4 fun i j=>.int (i+j)):=XY fun _ _ _ _ _ _ _ q=>add_int q
theorem X_:jw X (binaryOp .Sub) (Y4 fun i j=>.int (i - j)):=XY fun _ _ _ _ _ _ _ q=>sub_int q
theorem ad:jw X (binaryOp .Mult) (rI ZO fun i j=>.int (i * j)):=W_ fun _ _ _ _ _ _ _ hc q=>mul_int q hc.ok
theorem QG:jw X (binaryOp .FloorDiv) (rI wD fun i j=>.int (i / j)):=W_ fun i j _ _ _ _ _ hc q=>by
 have h1:(0:Int) < j:=hc.1;have h2:j < 1073741824:=hc.2;exact floordiv_int (by lia) (by rw[Int.fdiv_eq_ediv_of_nonneg i (by lia)];exact q) (.inl (PyProof.noPylong_small (by lia)))
theorem ae:jw X (binaryOp .Mod) (rI (fun _ j=>0 < j) fun i j=>.int (i % j)):=W_ fun i j _ _ _ _ _ hc q=>by
 have h1:(0:Int) < j:=hc;exact mod_int' (by lia) (by rw[Int.fmod_eq_emod_of_nonneg i (by lia)];exact q)
theorem af:jw X (binaryOp .Pow) (rI wE fun i j=>.int (i ^ j.toNat)):=W_ fun _ _ _ _ _ _ _ hc q=>pow_int_small hc.1 hc.2.1 hc.2.2 q
theorem fG{f:Value->Sem Value}{g:Int->Int}
  (rule:∀(i:Int) (t:Tok) (s:Shared) (Q:Value->Shared->Prop) (E:Value->Shared->Prop),Q (.int (g i) s.toks) { s with toks:=s.toks+1 }->wpAny (model X.prog X.w) X.A (f (.int i t)) Q E s):
  XX X f (rU fun i=>.int (g i)):=by
 intro pins s U H x v Q I rx h;obtain⟨i,rfl,q⟩:=h;obtain⟨t,rfl⟩:=rx;exact rule i t s _ _ ⟨.int (g i),H,I.tok _,⟨_,rfl⟩,q⟩
theorem ai:XX X (unaryOp .USub) (rU fun i=>.int (-i)):=fG fun _ _ _ _ _ q=>neg_int q
end
noncomputable def aj:V->V->Bool
 | .non,.non=>true | .non,.int _=>true | .int _,.non=>true | .non,.bl _=>true | .bl _,.non=>true | .non,.str _=>true | .str _,.non=>true
 | .int _,.int _=>true | .bl _,.bl _=>true | .str _,.str _=>true | .byt _,.byt _=>true
 | .int _,.str _=>true | .str _,.int _=>true | .bl _,.str _=>true | .str _,.bl _=>true
 | _,_=>false
def qc:R2:=fun x y H Q=>aj x y=true/\Q (.bl (decide (x=y))) H
def qd:R2:=fun x y H Q=>aj x y=true/\Q (.bl (!decide (x=y))) H
theorem zc:decide (V.int i=V.int j)=(i==j):=by
 rw[Bool.eq_iff_iff];simp
theorem zW:decide (V.bl i=V.bl j)=(i==j):=by
 rw[Bool.eq_iff_iff];simp
theorem zd:decide (V.str i=V.str j)=(i==j):=by
 rw[Bool.eq_iff_iff];simp
theorem gy:decide (V.byt i=V.byt j)=(i.toList==j.toList):=by
 rw[Bool.eq_iff_iff];cases i;cases j;simp
section
variable {X:Cx} {a b c:Expr} {ta tb tc:TE} {pos:Pos}
theorem ju(I:Inv X pins U H s)(q:Q (.bl k) H)(e:k=k'):EP X pins U Q (.bool k') s:=by
 subst e;exact⟨.bl k,H,I,rfl,q⟩
theorem cq:jw X (compareOp .Eq) qc:=by
 intro pins s U H x y v u Q I rx ry h;obtain⟨hs,q⟩:=h;cases x with
 | non=>
  cases rx;cases y with
  | non=>cases ry;exact PySem.EqNone.eq_none_none (ju I q (by simp))
  | bl j=>cases ry;exact PySem.EqNone.eq_none_bool (ju I q (by simp))
  | int j=>obtain⟨t',rfl⟩:=ry;exact PySem.EqNone.eq_none_int (ju I q (by simp))
  | str j=>obtain⟨t',rfl⟩:=ry;exact PySem.EqNone.eq_none_str (ju I q (by simp))
  | _=>exact vDa (show false=true from hs) vNa
 | bl i=>
  cases rx;cases y with
  | non=>cases ry;exact PySem.EqNone.eq_bool_none (ju I q (by simp))
  | bl j=>cases ry;exact eq_bool (ju I q zW)
  | str j=>obtain⟨t',rfl⟩:=ry;exact PySem.EqMixed.eq_bool_str (ju I q (by simp))
  | _=>exact vDa (show false=true from hs) vNa
 | int i=>
  obtain⟨t,rfl⟩:=rx;cases y with
  | non=>cases ry;exact PySem.EqNone.eq_int_none (ju I q (by simp))
  | int j=>obtain⟨t',rfl⟩:=ry;exact eq_int (ju I q zc)
  | str j=>obtain⟨t',rfl⟩:=ry;exact PySem.EqMixed.eq_int_str (ju I q (by simp))
  | _=>exact vDa (show false=true from hs) vNa
 | str i=>
  obtain⟨t,rfl⟩:=rx;cases y with
  | non=>cases ry;exact PySem.EqNone.eq_str_none (ju I q (by simp))
  | bl j=>cases ry;exact PySem.EqMixed.eq_str_bool (ju I q (by simp))
  | int j=>obtain⟨t',rfl⟩:=ry;exact PySem.EqMixed.eq_str_int (ju I q (by simp))
  | str j=>obtain⟨t',rfl⟩:=ry;exact eq_str (ju I q zd)
  | _=>exact vDa (show false=true from hs) vNa
 | byt i=>
  obtain⟨t,rfl⟩:=rx;cases y with
  | byt j=>obtain⟨t',rfl⟩:=ry;exact PySem.W.eq_bytes (ju I q gy)
  | _=>exact vDa (show false=true from hs) vNa
 | _=>cases y <;> exact vDa (show false=true from hs) vNa
theorem cr:jw X (compareOp .NotEq) qd:=by
 intro pins s U H x y v u Q I rx ry h;obtain⟨hs,q⟩:=h;cases x with
 | non=>
  cases rx;cases y with
  | non=>cases ry;exact PySem.EqNone.ne_none_none (ju I q (by simp))
  | bl j=>cases ry;exact PySem.EqNone.ne_none_bool (ju I q (by simp))
  | int j=>obtain⟨t',rfl⟩:=ry;exact PySem.EqNone.ne_none_int (ju I q (by simp))
  | str j=>obtain⟨t',rfl⟩:=ry;exact PySem.EqNone.ne_none_str (ju I q (by simp))
  | _=>exact vDa (show false=true from hs) vNa
 | bl i=>
  cases rx;cases y with
  | non=>cases ry;exact PySem.EqNone.ne_bool_none (ju I q (by simp))
  | bl j=>cases ry;exact ne_bool (ju I q (congrArg not zW))
  | str j=>obtain⟨t',rfl⟩:=ry;exact PySem.EqMixed.ne_bool_str (ju I q (by simp))
  | _=>exact vDa (show false=true from hs) vNa
 | int i=>
  obtain⟨t,rfl⟩:=rx;cases y with
  | non=>cases ry;exact PySem.EqNone.ne_int_none (ju I q (by simp))
  | int j=>obtain⟨t',rfl⟩:=ry;exact ne_int (ju I q (congrArg not zc))
  | str j=>obtain⟨t',rfl⟩:=ry;exact PySem.EqMixed.ne_int_str (ju I q (by simp))
  | _=>exact vDa (show false=true from hs) vNa
 | str i=>
  obtain⟨t,rfl⟩:=rx;cases y with
  | non=>cases ry;exact PySem.EqNone.ne_str_none (ju I q (by simp))
  | bl j=>cases ry;exact PySem.EqMixed.ne_str_bool (ju I q (by simp))
  | int j=>obtain⟨t',rfl⟩:=ry;exact PySem.EqMixed.ne_str_int (ju I q (by simp))
  | str j=>obtain⟨t',rfl⟩:=ry;exact ne_str (ju I q (congrArg not zd))
  | _=>exact vDa (show false=true from hs) vNa
 | byt i=>
  obtain⟨t,rfl⟩:=rx;cases y with
  | byt j=>obtain⟨t',rfl⟩:=ry;exact PySem.W.ne_bytes (ju I q (congrArg not gy))
  | _=>exact vDa (show false=true from hs) vNa
 | _=>cases y <;> exact vDa (show false=true from hs) vNa
theorem cu:jw X (compareOp .Lt) (Y4 fun i j=>.bl (decide (i < j))):=Gx fun _ _ _ _ _ _ _ q=>lt_int q
theorem cw:jw X (compareOp .LtE) (Y4 fun i j=>.bl (decide (i<=j))):=Gx fun _ _ _ _ _ _ _ q=>le_int q
theorem cx:jw X (compareOp .Gt) (Y4 fun i j=>.bl (decide (j < i))):=Gx fun _ _ _ _ _ _ _ q=>gt_int q
theorem cy:jw X (compareOp .GtE) (Y4 fun i j=>.bl (decide (j<=i))):=Gx fun _ _ _ _ _ _ _ q=>ge_int q
theorem ao:jw X (compareOp .Is) (fun x y H Q=>y=.non/\Q (.bl (decide (x=.non))) H):=by
 intro pins s U H x y v u Q I rx ry h;obtain⟨rfl,q⟩:=h;cases ry;refine is_none_gen (ju I q ?_);cases x <;> first
  | (cases rx;rfl)
  | (obtain⟨t,rfl⟩:=rx;rfl)
theorem QH:jw X (compareOp .IsNot) (fun x y H Q=>y=.non/\Q (.bl (!decide (x=.non))) H):=by
 intro pins s U H x y v u Q I rx ry h;obtain⟨rfl,q⟩:=h;cases ry;refine isnot_none_gen (ju I q ?_);cases x <;> first
  | (cases rx;rfl)
  | (obtain⟨t,rfl⟩:=rx;rfl)
theorem jw.or(h:jw X f r)(h':jw X f r'):jw X f (fun x y H Q=>r x y H Q \/ r' x y H Q):=by
 intro pins s U H x y v u Q I rx ry q;rcases q with q | q
 ·exact h pins s U H x y v u Q I rx ry q
 ·exact h' pins s U H x y v u Q I rx ry q
theorem QI(ho:jw X (compareOp op) r)(ha:PE X a ta)(hb:PE X b tb)(hm:behindInMarks op b=false):PE X (.Compare a [op] [b] pos) (gw r ta tb):=by
 intro pins s U H Q I h;exact wpAny_Compare1 (wC ha hb I h fun v u s2 x y H2 I2 rx ry q=>ho pins s2 U H2 x y v u Q I2 rx ry q) hm
def qe(t:TE):TT:=fun U H Q=>t U H fun x H'=>∃k,x=.bl k/\Q k H'
theorem gz(ho:jw X (compareOp op) r)(ha:PE X a ta)(hb:PE X b tb)(hm:behindInMarks op b=false):PT X (.Compare a [op] [b] pos) (qe (gw r ta tb)):=by
 intro pins s U H Q I h;refine wpAny_isTrue_Compare1 (jm (ha pins s U H _ I h) fun v s1 ⟨x,H1,I1,r1,q1⟩=>jm (hb pins s1 U H1 _ I1 q1) fun u s2 ⟨y,H2,I2,r2,q2⟩=>
  jm (ho pins s2 U H2 x y v u _ I2 r1 r2 q2) fun c s3 ⟨z,H3,I3,r3,k,e,q3⟩=>?_) hm
 subst e;cases r3;exact wpAny_truthy_bool ⟨H3,I3,q3⟩
def uw(r r':R2)(ta tb tc:TE):TE:=fun U H Q=>ta U H fun x H1=>tb U H1 fun y H2=>r x y H2 fun z H3=>∃k,z=.bl k/\
 (if k=true then tc U H3 fun w' H4=>r' y w' H4 Q else Q (.bl false) H3)
theorem wF(ho:jw X (compareOp op) r)(ho':jw X (compareOp op') r')(ha:PE X a ta)(hb:PE X b tb)(hc:PE X c tc)
  (hm:lastMarks [op,op'] [b,c]=false:=by with_unfolding_all rfl):PE X (.Compare a [op,op'] [b,c] pos) (uw r r' ta tb tc):=by
 intro pins s U H Q I h;refine Compare_chain (jm (ha pins s U H _ I h) fun v s1 ⟨x,H1,I1,r1,q1⟩=>chain_link (jm (hb pins s1 U H1 _ I1 q1) fun u s2 ⟨y,H2,I2,r2,q2⟩=>
  jm (ho pins s2 U H2 x y v u _ I2 r1 r2 q2) fun d s3 ⟨z,H3,I3,r3,k,e,q3⟩=>?_)) hm
 subst e;cases r3;refine wpAny_truthy_bool ?_;cases k with
 | false=>exact ite_ff ⟨.bl false,H3,I3,rfl,q3⟩
 | true=>exact ite_tt (chain_last (jm (hc pins s3 U H3 _ I3 q3) fun w' s4 ⟨z',H4,I4,r4,q4⟩=>ho' pins s4 U H4 y z' u w' Q I4 r2 r4 q4))
theorem wG(ho:jw X (compareOp op) r)(ho':jw X (compareOp op') r')(ha:PE X a ta)(hb:PE X b tb)(hc:PE X c tc)
  (hm:lastMarks [op,op'] [b,c]=false:=by with_unfolding_all rfl):PT X (.Compare a [op,op'] [b,c] pos) (qe (uw r r' ta tb tc)):=by
 intro pins s U H Q I h;refine isTrue_chain (jm (ha pins s U H _ I h) fun v s1 ⟨x,H1,I1,r1,q1⟩=>test_link (jm (hb pins s1 U H1 _ I1 q1) fun u s2 ⟨y,H2,I2,r2,q2⟩=>
  jm (ho pins s2 U H2 x y v u _ I2 r1 r2 q2) fun d s3 ⟨z,H3,I3,r3,k,e,q3⟩=>?_)) hm
 subst e;cases r3;refine wpAny_truthy_bool ?_;cases k with
 | false=>
  obtain⟨k',e',q'⟩:=q3;cases e';exact ite_ff ⟨H3,I3,q'⟩
 | true=>
  refine ite_tt (test_last (jm (hc pins s3 U H3 _ I3 q3) fun w' s4 ⟨z',H4,I4,r4,q4⟩=>jm (ho' pins s4 U H4 y z' u w' _ I4 r2 r4 q4) fun d' s5 xx=>?_));obtain⟨z2,H5,I5,r5,k2,e2,q5⟩:=xx;subst e2;cases r5;exact wpAny_truthy_bool ⟨H5,I5,q5⟩
def wH(K:uXa)(x:V)(H:Hp)(k:Bool):Prop:=
 match x with
 | .non=>k=false
 | .bl b=>k=b
 | .int i=>k=(i != 0)
 | .str y=>y.length<=sizeLine/\k=((y.length:Int) != 0)
 | .byt y=>y.size<=sizeLine/\k=((y.size:Int) != 0)
 | .ref p=>(∃xs,jr K H p xs/\k=!xs.isEmpty) \/ (∃xs,J8 K H p xs/\k=!xs.isEmpty) \/∃kvs ep,H p=some (.dK kvs ep)/\k=!kvs.isEmpty
 | _=>False
theorem Gy(r:KV kvs vs):(!vs.isEmpty)=!kvs.isEmpty:=by
 cases r <;> rfl
theorem vt(r:jd xs its):(!its.toArray.isEmpty)=!xs.isEmpty:=by
 cases r <;> simp
theorem Yk:(sizeLine:Nat) < 2 ^ 63:=by rw[sizeLine_eq];decide
theorem aq:eZ X (fun x H Q=>∃k,wH X.K x H k/\Q k H):=by
 intro pins s U H x v Q I rx h;obtain⟨k,e,q⟩:=h;have hl:=Yk;have hs:sizeLine=16777216:=sizeLine_eq;cases x with
 | non=>
  cases rx;have e':k=false:=e;subst e';exact truthy_none ⟨H,I,q⟩
 | bl b=>
  cases rx;have e':k=b:=e;subst e';exact wpAny_truthy_bool ⟨H,I,q⟩
 | int i=>
  obtain⟨t,rfl⟩:=rx;have e':k=(i != 0):=e;subst e';exact PySem.P.truthy_int ⟨H,I,q⟩
 | str y=>
  obtain⟨t,rfl⟩:=rx;obtain⟨hy,e'⟩:y.length<=sizeLine/\k=((y.length:Int) != 0):=e;subst e';exact PySem.P.truthy_str (by lia) ⟨H,I.tok _,q⟩
 | byt y=>
  obtain⟨t,rfl⟩:=rx;obtain⟨hy,e'⟩:y.size<=sizeLine/\k=((y.size:Int) != 0):=e;subst e';exact PySem.W.truthy_bytes (by lia) ⟨H,I.tok _,q⟩
 | ref p=>
  cases rx;have e':(∃xs,jr X.K H p xs/\k=!xs.isEmpty) \/ (∃xs,J8 X.K H p xs/\k=!xs.isEmpty) \/∃kvs ep,H p=some (.dK kvs ep)/\k=!kvs.isEmpty:=e;rcases e' with⟨xs,hx,e'⟩ | ⟨xs,hx,e'⟩ | ⟨kvs,ep,hx,e'⟩
  ·subst e';obtain⟨its,r,pl,hz⟩:=I.list hx;have hlen:=r.length;exact wpAny_truthy_list pl.isList (by simp only[List.size_toArray];lia) ⟨H,I.tok _,by rw[vt r];exact q⟩
  ·subst e';obtain⟨its,r,pl,hz⟩:=I.tuple hx;have hlen:=r.length;exact truthy_tuple pl (by simp only[List.size_toArray];lia) ⟨H,I.tok _,by rw[vt r];exact q⟩
  ·subst e';obtain⟨hz,hS,vs,r,o,es,m⟩:=(show jC X.prog X.w H s.heap p (.dK kvs ep) from I.hok p _ hx)
   have m:s.heap.DictOf (Jj X.prog X.w) p vs:=⟨o,es,ep,m⟩
   have hlen:kvs.length=vs.length:=Paired.length r;exact wpAny_truthy_dict hS m (by lia) ⟨H,I.tok _,by rw[Gy r];exact q⟩
 | _=>exact(show False from e).elim
theorem wI(ha:PE X a ta)(he:∀whole,isTrue a X.env whole=(do let v<-whole;standAt a.pos;holding [v] (truthy v))):
  PT X a (fun U H Q=>ta U H fun x H'=>∃k,wH X.K x H' k/\Q k H'):=by
 intro pins s U H Q I h;exact isTrue_plain (jm (ha pins s U H _ I h) fun v s1 ⟨x,H1,I1,r1,q1⟩=>aq pins s1 U H1 x v Q I1 r1 q1) (he _)
theorem Gz:jw X (binaryOp .Add) (fun x y H Q=>∃i j,x=.str i/\y=.str j/\i.length+j.length<=sizeLine/\Q (.str (i++j)) H):=by
 intro pins s U H x y v u Q I rx ry h;obtain⟨i,j,rfl,rfl,hz,q⟩:=h;obtain⟨t,rfl⟩:=rx;obtain⟨t',rfl⟩:=ry;exact add_str (fun t' tk=>⟨.str (i++j),H,I.tok _,⟨_,rfl⟩,q⟩) hz
theorem ua(r:jd [x] us):∃u,us=[u]/\je x u:=by
 cases r with
 | cons r1 r2=>cases r2;exact⟨_,rfl,r1⟩
theorem cz(r:jd [x,y] us):∃u w',us=[u,w']/\je x u/\je y w':=by
 cases r with
 | cons r1 r2=>
  cases r2 with
  | cons r3 r4=>cases r4;exact⟨_,_,rfl,r1,r3⟩
theorem K9(hc:X.calm=true):JG X (.builtin "max") (fun xs H Q=>∃i j,xs=[.int i,.int j]/\Q (.int (if j > i then j else i)) H):=by
 intro pins s U H xs us Q I r h;obtain⟨i,j,rfl,q⟩:=h;obtain⟨u,w',rfl,⟨t,rfl⟩,⟨t',rfl⟩⟩:=cz r;refine max_two_ints (I.ok.hd hc) fun h' tk k=>⟨_,H,I.kept k,?_,q⟩
 by_cases hj:j > i
 ·rw[if_pos hj,if_pos hj];exact⟨_,rfl⟩
 ·rw[if_neg hj,if_neg hj];exact⟨_,rfl⟩
end
structure ObjM (h:Heap) (x dx C:Addr) (mA:Str->Option Value):Prop where
 obj:h.get? x=some (PySem.W.instObj C dx)
 ns:h.Ns1 dx mA
 ne:dx≠x
set_option tactic.hygienic true in
theorem Vv{h:Heap}(n:h.Ns1 dx mA):∃od,h.get? dx=some od/\∀name,PySem.W.lookIn name od=some (mA name):=by
 obtain⟨o,es,ep,ho,hd,hk,_,hm⟩:=n;refine⟨o,ho,fun name=>?_⟩;have e:=hm name;unfold nsFind findBy at e;rw[<-Array.find?_toList]at e;unfold PySem.W.lookIn;rw[hd];dsimp only;split
 ·rename_i y q;rw[q]at e;exact congrArg some e
 ·rename_i q;rw[q]at e;have a:es.toList.any (·.refKey)=false:=by
   rw[List.any_eq_false];intro y hy;obtain⟨z,t,hkey⟩:=hk y (Array.mem_toList_iff.mp hy);simp[DictEntry.refKey,hkey]
  have a':¬es.toList.any (·.refKey)=true:=by rw[a];exact vNa
  rw[if_neg a'];exact congrArg some e
theorem ObjM.look{h:Heap}{x dx C:Addr}{mA:Str->Option Value}(I:ObjM h x dx C mA):∃od,PySem.W.InstAt h x (PySem.W.instObj C dx) C (some od)/\∀name,PySem.W.lookIn name od=some (mA name):=
 let ⟨od,ho,hl⟩:=Vv I.ns
 ⟨od,⟨I.obj,rfl,rfl,ho⟩,hl⟩
section
variable {prog:Program} {w:World} {A:Around} {E:Value->Shared->Prop} {s:Shared} {K:uXa} {x dx C f:Addr} {mA:Str->Option Value} {name:Str} {v:Value}
theorem QJ{expr:Bool}{Q:Value->Shared->Prop}(X:K.In s.heap)(I:ObjM s.heap x dx C mA)(hg:PySem.W.plainGet K C name=true)(hh:PySem.W.hasDictIn K C=true)
  (ha:PySem.W.findIn K (.ref C) name=some none) (hv:mA name=some v) (hv':PySem.W.handedIn v=true) (h:Q v { s with toks:=s.toks+1 }):
  wpAny (model prog w) A (getAttr (.ref x) name expr) Q E s:=by
 obtain⟨od,J,hl⟩:=I.look;exact PySem.W.get_value X J (PySem.W.plainGet_of hg).1 (PySem.W.findObj_own hh ha rfl (by rw[hl,hv])) hv' h
theorem wJ{pl:Sem Bool}{Q:Value×List Value->Shared->Prop}(X:K.In s.heap)(I:ObjM s.heap x dx C mA)(hg:PySem.W.plainGet K C name=true)
  (hf:PySem.W.findIn K (.ref C) name=some (some (.ref f))) (ht:PySem.W.isFn K (.ref f)=true) (hv:mA name=none) (h:Q (.ref f,[.ref x]) s):
  wpAny (model prog w) A (getMethod (.ref x) name pl) Q E s:=by
 obtain⟨od,J,hl⟩:=I.look;exact PySem.W.method_fn X J (PySem.W.plainGet_of hg).1 (PySem.W.plainGet_of hg).2 hf (beq_iff_eq.mp ht) (by show(PySem.W.lookIn name od).map (·.isSome)=some false;rw[hl,hv];rfl) h
theorem QK{ns:List Str}{Q:Unit->Shared->Prop}(X:K.In s.heap)(I:ObjM s.heap x dx C mA)
  (hs:PySem.W.findIn K (.ref C) "__setattr__" = some (some (.builtin "object.__setattr__"))) (hp:PySem.W.plainOver K C=true) (ht:PySem.W.takerIn K C name=some none) (hh:PySem.W.hasDictIn K C=true)
  (hw:PySem.Within mA ns) (hsz:ns.length<=sizeLine)
  (h:∀h',ObjM h' x dx C (fun y=>if y=name then some v else mA y)->Heap.SameBut dx s.heap h'->Q () { s with heap:=h',toks:=s.toks+2 }):
  wpAny (model prog w) A (setAttr (.ref x) name v) Q E s:=by
 obtain⟨od,J,hl⟩:=I.look;refine PySem.W.set_plain X J hs (PySem.W.osa_open (s:={ s with toks:=s.toks+1 }) (r:=none) X J hp ht fun b=>?_);obtain⟨cd,hc,hd'⟩:=PySem.W.any_some hh;have hx:s.heap.get? x=some ⟨.ref C,some dx,.plain,#[]⟩:=I.obj;refine wAa (wBa (wAa (wAa (wpAny_loadPart hx (wAa (PySem.W.Looks.here (s:={ s with toks:=s.toks+1 }) (PySem.W.looks_clsIn X hc) ?_))))));rw[hd'];refine wBa (a:=some dx) (wAa (wBa (wAa ?_)));refine wpAny_nsSet1 (s:={ s with toks:=s.toks+1 }) I.ns fun h' hn2 hs2=>?_;obtain⟨oD,esD,epD,hoD,hdD,hcD⟩:=hn2.count (PySem.Within.cons name v hw);refine wAa (wpAny_lookBehind hoD (by rw[hdD];exact pastItsLine_dict (wSa hcD (by rw[vXa];lia))) ?_);exact wBa (h _ ⟨(hs2.2 _ (Ne.symm I.ne)).trans I.obj,hn2,I.ne⟩ hs2)
theorem wK{R:Result->Shared->Prop}{vs:List Value}{kw:List (Str×Value)}(X:K.In s.heap)(hm:PySem.W.makesIn K C=true)
  (hi:PySem.W.findIn K (.ref C) "__init__" = some (some (.ref f))) (hf:PySem.W.typeIn K (.ref f)=some (.type "function"))
  (h:codeAny (model prog w) (A.under (.builtin "type.__call__" ⟨.ref C::vs,kw⟩)) (.call (.ref f) ⟨.ref (s.heap.objs.size+1)::vs,kw⟩) (PySem.W.InitBack (s.heap.objs.size+1) R)
   { s with heap:=(s.heap.push PySem.W.emptyDict).push (PySem.W.instObj C s.heap.objs.size) }):
  codeAny (model prog w) A (.call (.ref C) ⟨vs,kw⟩) R s:=by
 obtain⟨hh,g,d,t,os⟩:=s;exact PySem.W.make_core (PySem.W.makes_of X hm) (PySem.W.looks_findIn X hi) (fun self=>PySem.W.bind_fn X self hf) (.inl rfl) h
end
noncomputable def jX(f:Str)(v:V):List (Str×V)->List (Str×V)
 | []=>[(f,v)]
 | (g,x)::r=>if g=f then(g,v)::r else(g,x)::jX f v r
theorem ZD(f g:Str)(v:V):∀fs:List (Str×V),(jX f v fs).lookup g=if g=f then some v else fs.lookup g
 | []=>by
  show List.lookup g [(f,v)]=_;by_cases h:g=f
  ·have hb:(g==f)=true:=beq_iff_eq.mpr h;simp only[List.lookup,hb,if_pos h]
  ·have hb:(g==f)=false:=beq_eq_false_iff_ne.mpr h;simp only[List.lookup,hb,if_neg h]
 | (k,x)::r=>by
  have ih:=ZD f g v r;rw[show jX f v ((k,x)::r)=(if k=f then(k,v)::r else(k,x)::jX f v r) from rfl];by_cases hk:k=f
  ·rw[if_pos hk];by_cases h:g=k
   ·have hb:(g==k)=true:=beq_iff_eq.mpr h;simp only[List.lookup,hb,if_pos (h.trans hk)]
   ·have hb:(g==k)=false:=beq_eq_false_iff_ne.mpr h;simp only[List.lookup,hb,if_neg (fun e:g=f=>h (e.trans hk.symm))]
  ·rw[if_neg hk];by_cases h:g=k
   ·have hb:(g==k)=true:=beq_iff_eq.mpr h;simp only[List.lookup,hb,if_neg (fun e:g=f=>hk (h.symm.trans e))]
   ·have hb:(g==k)=false:=beq_eq_false_iff_ne.mpr h;simp only[List.lookup,hb];exact ih
theorem zX(f:Str)(v:V):∀fs:List (Str×V),f∈(jX f v fs).map (·.1)/\∀g,g∈fs.map (·.1)->g∈(jX f v fs).map (·.1)
 | []=>⟨by simp[jX],fun g h=>by simp at h⟩
 | (k,x)::r=>by
  obtain⟨i1,i2⟩:=zX f v r;rw[show jX f v ((k,x)::r)=(if k=f then(k,v)::r else(k,x)::jX f v r) from rfl];by_cases hk:k=f
  ·rw[if_pos hk];subst hk;exact⟨by simp,fun g h=>by simpa using h⟩
  ·rw[if_neg hk];refine⟨?_,fun g h=>?_⟩
   ·rw[vWa];exact wMa _ i1
   ·rw[vWa]at h⊢;rcases uTa h with e | e
    ·exact List.mem_cons.mpr (.inl e)
    ·exact wMa _ (i2 g e)
theorem ZE(f:Str)(v:V):∀fs:List (Str×V),(jX f v fs).length<=fs.length+1
 | []=>by simp[jX]
 | (k,x)::r=>by
  have ih:=ZE f v r;rw[show jX f v ((k,x)::r)=(if k=f then(k,v)::r else(k,x)::jX f v r) from rfl];by_cases hk:k=f
  ·rw[if_pos hk,vXa,vXa];lia
  ·rw[if_neg hk,vXa,vXa];lia
theorem YO.some_of(r:YO (some v) o):∃u,o=some u/\je v u:=by
 cases o with
 | none=>exact(show False from r).elim
 | some u=>exact⟨u,rfl,r⟩
theorem YO.none_of(r:YO none o):o=none:=by
 cases o with
 | none=>rfl
 | some u=>exact(show False from r).elim
theorem Vw(r:je v u):PySem.W.handedIn u=true:=by
 cases v with
 | non=>cases (show u=Value.none from r);rfl
 | bl b=>cases (show u=Value.bool b from r);rfl
 | int i=>obtain⟨t,e⟩:=(show∃t,u=Value.int i t from r);cases e;rfl
 | str x=>obtain⟨t,e⟩:=(show∃t,u=Value.str x t from r);cases e;rfl
 | byt b=>obtain⟨t,e⟩:=(show∃t,u=Value.bytes b t from r);cases e;rfl
 | flt b=>obtain⟨t,e⟩:=(show∃t,u=Value.float b t from r);cases e;rfl
 | ref a=>cases (show u=Value.ref a from r);rfl
 | ty n=>cases (show u=Value.type n from r);rfl
section
theorem V1(hok:J2 P w H h)(e:H a=some (.ins C dx fs)):∃mA,ObjM h a dx C mA/\(∀f,YO (fs.lookup f) (mA f))/\PySem.Within mA (fs.map (·.1))/\fs.length<=1000/\H dx=some (.own a):=by
 obtain⟨d,z,ne,ob,mA,n,r,q⟩:=(show jC P w H h a (.ins C dx fs) from hok a _ e)
 exact⟨mA,⟨ob,n,ne⟩,r,q,z,d⟩
end
structure Cls (K:uXa) (C:Addr):Prop where
 pg:PySem.W.plainGet K C Str.empty=true
 hd:PySem.W.hasDictIn K C=true
 po:PySem.W.plainOver K C=true
 sa:PySem.W.findIn K (.ref C) "__setattr__" = some (some (.builtin "object.__setattr__"))
theorem Cls.get{K:uXa}{C:Addr}(c:Cls K C)(f:Str):PySem.W.plainGet K C f=true:=c.pg
def Jb(K:uXa)(C:Addr)(f:Str):Prop:=PySem.W.findIn K (.ref C) f=some none
theorem Jb.taker{K:uXa}{C:Addr}{f:Str}(n:Jb K C f):PySem.W.takerIn K C f=some none:=by
 unfold PySem.W.takerIn;rw[show PySem.W.findIn K (.ref C) f=some none from n];rfl
structure Con (K:uXa) (C:Addr) (f:Str) (v:V) (u:Value):Prop where
 at_:PySem.W.findIn K (.ref C) f=some (some u)
 rel:je v u
 get:PySem.W.specialIn K u "__get__" = some none
 cp:PySem.W.copiedNames.contains f=false
structure Meth (K:uXa) (C:Addr) (m:Str) (f:Addr):Prop where
 at_:PySem.W.findIn K (.ref C) m=some (some (.ref f))
 fn:PySem.W.isFn K (.ref f)=true
 kp:PySem.W.keepIn K (.ref f)=true
section
theorem GA(I:Inv X pins U H s)(e:H a=some (.ins C dx fs))(c:Cls X.K C)(n:Jb X.K C f)(l:fs.lookup f=some v)
  (h:∀u s',Inv X pins U H s'->je v u->Q u s'):wpAny (model X.prog X.w) A (getAttr (.ref a) f b) Q E s:=by
 obtain⟨mA,O,r,_,_,_⟩:=V1 I.hok e;obtain⟨u,hu,ru⟩:=YO.some_of (v:=v) (o:=mA f) (by rw[<-l];exact r f);exact QJ I.kIn O (c.get f) c.hd n hu (Vw ru) (h u _ (I.tok _) ru)
theorem vv(I:Inv X pins U H s)(e:H a=some (.ins C dx fs))(c:Cls X.K C)(k:Meth X.K C m g)(l:fs.lookup m=none)
  (h:Q (.ref g,[.ref a]) s):wpAny (model X.prog X.w) A (getMethod (.ref a) m pl) Q E s:=by
 obtain⟨mA,O,r,_,_,_⟩:=V1 I.hok e;have hn:mA m=none:=YO.none_of (by rw[<-l];exact r m);exact wJ I.kIn O (c.get m) k.at_ k.fn hn h
theorem GB(I:Inv X pins U H s)(e:H a=some (.ins C dx fs))(c:Cls X.K C)(n:Jb X.K C f)(hl:fs.length < 1000)(ry:je y u)
  (h:∀s',Inv X pins U (upd H a (.ins C dx (jX f y fs))) s'->Q () s'):wpAny (model X.prog X.w) A (setAttr (.ref a) f u) Q E s:=by
 obtain⟨mA,O,r,wi,_,ho⟩:=V1 I.hok e;have hz:(fs.map (·.1)).length<=sizeLine:=by rw[vYa,sizeLine_eq];lia
 refine QK I.kIn O c.sa c.po n.taker c.hd wi hz fun h' O' sb=>h _ ?_;have hd:∃o,h'.get? dx=some o:=let ⟨o,_,_,e',_⟩:=O'.ns;⟨o,e'⟩
 refine I.write (x:=a) (e:=dx) (by rw[e];exact True.intro) (.inr ho) (fun b q hb z=>(sb.2 b hb).trans z) hd ?_;refine⟨by rw[j7 O.ne];exact ho,?_,O.ne,O'.obj,_,O'.ns,fun g=>?_,fun g hg=>?_⟩
 ·have:=ZE f y fs;lia
 ·show YO ((jX f y fs).lookup g) (if g=f then some u else mA g);rw[ZD];by_cases q:g=f
  ·rw[if_pos q,if_pos q];exact ry
  ·rw[if_neg q,if_neg q];exact r g
 ·by_cases q:g=f
  ·rw[q];exact(zX f y fs).1
  ·refine(zX f y fs).2 g (wi g fun z=>hg ?_);show(if g=f then some u else mA g)=none;rw[if_neg q];exact z
theorem Inv.made(I:Inv X pins U H s):Inv X pins U (upd (upd H s.heap.objs.size (.own (s.heap.objs.size+1))) (s.heap.objs.size+1) (.ins C s.heap.objs.size []))
  { s with heap:=(s.heap.push PySem.W.emptyDict).push (PySem.W.instObj C s.heap.objs.size) }:=by
 have e1:(s.heap.push PySem.W.emptyDict).get? s.heap.objs.size=some PySem.W.emptyDict:=wJa s.heap rfl;have e2:((s.heap.push PySem.W.emptyDict).push (PySem.W.instObj C s.heap.objs.size)).get? (s.heap.objs.size+1)=some (PySem.W.instObj C s.heap.objs.size):=by
  have:=wJa (s.heap.push PySem.W.emptyDict) (o:=PySem.W.instObj C s.heap.objs.size) rfl;rwa [uPa]at this
 have e3:(s.heap.push PySem.W.emptyDict).Ns s.heap.objs.size (fun _=>none):=⟨PySem.W.emptyDict,#[],_,e1,rfl,(fun e he=>vDa he (by simp)),fun _=>rfl⟩
 have I1:=I.laid (a:=s.heap.objs.size) (o:=.own (s.heap.objs.size+1)) (h':=s.heap.push PySem.W.emptyDict) (t':=s.toks) (fun b u q=>wIa _ q) (wPa _) ⟨_,e1⟩;refine I1.laid (a:=s.heap.objs.size+1) (o:=.ins C s.heap.objs.size []) (t':=s.toks) (fun b u q=>wIa _ q) (Nat.le_of_eq (Heap.size_push _ _)) ?_;have ne:s.heap.objs.size≠s.heap.objs.size+1:=wTa (Nat.lt_succ_self _);refine⟨by rw[j7 ne,jc],Nat.zero_le _,ne,e2,fun _=>none,(Heap.Ns1.of_empty e3).at fun o q=>wIa _ q,fun _=>True.intro,fun y hy=>vDa rfl hy⟩
theorem JC(hb:attributeBase e f env (eval e env)=eval e env)
  (h:wpAny (model prog w) A (eval e env) (fun o s₁=>wpAny (model prog w) A (getAttr o f true) Q E s₁) E s):wpAny (model prog w) A (eval (.Attribute e f pos) env) Q E s:=
 Attribute_any_ h (by rw[arm_eval_Attribute,hb])
end
def ar(K:uXa)(ta:TE)(f:Str):TE:=fun U H Q=>ta U H fun x H1=>∃a C dx fs v,x=.ref a/\H1 a=some (.ins C dx fs)/\Cls K C/\Jb K C f/\fs.lookup f=some v/\Q v H1
def GC(K:uXa)(ta tv:TE)(f:Str):TS:=fun D U H=>tv U H fun y H1=>ta U H1 fun x H2=>∃a C dx fs,x=.ref a/\H2 a=some (.ins C dx fs)/\Cls K C/\Jb K C f/\fs.length < 1000/\
 D.nx U (upd H2 a (.ins C dx (jX f y fs)))
section
theorem uz(he:PE X e ta)(hb:attributeBase e f X.env (eval e X.env)=eval e X.env):PE X (.Attribute e f pos) (ar X.K ta f):=by
 intro pins s U H Q I h;refine JC hb (jm (he pins s U H _ I h) fun u s1 xx=>?_);obtain⟨x,H1,I1,rx,a,C,dx,fs,v,ex,ea,c,n,l,q⟩:=xx;subst ex;obtain rfl:u=Value.ref a:=rx;exact GA I1 ea c n l fun u' s2 I2 ru=>⟨v,H1,I2,ru,q⟩
theorem uA(ha:PE X o ta)(hv:PE X value tv)(hs:swapsWith value (some (.Attribute o f pos')) pos.line X.env=pure false):PS X (.Assign [.Attribute o f pos'] value pos) (GC X.K ta tv f):=by
 intro pins s U H D I h;refine plainObj_wpAny_Assign_Attribute (jm (hv pins s U H _ I h) fun u s1 ⟨y,H1,I1,ry,q⟩=>jm (ha pins s1 U H1 _ I1 q) fun ov s2 xx=>?_) hs;obtain⟨x,H2,I2,rx,a,C,dx,fs,ex,ea,c,n,l,q2⟩:=xx;subst ex;obtain rfl:ov=Value.ref a:=rx;exact GB I2 ea c n l ry fun s3 I3=>⟨U,_,I3,q2⟩
end
section
inductive TyOf (K:uXa) (H:Hp):V->Value->Prop where
 | non:TyOf K H .non (.type "NoneType")
 | bl (x:Bool):TyOf K H (.bl x) (.type "bool")
 | int (i:Int):TyOf K H (.int i) (.type "int")
 | str (x:Str):TyOf K H (.str x) (.type "str")
 | flt (x:UInt64):TyOf K H (.flt x) (.type "float")
 | lst {a:Addr} {xs:List V} (e:H a=some (.lst xs)):TyOf K H (.ref a) (.type "list")
 | frz {a:Addr} {o:Obj} {xs:List V} (e:H a=some (.frz o (.lst xs))):TyOf K H (.ref a) (.type "list")
 | tup {a:Addr} {xs:List V} (e:H a=some (.tup xs)):TyOf K H (.ref a) (.type "tuple")
 | dK {a:Addr} {kvs:List (JL×V)} {ep:Nat} (e:H a=some (.dK kvs ep)):TyOf K H (.ref a) (.type "dict")
 | ins {a C dx:Addr} {fs:List (Str×V)} (e:H a=some (.ins C dx fs)) (cl:Cls K C) (ha:PySem.W.findIn K (.ref C) "__class__" = some (some (.builtin "object.__class__")))
   (hn:PySem.W.specialIn K (.builtin "object.__class__") "__get__" = some (some (.builtin "getset_descriptor.__get__"))) (htk:PySem.W.takesIn K (.builtin "object.__class__")=some true)
   (hm:PySem.W.mroIn K C (.type "object")=some true):TyOf K H (.ref a) (.ref C)
end
structure Room (k:Nat) (A:Around):Prop where
 hd:A.handled=none
 dp:A.depth+3 * k+5 < recursionLimit
 un:A.units+16 * k+200 < cLine
theorem Room.mono(r:Room k A)(h:j<=k):Room j A:=⟨r.hd,by have:=r.dp;lia,by have:=r.un;lia⟩
theorem Room.deeper{k:Nat}{A:Around}(r:Room (k+1) A)(env:Env):Room k (A.deeper env):=
 ⟨r.hd,by have:=r.dp;show A.depth+1+3 * k+5 < _;lia,by have:=r.un;show A.units+3+16 * k+200 < _;lia⟩
theorem GD{A:Around}:(A.under (.builtin "type.__call__" ⟨.ref C::us,kw⟩)).depth=A.depth+1:=by
 first | rfl | simp[Around.under,Code.weight,Code.isCreation,Code.isGuard,Code.isCaller,Code.frames,Code.isFrame,guardIds]
theorem GE{A:Around}:(A.under (.builtin "type.__call__" ⟨.ref C::us,kw⟩)).units=A.units+1:=by
 first | rfl | simp[Around.under,Code.cUnits,Code.frames,Code.isFrame]
theorem Room.make(r:Room (k+1) A)(C:Addr)(us:List Value)(kw:List (Str×Value)):Room k (A.under (.builtin "type.__call__" ⟨.ref C::us,kw⟩)):=
 ⟨r.hd,by have:=r.dp;rw[GD];lia,by have:=r.un;rw[GE];lia⟩
theorem Room.depth{A:Around}(r:Room k A):A.depth < recursionLimit:=by have:=r.dp;lia
theorem Room.units(r:Room k A):A.units+64 < cLine:=by have:=r.un;lia
def zr:TA:=fun _ H Q=>Q [] H
def Y8(ta:TE)(tr:TA):TA:=fun U H Q=>ta U H fun x H1=>tr U H1 fun xs H2=>Q (x::xs) H2
section
variable {X:Cx} {e:Expr} {es:List Expr} {te:TE} {t:TA} {pos:Pos}
theorem Jc:PA X [] zr:=fun _ _ _ _ H Q I h=>Calls.spliced_nil ⟨[],H,I,.nil,h⟩
theorem jB(ha:PE X e te)(hr:PA X es t)(hs:starEach (e::es) X.env=(false,eval e X.env)::starEach es X.env:=by rfl):PA X (e::es) (Y8 te t):=by
 intro pos pins s U H Q I h;rw[hs];show wpAny _ _ (spliced ((false,eval e X.env)::backTo pos (starEach es X.env))) _ _ s;refine Calls.spliced_cons (jm (ha pins s U H _ I h) fun u s1 xx=>?_);obtain⟨x,H1,I1,r1,q1⟩:=xx;exact jm (hr pos pins s1 U H1 _ I1 q1) fun us s2 ⟨xs,H2,I2,r2,q2⟩=>⟨x::xs,H2,I2,.cons r1 r2,q2⟩
def e_(t:TA):TE:=fun U H Q=>t U H fun xs H1=>xs.length<=sizeLine/\∀p,H1 p=none->Q (.ref p) (upd H1 p (.tup xs))
def E1(t:TA):TE:=fun U H Q=>t U H fun xs H1=>xs.length<=sizeLine/\∀p,H1 p=none->Q (.ref p) (upd H1 p (.lst xs))
theorem au{x1}(h:PA X es t):PE X (.Tuple es x1 pos) (e_ t):=by
 intro pins s U H Q I hq;refine wpAny_Tuple_spliced (jm (h pos pins s U H _ I hq) fun us s1 ⟨xs,H1,I1,r,z,q⟩=>⟨by rw[<-r.length];exact z,?_⟩);have hf:H1 s1.heap.objs.size=none:=I1.hok.fresh (wPa _);refine⟨.ref s1.heap.objs.size,upd H1 s1.heap.objs.size (.tup xs),I1.laid (t':=s1.toks) (fun b u e=>wIa _ e) (wPa _) ?_,rfl,q _ hf⟩;exact⟨z,us,r,⟨_,wJa _ rfl,rfl,_,rfl⟩⟩
theorem av(h:PA X es t):PE X (.List es pos) (E1 t):=by
 intro pins s U H Q I hq;refine wpAny_List_spliced (jm (h pos pins s U H _ I hq) fun us s1 ⟨xs,H1,I1,r,z,q⟩=>⟨by rw[<-r.length];exact z,?_⟩);have hf:H1 s1.heap.objs.size=none:=I1.hok.fresh (wPa _);refine⟨.ref s1.heap.objs.size,upd H1 s1.heap.objs.size (.lst xs),I1.laid (t':=s1.toks) (fun b u e=>wIa _ e) (wPa _) ?_,rfl,q _ hf⟩;exact⟨z,us,0,r,wJa _ rfl⟩
end
noncomputable abbrev Sp:=List V->Hp->VK->XK->Prop
noncomputable abbrev ze:=List Env->Hp->Shared->XK->Value->Shared->Prop
structure Env0 (P:Program) (w:World) (K:uXa) (mg:Str->Option Value) (base:Heap) (A:Around) (outer:List Env) (s:Shared) (H:Hp):Prop where
 frames:A.frames=some outer
 mod:Mod K mg base
 bs:∀b o,base.get? b=some o->s.heap.get? b=some o/\H b=none
 bsz:base.objs.size<=s.heap.objs.size
 funs:s.heap.FunFrames base outer
 frf:∀b∈jL outer,H b=none
 hok:J2 P w H s.heap
 bare:AllBare s.gens
def CE(outer:List Env)(P:Program)(w:World)(H:Hp)(s:Shared)(Q:VK)(u:Value)(s':Shared):Prop:=
 ∃v H',s'.os=s.os/\AllBare s'.gens/\Un (jL outer) [] H H' s.heap s'.heap/\J2 P w H' s'.heap/\je v u/\Q v H'
def CR(CX:ze)(outer:List Env)(P:Program)(w:World)(H:Hp)(s:Shared)(Q:VK)(E:XK)(r:Result)(s':Shared):Prop:=
 match r with
 | .ok (.ret u)=>CE outer P w H s Q u s'
 | .ok _=>False
 | .error e=>CX outer H s E e s'
structure FnOk (P:Program) (w:World) (K:uXa) (mg:Str->Option Value) (base:Heap) (CX:ze) (k:Nat) (f:Addr) (fd:FuncData) (ps:List Str) (sp:Sp):Prop where
 len:∀vs H Q E,sp vs H Q E->vs.length=ps.length
 run:∀(A:Around) (outer:List Env) (s:Shared) (H:Hp) (args:Args) (us:List Value) (vs:List V) (Q:VK) (E:XK),Room k A->Env0 P w K mg base A outer s H->BindsTo s fd args (ps.zip us)->jd vs us->sp vs H Q E->
  codeAny (model P w) A (.call (.ref f) args) (CR CX outer P w H s Q E) s
theorem FnOk.imp{P:Program}{w:World}{K:uXa}{mg:Str->Option Value}{base:Heap}{CX:ze}{k:Nat}{f:Addr}{fd:FuncData}{ps:List Str}{sp sp':Sp}(F:FnOk P w K mg base CX k f fd ps sp)
  (h:∀vs H Q E,sp' vs H Q E->sp vs H Q E):FnOk P w K mg base CX k f fd ps sp':=
 ⟨fun vs H Q E q=>F.len vs H Q E (h _ _ _ _ q),fun A outer s H args us vs Q E hr he hb hv hs=>F.run A outer s H args us vs Q E hr he hb hv (h _ _ _ _ hs)⟩
theorem Env0.make{P:Program}{w:World}{K:uXa}{mg:Str->Option Value}{base:Heap}{A:Around}{outer:List Env}{s:Shared}{H:Hp}(e:Env0 P w K mg base A outer s H)(C:Addr)(us:List Value)(kw:List (Str×Value)):
  Env0 P w K mg base (A.under (.builtin "type.__call__" ⟨.ref C::us,kw⟩)) outer s H:=⟨by first | exact e.frames | (simpa[Around.under,Code.envs,Code.isFrame,pushEnvs]using e.frames),e.mod,e.bs,e.bsz,e.funs,e.frf,e.hok,e.bare⟩
section
variable {X:Cx} {pins:List (Addr×Obj)} {U:St} {H:Hp} {s s':Shared}
theorem Inv.env0(I:Inv X pins U H s):Env0 X.prog X.w X.K X.mg X.base X.A X.stack s H:=
 ⟨I.ok.frames,I.ok.mod,I.bs,wSa I.ok.bsz I.sz,I.stack,I.stkFree,I.hok,I.bare⟩
theorem Inv.after(I:Inv X pins U H s)(h:CE X.stack X.prog X.w H s Q u s'):EP X pins U Q u s':=by
 obtain⟨v,H',os,bare,un,hok,r,q⟩:=h;obtain⟨hh,g,d,t,os'⟩:=s';obtain rfl:os'=s.os:=os;exact⟨v,H',I.call (h':=hh) (g':=g) (d':=d) (t':=t) (ch:=[]) un hok bare (fun b z=>vDa z (by simp)),r,q⟩
end
def qf(sp:Sp)(dvs:List V)(E:XK)(t:TA):TE:=fun U H Q=>t U H fun vs H1=>sp (vs++dvs) H1 Q E
def Zm(C:Addr)(m:Str)(sp:Sp)(dvs:List V)(E:XK)(ta:TE)(t:TA):TE:=fun U H Q=>ta U H fun x H1=>∃a dx fs,x=.ref a/\H1 a=some (.ins C dx fs)/\fs.lookup m=none/\
 t U H1 fun vs H2=>sp (x::(vs++dvs)) H2 Q E
def Zn(C:Addr)(sp:Sp)(dvs:List V)(E:XK)(t:TA):TE:=fun U H Q=>t U H fun vs H1=>∀x dx,H1 x=none->H1 dx=none->dx≠x->
 sp (.ref x::(vs++dvs)) (upd (upd H1 dx (.own x)) x (.ins C dx [])) (fun v H2=>v=.non/\Q (.ref x) H2) E
def jY(K:uXa)(fd:FuncData)(ps:List Str)(ds:List Value):Prop:=
 ∀(s:Shared) (us:List Value),K.In s.heap->(us++ds).length=ps.length->BindsTo s fd ⟨us,[]⟩ (ps.zip (us++ds))
theorem jY.all{K:uXa}{fd:FuncData}{ps:List Str}(h:∀us:List Value,us.length=ps.length->bindArgs fd ⟨us,[]⟩=pure (ps.zip us)):jY K fd ps []:=fun s us _ hl=>by
 rw[uFa]at hl⊢;exact .of_eq (h us hl)
def JM(CX:ze)(X:Cx)(E:XK):Prop:=∀(pins:List (Addr×Obj)) (U:St) (H:Hp) (s:Shared) (e:Value) (s':Shared),Inv X pins U H s->CX X.stack H s E e s'->X.xe e s'
section
variable {X:Cx} {CX:ze} {k:Nat} {f C:Addr} {fd:FuncData} {ps:List Str} {sp:Sp} {dvs:List V} {ds:List Value} {E:XK} {x m:Str} {p pos apos:Pos} {e o:Expr} {es:List Expr} {ta:TE} {t:TA}
theorem uB(F:FnOk X.prog X.w X.K X.mg X.base CX k f fd ps sp)(hr:Room k X.A)(hb:jY X.K fd ps ds)(hd:jd dvs ds)(hx:JM CX X E)
  (I:Inv X pins U H s) (r:jd vs us) (h:sp (vs++dvs) H Q E):wpAny (model X.prog X.w) X.A (call (.ref f) us) (EP X pins U Q) X.xe s:=by
 have r2:jd (vs++dvs) (us++ds):=r.append hd;have hl:(us++ds).length=ps.length:=by rw[<-r2.length];exact F.len _ _ _ _ h
 refine wHa (codeAny_mono (F.run X.A X.stack s H ⟨us,[]⟩ (us++ds) (vs++dvs) Q E hr I.env0 (hb s us I.kIn hl) r2 h) fun r s' hq=>?_);cases r with
 | error e=>exact hx pins U H s e s' I hq
 | ok fl=>
  cases fl with
  | ret u=>exact I.after hq
  | next=>exact False.elim hq
  | brk=>exact False.elim hq
  | cont=>exact False.elim hq
theorem gA(F:FnOk X.prog X.w X.K X.mg X.base CX k f fd ps sp)(hr:Room k X.A)(hg:Gl X x)(hm:X.mg x=some (.ref f))(hk:PySem.W.keepIn X.K (.ref f)=true)(hb:jY X.K fd ps ds)(hd:jd dvs ds)(hx:JM CX X E)
  (ha:PA X (e::es) t) (hdb:(x==("__debug__" : Str))=false:=by decide) (he:starEach (e::es) X.env=(false,eval e X.env)::starEach es X.env:=by rfl) (hpl:(backTo pos (starEach es X.env)).any (·.1)=false:=by rfl):
  PE X (.Call (.Name x p) (e::es) [] pos) (qf sp dvs E t):=by
 intro pins s U H Q I h;refine wpAny_Call_Name_kw (JB I hg hm ?_ hdb);refine PySem.W.callWith_K (h₀:=X.base) I.ok.mod.kin hk (jm (ha pos pins s U H _ I h) fun us s1 ⟨vs,H1,I1,r,q⟩=>⟨I1.kIn,?_⟩) he hpl;exact uB F hr hb hd hx I1 r q
theorem V2(he:PE X o ta)(c:Cls X.K C)(hm:Meth X.K C m f)(F:FnOk X.prog X.w X.K X.mg X.base CX k f fd ps sp)(hr:Room k X.A)(hb:jY X.K fd ps ds)(hd:jd dvs ds)(hx:JM CX X E)(ha:PA X (e::es) t)
  (hst:starEach (e::es) X.env=(false,eval e X.env)::starEach es X.env:=by rfl) (hpl:(backTo pos (starEach es X.env)).any (·.1)=false:=by rfl)
  (ht:eval (.Call (.Attribute o m apos) (e::es) [] pos) X.env=(do
   let ov<-eval o X.env
   standAt apos.atName
   let (f,first)<-holding [ov] (getMethod ov m pl)
   callWith pos f first (backTo pos (starEach (e::es) X.env)) (backToKw pos (keywordEach [] X.env))):=by rfl):
  PE X (.Call (.Attribute o m apos) (e::es) [] pos) (Zm C m sp dvs E ta t):=by
 intro pins s U H Q I h;refine PySem.W.methodCall_KW (pl:=pl) (jm (he pins s U H _ I h) fun u s1 xx=>?_) ht;obtain⟨x,H1,I1,rx,a,dx,fs,ex,ea,l,q⟩:=xx;subst ex;obtain rfl:u=Value.ref a:=rx;refine vv I1 ea c hm l ?_;refine PySem.W.callWith_K (first:=[.ref a]) (h₀:=X.base) I.ok.mod.kin hm.kp (jm (ha pos pins s1 U H1 _ I1 q) fun us s2 ⟨vs,H2,I2,r,q2⟩=>⟨I2.kIn,?_⟩) hst hpl;exact uB (us:=.ref a::us) (vs:=.ref a::vs) F hr hb hd hx I2 (.cons rfl r) q2
theorem uC(he:PE X o ta)(c:Cls X.K C)(hm:Meth X.K C m f)(F:FnOk X.prog X.w X.K X.mg X.base CX k f fd ps sp)(hr:Room k X.A)(hb:jY X.K fd ps ds)(hd:jd dvs ds)(hx:JM CX X E)
  (ht:eval (.Call (.Attribute o m apos) [] [] pos) X.env=(do
   let ov<-eval o X.env
   standAt apos.atName
   let (f,first)<-holding [ov] (getMethod ov m pl)
   callWith pos f first (backTo pos (starEach [] X.env)) (backToKw pos (keywordEach [] X.env))):=by rfl):
  PE X (.Call (.Attribute o m apos) [] [] pos) (Zm C m sp dvs E ta zr):=by
 intro pins s U H Q I h;refine PySem.W.methodCall_KW (pl:=pl) (jm (he pins s U H _ I h) fun u s1 xx=>?_) ht;obtain⟨x,H1,I1,rx,a,dx,fs,ex,ea,l,q⟩:=xx;subst ex;obtain rfl:u=Value.ref a:=rx;refine vv I1 ea c hm l ?_;exact PySem.W.callWith_K0 (first:=[.ref a]) I1.kIn hm.kp (uB (us:=[.ref a]) (vs:=[.ref a]) F hr hb hd hx I1 (.cons rfl .nil) q)
structure Mk (K:uXa) (C f:Addr):Prop where
 makes:PySem.W.makesIn K C=true
 init:PySem.W.findIn K (.ref C) "__init__" = some (some (.ref f))
 fn:PySem.W.isFn K (.ref f)=true
 kp:PySem.W.keepIn K (.ref C)=true
theorem wL(M:Mk X.K C f)(F:FnOk X.prog X.w X.K X.mg X.base CX k f fd ps sp)(hr:Room (k+1) X.A)(hb:jY X.K fd ps ds)(hd:jd dvs ds)
  (hx:JM CX X E) (I:Inv X pins U H s) (r:jd vs us)
  (h:∀x dx,H x=none->H dx=none->dx≠x->sp (.ref x::(vs++dvs)) (upd (upd H dx (.own x)) x (.ins C dx [])) (fun v H2=>v=.non/\Q (.ref x) H2) E):
  wpAny (model X.prog X.w) X.A (call (.ref C) us) (EP X pins U Q) X.xe s:=by
 have hq:=h (s.heap.objs.size+1) s.heap.objs.size (I.hok.fresh (vMa _)) (I.hok.fresh (wPa _)) (wTa (Nat.lt_succ_self _));have I2:=Inv.made (C:=C) I;have r2:jd (V.ref (s.heap.objs.size+1)::(vs++dvs)) (Value.ref (s.heap.objs.size+1)::(us++ds)):=.cons rfl (r.append hd);have hl:(Value.ref (s.heap.objs.size+1)::us++ds).length=ps.length:=by
  have e:=r2.length;rw[F.len _ _ _ _ hq]at e;exact e.symm
 refine wHa (wK (f:=f) I.kIn M.makes M.init (beq_iff_eq.mp M.fn) (codeAny_mono (F.run _ X.stack _ _ ⟨Value.ref (s.heap.objs.size+1)::us,[]⟩ (Value.ref (s.heap.objs.size+1)::(us++ds)) _ _ E (hr.make C us [])
  (I2.env0.make C us []) (hb _ (Value.ref (s.heap.objs.size+1)::us) I2.kIn hl) r2 hq) fun r s' hq'=>?_))
 cases r with
 | error e=>exact hx pins U _ _ e s' I2 hq'
 | ok fl=>
  cases fl with
  | ret u=>
   obtain⟨v,H',I3,rv,ev,q3⟩:=I2.after hq';subst ev;exact⟨rv,⟨V.ref (s.heap.objs.size+1),H',I3,rfl,q3⟩⟩
  | next=>exact False.elim hq'
  | brk=>exact False.elim hq'
  | cont=>exact False.elim hq'
theorem Zo(M:Mk X.K C f)(F:FnOk X.prog X.w X.K X.mg X.base CX k f fd ps sp)(hr:Room (k+1) X.A)(hg:Gl X x)(hm:X.mg x=some (.ref C))(hb:jY X.K fd ps ds)(hd:jd dvs ds)(hx:JM CX X E)
  (ha:PA X (e::es) t) (hdb:(x==("__debug__" : Str))=false:=by decide) (he:starEach (e::es) X.env=(false,eval e X.env)::starEach es X.env:=by rfl) (hpl:(backTo pos (starEach es X.env)).any (·.1)=false:=by rfl):
  PE X (.Call (.Name x p) (e::es) [] pos) (Zn C sp dvs E t):=by
 intro pins s U H Q I h;refine wpAny_Call_Name_kw (JB I hg hm ?_ hdb);refine PySem.W.callWith_K (h₀:=X.base) I.ok.mod.kin M.kp (jm (ha pos pins s U H _ I h) fun us s1 ⟨vs,H1,I1,r,q⟩=>⟨I1.kIn,?_⟩) he hpl;exact wL M F hr hb hd hx I1 r q
end
section
variable {X:Cx} {CX:ze} {k:Nat} {f C:Addr} {fd:FuncData} {ps ks:List Str} {sp:Sp} {E:XK} {x m:Str} {p pos apos kpos:Pos} {e o:Expr} {es:List Expr} {kws:List Keyword} {te ta:TE} {t tk:TA} {nm:Option Str}
structure KBinds (K:uXa) (fd:FuncData) (ps ks:List Str) (g:List Value->List Value->List Value) (gV:List V->List V->List V):Prop where
 to:∀(s:Shared) (us ws:List Value),K.In s.heap->(g us ws).length=ps.length->BindsTo s fd ⟨us,ks.zip ws⟩ (ps.zip (g us ws))
 rel:∀{vs:List V} {us:List Value} {zs:List V} {ws:List Value},jd vs us->jd zs ws->jd (gV vs zs) (g us ws)
variable {g:List Value->List Value->List Value} {gV:List V->List V->List V}
end
structure FnScope (N P:List Str) (sc:Scope):Prop where
 kind:sc.kind=.function
 co:sc.isCoroutine=false
 gen:sc.isGenerator=false
 nd:N.Nodup
 pre:N.take P.length=P
 par:∀x∈P,sc.names.lookup x=some .local \/ sc.names.lookup x=some .cell
 nofree:∀y∈sc.names,y.2≠.free
theorem Vx{kindOf:Str->Option NameKind}{x:Str}:∀{binds:List (Str×Value)} {m:Str->Option Value},(∀v,(x,v)∉binds)->bindL kindOf binds m x=m x
 | [],_,_=>rfl
 | (n,v)::r,m,h=>by
  unfold bindL;rw[Vx fun w hw=>h w (List.mem_cons_of_mem _ hw)];split
  ·have:x≠n:=by rintro rfl;exact h v wNa
   simp[this]
  ·rfl
theorem Vy{kindOf:Str->Option NameKind}{x:Str}:∀{binds:List (Str×Value)} {m:Str->Option Value},(∀v,(x,v)∉binds)->bindC kindOf binds m x=m x
 | [],_,_=>rfl
 | (n,v)::r,m,h=>by
  unfold bindC;rw[Vy fun w hw=>h w (List.mem_cons_of_mem _ hw)];split
  ·rfl
  ·have:x≠n:=by rintro rfl;exact h v wNa
   simp[this]
theorem Vz{kindOf:Str->Option NameKind}{x:Str}{v:Value}:∀{P:List Str} {vs:List Value} {i:Nat} {m:Str->Option Value},P.Nodup->P[i]?=some x->vs[i]?=some v->kindOf x=some .local->
  bindL kindOf (P.zip vs) m x=some v
 | [],_,_,_,_,h,_,_=>by simp at h
 | _::_,[],_,_,_,_,h,_=>by simp at h
 | p::P,w::vs,0,m,nd,h1,h2,hk=>by
  simp at h1 h2;subst h1;subst h2;show bindL kindOf ((p,w)::P.zip vs) m p=_;unfold bindL;rw[Vx fun v hv=>(List.nodup_cons.mp nd).1 (List.of_mem_zip hv).1,if_pos hk];simp
 | p::P,w::vs,i+1,m,nd,h1,h2,hk=>by
  show bindL kindOf ((p,w)::P.zip vs) m x=_;unfold bindL;exact Vz (i:=i) (List.nodup_cons.mp nd).2 (by simpa using h1) (by simpa using h2) hk
theorem VA{kindOf:Str->Option NameKind}{x:Str}{v:Value}:∀{P:List Str} {vs:List Value} {i:Nat} {m:Str->Option Value},P.Nodup->P[i]?=some x->vs[i]?=some v->kindOf x≠some .local->
  bindC kindOf (P.zip vs) m x=some v
 | [],_,_,_,_,h,_,_=>by simp at h
 | _::_,[],_,_,_,_,h,_=>by simp at h
 | p::P,w::vs,0,m,nd,h1,h2,hk=>by
  simp at h1 h2;subst h1;subst h2;show bindC kindOf ((p,w)::P.zip vs) m p=_;unfold bindC;rw[Vy fun v hv=>(List.nodup_cons.mp nd).1 (List.of_mem_zip hv).1,if_neg hk];simp
 | p::P,w::vs,i+1,m,nd,h1,h2,hk=>by
  show bindC kindOf ((p,w)::P.zip vs) m x=_;unfold bindC;exact VA (i:=i) (List.nodup_cons.mp nd).2 (by simpa using h1) (by simpa using h2) hk
noncomputable def JY(N:List Str)(vs:List V):St:=vs.map some++List.replicate (N.length - vs.length) none
def jS(CX:ze)(P:Program)(w:World)(K:uXa)(mg:Str->Option Value)(base:Heap)(N:List Str)(qual:Str)(scope:Scope)(f:Addr)(cd:Value)(A:Around)(outer:List Env)(s:Shared)(H:Hp)(E:XK):Cx where
 prog:=P
 w:=w
 K:=K
 mg:=mg
 base:=base
 A:=A.deeper (envOfC qual scope s.heap.objs.size f cd)
 N:=N
 s₀:=s
 H₀:=H
 env:=envOfC qual scope s.heap.objs.size f cd
 outer:=outer
 stack:=envOfC qual scope s.heap.objs.size f cd::outer
 ex:=[]
 calm:=true
 fn:=fun _=>true
 pn:=[]
 xe:=fun e s'=>wpAny (model P w) (A.deeper (envOfC qual scope s.heap.objs.size f cd)) (leaving (envOfC qual scope s.heap.objs.size f cd) e) (fun _ s''=>CX outer H s E e s'') (fun e' s''=>CX outer H s E e' s'') s'
theorem uD{sc:Scope}(h:sc.names.lookup x=some .cell):∃c,(cellsFrom n sc.names []).lookup x=some c:=by
 have q:=PySem.W.cellsFrom_some sc.names n [] (.inl h);exact Option.isSome_iff_exists.mp q
theorem Ka{CX:ze}{P:Program}{w:World}{K:uXa}{mg:Str->Option Value}{base:Heap}{N ps:List Str}{qual:Str}{scope:Scope}{f:Addr}{cd:Value}{A:Around}{outer:List Env}{s s1:Shared}{H:Hp}{E:XK}{us:List Value}{vs:List V}
  (S:FnScope N ps scope) (hd:A.handled=none) (e0:Env0 P w K mg base A outer s H) (hl:vs.length=ps.length) (r:jd vs us)
  (x:InCallC s s.heap.objs.size (bindL (envOfC qual scope s.heap.objs.size f cd).kindOf (ps.zip us) fun _=>none) (cellsFrom (s.heap.objs.size+1) scope.names []) (bindC (envOfC qual scope s.heap.objs.size f cd).kindOf (ps.zip us) fun _=>none) s1):
  Inv (jS CX P w K mg base N qual scope f cd A outer s H E) [] (JY N vs) H s1:=by
 have hpl:ps.length<=N.length:=by have:=congrArg List.length S.pre;rw[uOa]at this;lia
 obtain⟨h1,tk,rfl,hk⟩:=x.done;have noA:∀b:Addr,b∉(jS CX P w K mg base N qual scope f cd A outer s H E).ex:=fun b z=>vDa (show b∈([]:List Addr) from z) (by simp);refine⟨⟨e0.mod,S.kind,rfl,rfl,wPa _,fun y z c h1 h2=>?_,fun y hy=>?_,fun y c _ h=>?_,fun _=>hd,Around.frames_deeper e0.frames,.inr ⟨rfl,rfl⟩,fun b z=>vDa z (noA b),e0.bs,e0.bsz,fun b _ _=>noA b,fun b z=>vDa z (noA b),e0.funs,e0.frf⟩,
  rfl,e0.bare,Un.kept hk,⟨_,x.toInCall.ns,fun i y v h1 h2 h3=>?_⟩,fun y c h=>⟨_,x.cell y c h⟩,e0.hok.fresh (wPa _),fun y c h=>?_,fun p hp=>vDa (show p∈([]:List (Addr×Obj)) from hp) (by simp),e0.hok.kept hk,?_⟩
 ·exact name_of_addr x.apart (PySem.mem_of_lookup h1) (PySem.mem_of_lookup h2)
 ·have hy:scope.names.lookup y=some .cell \/ scope.names.lookup y=some .free:=hy;rcases hy with hy | hy
  ·exact uD hy
  ·exact vDa rfl (S.nofree _ (PySem.mem_of_lookup hy))
 ·exact wQa (x.above y c (PySem.mem_of_lookup h))
 ·have hi:i < vs.length:=by
   unfold JY at h2;by_cases hi:i < vs.length
   ·exact hi
   ·rw[List.getElem?_append_right (by simpa using hi)]at h2;rw[List.getElem?_replicate]at h2;split at h2 <;> cases h2
  have ha:vs[i]?=some v:=by
   unfold JY at h2;rw[uRa (by simpa using hi),uAa]at h2;cases e:vs[i]? with
   | none=>rw[e]at h2;cases h2
   | some a=>rw[e]at h2;cases h2;rfl
  obtain⟨u,hu,rv⟩:=r.get ha;have hp:ps[i]?=some y:=by
   rw[<-S.pre,List.getElem?_take_of_lt (by lia)];exact h1
  have ndP:ps.Nodup:=by rw[<-S.pre];exact S.nd.sublist (List.take_sublist _ _)
  refine⟨u,rv,?_⟩;rcases S.par y (wYa hp)with k | k
  ·exact .inl ⟨k,Vz ndP hp hu k⟩
  ·obtain⟨c,e⟩:=uD (n:=s.heap.objs.size+1) k;refine .inr ⟨.inl k,c,e,?_⟩;have q:=x.cell y c e;rw[VA ndP hp hu (by show scope.names.lookup y≠_;rw[k];decide)]at q;exact q
 ·exact e0.hok.fresh (wQa (x.above y c (PySem.mem_of_lookup h)))
 ·unfold JY;show _=N.length;rw[vZa,vYa,List.length_replicate]
  lia
theorem GF{CX:ze}{P:Program}{w:World}{K:uXa}{mg:Str->Option Value}{base:Heap}{k:Nat}{f:Addr}{name qual:Str}{params:Arguments}{body:List Stmt}{scope:Scope}{dV kV doc pm cdv ct oc:Value}{an od:Option Addr}
  {osl:Array (Option Value)} {N ps:List Str} {sp:Sp} (lk:K.lookup f=some ⟨oc,od,.func (PySem.W.fnOf name qual params body scope dV kV doc pm an cdv ct),osl⟩) (hcd:PySem.W.codeIn K cdv qual=true) (S:FnScope N ps scope)
  (len:∀vs H Q E,sp vs H Q E->vs.length=ps.length)
  (hbody:∀(A:Around) (outer:List Env) (s:Shared) (H:Hp) (vs:List V) (Q:VK) (E:XK),Room k (A.deeper (envOfC qual scope s.heap.objs.size f cdv))->sp vs H Q E->
   ∃t,jG (jS CX P w K mg base N qual scope f cdv A outer s H E) body t/\t { nx:=fun _ H'=>Q .non H',rt:=Q } (JY N vs) H):
  FnOk P w K mg base CX (k+1) f (PySem.W.fnOf name qual params body scope dV kV doc pm an cdv ct) ps sp:=by
 refine⟨len,fun A outer s H args us vs Q E hr e0 hb r hsp=>?_⟩;have hl:=len _ _ _ _ hsp;have KX:K.In s.heap:=e0.mod.kin.keeps fun b o e=>(e0.bs b o e).1;have lim:s.heap.NoLimit:=e0.mod.nolimit.keeps fun b o e=>(e0.bs b o e).1;have hkind:∀y∈ps.zip us,scope.names.lookup y.1=some .local \/ (scope.names.lookup y.1=some .cell/\((cellsFrom (s.heap.objs.size+1) scope.names []).lookup y.1).isSome=true):=fun⟨n,v⟩ hy=>by
  rcases S.par n (List.of_mem_zip hy).1 with q | q
  ·exact .inl q
  ·exact .inr ⟨q,PySem.W.cellsFrom_some _ _ _ (.inl q)⟩
 refine codeAny_call_function hr.depth (KX _ _ lk) rfl S.co S.gen rfl (PySem.W.codeRec_of KX hcd) (hb _ _ _ _ ?_);refine wpAny_newFunctionEnv_cells S.kind hkind fun env he s1 x=>?_;subst he;refine⟨lim.keeps x.toInCall.keep,codeAny_func ?_⟩;obtain⟨t,ht,hq⟩:=hbody A outer s H vs Q E (hr.deeper _) hsp;have I:Inv (jS CX P w K mg base N qual scope f cdv A outer s H E) [] (JY N vs) H s1:=Ka S hr.hd e0 hl r x;refine wCa (ht [] s1 (JY N vs) H _ I hq) (fun fl s' hs=>?_) fun e s' hs=>hs;have fin:∀{U':St} {H':Hp} {v:V} {u:Value},Inv (jS CX P w K mg base N qual scope f cdv A outer s H E) [] U' H' s'->je v u->Q v H'->CE outer P w H s Q u s':=
  fun {U' H' v u} J rv q=>⟨v,H',J.os,J.bare,J.base,J.hok,rv,q⟩
 cases fl with
 | ret u=>
  obtain⟨v,U',H',J,rv,q⟩:=hs;exact fin J rv q
 | next=>
  obtain⟨U',H',J,q⟩:=hs;exact fin (v:=V.non) (u:=Value.none) J rfl q
 | brk=>
  obtain⟨_,_,_,q⟩:=hs;exact False.elim q
 | cont=>
  obtain⟨_,_,_,q⟩:=hs;exact False.elim q
section
variable {X:Cx} {x:Str} {p pos:Pos} {e:Expr} {es:List Expr} {t:TA} {id T:String} {r:List V->Hp->VK->Prop}
def Kb(r:List V->Hp->VK->Prop)(t:TA):TE:=fun U H Q=>t U H fun vs H1=>r vs H1 Q
theorem Js(hc:JG X (.builtin id) r)(hg:Gl X x)(hm:X.mg x=none)(hv:bootBuiltins x=some (.builtin id))(ha:PA X (e::es) t)(hn:x≠ "__name__" := by decide)(hdb:(x==("__debug__" : Str))=false:=by decide)
  (he:starEach (e::es) X.env=(false,eval e X.env)::starEach es X.env:=by rfl) (hpl:(backTo pos (starEach es X.env)).any (·.1)=false:=by rfl):PE X (.Call (.Name x p) (e::es) [] pos) (Kb r t):=by
 intro pins s U H Q I h;refine wpAny_Call_Name_kw (yT I hg hm hv ?_ hn hdb);exact PyProof.Rows.callWith_builtin1 (jm (ha pos pins s U H _ I h) fun us s1 ⟨vs,H1,I1,r1,q1⟩=>hc pins s1 U H1 vs us Q I1 r1 q1) he hpl
theorem YB(hc:JG X (.type T) r)(hg:Gl X x)(hm:X.mg x=none)(hv:bootBuiltins x=some (.type T))(ha:PA X (e::es) t)(hn:x≠ "__name__" := by decide)(hdb:(x==("__debug__" : Str))=false:=by decide)
  (he:starEach (e::es) X.env=(false,eval e X.env)::starEach es X.env:=by rfl) (hpl:(backTo pos (starEach es X.env)).any (·.1)=false:=by rfl):PE X (.Call (.Name x p) (e::es) [] pos) (Kb r t):=by
 intro pins s U H Q I h;refine wpAny_Call_Name_kw (yT I hg hm hv ?_ hn hdb);exact PyProof.Rows.callWith_type1 (jm (ha pos pins s U H _ I h) fun us s1 ⟨vs,H1,I1,r1,q1⟩=>hc pins s1 U H1 vs us Q I1 r1 q1) he hpl
end
end L2
namespace HT
open PySem PyProof.Rows
section
open PySem.SeqAt
open PySem.AutoSeq1 (wpAny_loadPart')
open PySem.MeetsSeq PySem.MeetsSeq2 PySem.MeetsSeq3
end
section
variable {prog:Program} {w:World} {A:Around} {E:Value->Shared->Prop} {s:Shared}
theorem cat_tup(ht:IsTup s.heap t vs.toArray)(hb:IsTup s.heap b ws.toArray)(hv:vs≠[])
  (h1:ws=[]->Q (.ref t) s) (h2:ws≠[]->Q (.ref s.heap.objs.size) { s with heap:=s.heap.push { cls:=.type "tuple",data:=.seq (vs++ws).toArray } })
  (hsz:vs.length+ws.length<=sizeLine):wpAny (model prog w) A (binaryOp .Add (.ref t) (.ref b)) Q E s:=by
 obtain⟨⟨cls,dd,data,sl⟩,ho,hc,n,hd⟩:=id ht;obtain⟨⟨cls2,dd2,data2,sl2⟩,ho2,hc2,n2,hd2⟩:=id hb;simp only at hc hd hc2 hd2;subst hc hd hc2 hd2;have e:vs.toArray++ws.toArray=(vs++ws).toArray:=by simp
 by_cases hw:ws=[]
 ·exact concat_meets ⟨_,ho,rfl⟩ ⟨_,ho2,rfl⟩ noFill_tuple_add seq_tuple_add PySem.F.slot_tuple_add PySem.F.entry_tuple_add (PySem.F.args_tuple_add_2 _ _)
   (tuple_addW1 t b vs.toArray ws.toArray n n2 dd dd2 sl sl2 (by simpa using hv) (by simp[hw])) ⟨ho,ho2,h1 hw⟩
 ·refine concat_meets ⟨_,ho,rfl⟩ ⟨_,ho2,rfl⟩ noFill_tuple_add seq_tuple_add PySem.F.slot_tuple_add PySem.F.entry_tuple_add (PySem.F.args_tuple_add_2 _ _)
   (tuple_addW2 t b vs.toArray ws.toArray n n2 dd dd2 sl sl2 (by simpa using hv) (by simpa using hw) (by rw[List.size_toArray,List.size_toArray];exact hsz)) ⟨ho,ho2,?_⟩
  rw[e];exact h2 hw
theorem cat_tup0{ws:List Value}(ht:IsTup s.heap t ([]:List Value).toArray)(hb:IsTup s.heap b ws.toArray)(h1:Q (.ref b) s):wpAny (model prog w) A (binaryOp .Add (.ref t) (.ref b)) Q E s:=by
 obtain⟨⟨cls,dd,data,sl⟩,ho,hc,n,hd⟩:=id ht;obtain⟨⟨cls2,dd2,data2,sl2⟩,ho2,hc2,n2,hd2⟩:=id hb;simp only at hc hd hc2 hd2;subst hc hd hc2 hd2;exact concat_meets ⟨_,ho,rfl⟩ ⟨_,ho2,rfl⟩ noFill_tuple_add seq_tuple_add PySem.F.slot_tuple_add PySem.F.entry_tuple_add (PySem.F.args_tuple_add_2 _ _)
  (tuple_addW0 t b _ ws.toArray n n2 dd dd2 sl sl2 rfl) ⟨ho,ho2,h1⟩
noncomputable def sIx(n d:Nat):Option Int->Nat
 | none=>d
 | some v=>if v < 0 then(v+(n:Int)).toNat else min v.toNat n
theorem sIx_nat(n d k:Nat):sIx n d (some (k:Int))=min k n:=by
 show(if (k:Int) < 0 then((k:Int)+(n:Int)).toNat else min (k:Int).toNat n)=min k n;rw[if_neg (by lia),Int.toNat_natCast]
theorem sIx_le(n d:Nat)(hd:d<=n)(o:Option Int):sIx n d o<=n:=by
 cases o with
 | none=>exact hd
 | some v=>
  show(if v < 0 then(v+(n:Int)).toNat else min v.toNat n)<=n;by_cases hv:v < 0
  ·rw[if_pos hv];lia
  ·rw[if_neg hv];exact Nat.min_le_right _ _
theorem clip_eq(v:Int)(n d:Nat):(if v < 0 then max (v+(n:Int)) 0 else min v (n:Int))=((sIx n d (some v):Nat):Int):=by
 show(if v < 0 then max (v+(n:Int)) 0 else min v (n:Int))=(((if v < 0 then(v+(n:Int)).toNat else min v.toNat n):Nat):Int)
 by_cases hv:v < 0
 ·simp only[if_pos hv];lia
 ·simp only[if_neg hv];lia
theorem adjust_gen(lo hi:Option Int)(n:Nat):Builtin.Slice.sliceAdjust lo hi 1 (n:Int)=(((sIx n 0 lo:Nat):Int),((sIx n n hi:Nat):Int)):=by
 have h1:¬((1:Int) < 0):=by lia
 unfold Builtin.Slice.sliceAdjust;simp only[h1,if_false];refine Prod.ext ?_ ?_
 ·cases lo with
  | none=>rfl
  | some v=>exact clip_eq v n 0
 ·cases hi with
  | none=>rfl
  | some v=>exact clip_eq v n n
theorem places_gen(i j:Nat):Builtin.Slice.slicePlaces (i:Int) (j:Int) 1=j - i:=by
 unfold Builtin.Slice.slicePlaces;have h1:(1:Int) > 0:=by lia
 simp only[h1,if_true,Int.ediv_one];split <;> lia
theorem slicePart_(p:IsPart v o)(h:Q o s):wpAny (model prog w) A (Builtin.Slice.slicePartIndex v) Q E s:=by
 cases p with
 | none=>exact slicePart_none h
 | int i t=>exact slicePart_int h
theorem sliceApplied_gen{sl:Addr}{vl vu:Value}{lo hi:Option Int}{n:Nat}{Q:Int×Int×Nat->Shared->Prop}(hs:s.heap.IsSliceOf sl vl vu .none)(pl:IsPart vl lo)(pu:IsPart vu hi)
  (h:Q (((sIx n 0 lo:Nat):Int),1,sIx n n hi - sIx n 0 lo) s):wpAny (model prog w) A (Builtin.Slice.sliceApplied (.ref sl) (pure (n:Int))) Q E s:=by
 obtain⟨os,hos,hcs,hds⟩:=id hs;unfold Builtin.Slice.sliceApplied Builtin.Slice.sliceFields;refine wAa (wAa (wpAny_field hos hds (x:=vl) rfl (wAa (wpAny_field hos hds (x:=vu) rfl (wAa (wpAny_field hos hds (x:=.none) rfl (wBa ?_)))))));refine wAa (slicePart_none ?_);show wpAny _ _ (if ((1:Int)==0)=true then _ else _) _ _ s;rw[if_neg (by decide)];refine wAa (slicePart_ pl (wAa (slicePart_ pu (wAa (wBa ?_)))));show wpAny _ _ (match Builtin.Slice.sliceAdjust lo hi 1 (n:Int)with | (lo,hi)=>pure (lo,(1:Int),Builtin.Slice.slicePlaces lo hi 1)) _ _ s;rw[adjust_gen lo hi n];show wpAny _ _ (pure (((sIx n 0 lo:Nat):Int),(1:Int),Builtin.Slice.slicePlaces ((sIx n 0 lo:Nat):Int) ((sIx n n hi:Nat):Int) 1)) _ _ s;rw[places_gen];exact wBa h
theorem pick_gen(xs:Array Value)(i k:Nat):((List.range k).filterMap fun(m:Nat)=>xs[((i:Int)+(m:Int) * 1).toNat]?).toArray=((xs.toList.drop i).take k).toArray:=by
 have e:(fun(m:Nat)=>xs[((i:Int)+(m:Int) * 1).toNat]?)=fun m=>xs[i+m]?:=by
  funext m;have:((i:Int)+(m:Int) * 1).toNat=i+m:=by lia
  rw[this]
 rw[e];have:=pick_run xs i k;rw[List.filterMap_map]at this;have e2:((fun x=>xs[x]?)∘fun x=>i+x)=fun m=>xs[i+m]?:=rfl;rw[e2]at this;rw[this]
theorem getItem_tuple_cut{t sl:Addr}{items:Array Value}{vl vu:Value}{lo hi:Option Int}{Q:Value->Shared->Prop}(ht:IsTup s.heap t items)(hs:s.heap.IsSliceOf sl vl vu .none)(pl:IsPart vl lo)(pu:IsPart vu hi)
  (hw:¬(sIx items.size 0 lo=0/\sIx items.size items.size hi=items.size))
  (h:Q (.ref s.heap.objs.size) { s with heap:=s.heap.push { cls:=.type "tuple",data:=.seq ((items.toList.drop (sIx items.size 0 lo)).take (sIx items.size items.size hi - sIx items.size 0 lo)).toArray } })
  (hsz:items.size<=sizeLine):wpAny (model prog w) A (getItem (.ref t) (.ref sl)) Q E s:=by
 have htake:sizeOk (.seq ((items.toList.drop (sIx items.size 0 lo)).take (sIx items.size items.size hi - sIx items.size 0 lo)).toArray):=by
  show((items.toList.drop (sIx items.size 0 lo)).take (sIx items.size items.size hi - sIx items.size 0 lo)).toArray.size<=sizeLine;rw[uLa,uOa,uNa,Array.length_toList]
  lia
 have hj:sIx items.size items.size hi<=items.size:=sIx_le _ _ (wPa _) hi;obtain⟨os,hos,hcs,hds⟩:=id hs;have hTs:s.TypeIs (.ref sl) "slice" := ⟨os,hos,hcs⟩
 unfold getItem
 try with_reducible refine wDa ?_
 first | refine wAa (wBa ?_) | skip
 refine wAa (wpAny_sequenceKey ht.typeIs (by decide) ?_);refine wAa (wpAny_callSpecial?_slot (name:=Str.ofString "__getitem__") ht.typeIs PyProof.Rows.slot_tuple_getitem
  (wpAny_call_entry PyProof.Rows.slot_tuple_getitem ht.typeIs entry_tuple_getitem ?_ (args_tuple_getitem _ _)))
 show wpAny _ _ (Builtin.Tuple.tupleItemsOf (.ref t) >>= _) _ _ s;refine wAa (tupleItemsOf_ ht ?_);refine wAa (wpAny_typeOf hTs ?_);rw[if_pos (by decide)];refine wAa (sliceApplied_gen hs pl pu ?_);have hno:¬((((sIx items.size 0 lo:Nat):Int)==0&&(1:Int)==1&&(sIx items.size items.size hi - sIx items.size 0 lo)==items.size)=true):=by
  intro q;rw[Bool.and_eq_true,Bool.and_eq_true]at q;have q1:((sIx items.size 0 lo:Nat):Int)=0:=vLa q.1.1;have q2:sIx items.size items.size hi - sIx items.size 0 lo=items.size:=vLa q.2;exact hw ⟨by lia,by lia⟩
 show wpAny _ _ (if (((sIx items.size 0 lo:Nat):Int)==0&&(1:Int)==1&&(sIx items.size items.size hi - sIx items.size 0 lo)==items.size)=true then _ else _) _ _ s;rw[if_neg hno,pick_gen]
 first
  | exact wAa (m:=Builtin.Tuple.tupleExact _) (vTa (wBa ⟨_,rfl,wBa h⟩) htake)
  | exact wAa (m:=Builtin.Tuple.tupleExact _) (vTa (wAa (wBa (wBa ⟨_,rfl,wBa h⟩))) htake)
  | exact wAa (wAa (m:=Builtin.Tuple.tupleExact _) (vTa (wBa (wBa ⟨_,rfl,wBa h⟩)) htake))
  | exact wAa (wAa (m:=Builtin.Tuple.tupleExact _) (vTa (wBa ⟨_,rfl,wBa h⟩) htake))
end
end HT
namespace L2
open PySem PySem.Spec PyProof.Rows
noncomputable abbrev TO:=St->Hp->(Option Int->Hp->Prop)->Prop
def PO(X:Cx)(e:Option Expr)(t:TO):Prop:=
 ∀(pins:List (Addr×Obj)) (s:Shared) (U:St) (H:Hp) (Q:Option Int->Hp->Prop),Inv X pins U H s->t U H Q->
  wpAny (model X.prog X.w) X.A (evalPart e X.env) (fun u s'=>∃o H',Inv X pins U H' s'/\IsPart u o/\Q o H') X.xe s
noncomputable def QL:TO:=fun _ H Q=>Q none H
noncomputable def cD(t:TE):TO:=fun U H Q=>t U H fun x H1=>∃i,x=.int i/\Q (some i) H1
section
variable {X:Cx} {e:Expr} {te:TE} {lo hi:Option Expr} {tl th:TO} {pos p2:Pos}
theorem QM:PO X none QL:=by
 intro pins s U H Q I h;rw[evalPart_none];exact wBa ⟨none,H,I,.none,h⟩
theorem QN(h:PE X e te):PO X (some e) (cD te):=by
 intro pins s U H Q I hw;rw[evalPart_some];refine jm (h pins s U H _ I hw) fun u s1 xx=>?_;obtain⟨x,H1,I1,r1,q1⟩:=xx;obtain⟨i,rfl,q⟩:=q1;obtain⟨t,rfl⟩:=r1;exact⟨some i,H1,I1,.int i t,q⟩
def qg(X:Cx)(r:V->Option Int->Option Int->Hp->VK->Prop):Prop:=
 ∀(pins:List (Addr×Obj)) (s:Shared) (U:St) (H:Hp) (x:V) (v vl vu:Value) (lo hi:Option Int) (sl:Addr) (Q:VK),Inv X pins U H s->je x v->s.heap.IsSliceOf sl vl vu .none->IsPart vl lo->IsPart vu hi->r x lo hi H Q->
  ∃T id,typeLookup (.type T) "__getitem__" = pure (some (.builtin id))/\s.TypeIs v T/\wpAny (model X.prog X.w) X.A (getItem v (.ref sl)) (EP X pins U Q) X.xe s
def fJ(r:V->Option Int->Option Int->Hp->VK->Prop)(te:TE)(tl th:TO):TE:=fun U H Q=>te U H fun x H1=>tl U H1 fun l H2=>th U H2 fun u H3=>r x l u H3 Q
theorem ZP{r:V->Option Int->Option Int->Hp->VK->Prop}(hr:qg X r)(he:PE X e te)(hl:PO X lo tl)(hu:PO X hi th):PE X (.Subscript e (.Slice lo hi none p2) pos) (fJ r te tl th):=by
 intro pins s U H Q I h;refine Subscript_ (jm (he pins s U H _ I h) fun v s1 xx=>?_);obtain⟨x,H1,I1,r1,q1⟩:=xx;refine wpAny_Slice (jm (hl pins s1 U H1 _ I1 q1) fun vl s2 ⟨l,H2,I2,pl,q2⟩=>jm (hu pins s2 U H2 _ I2 q2) fun vu s3 xx=>?_);obtain⟨u,H3,I3,pu,q3⟩:=xx;rw[evalPart_none];refine wBa ?_;have I4:Inv X pins U H3 { s3 with heap:=s3.heap.push { cls:=.type "slice",data:=.fields #[vl,vu,.none] } }:=I3.kept (t':=s3.toks) fun b ob q=>wIa _ q;obtain⟨T,id,hT,ht,hg⟩:=hr pins { s3 with heap:=s3.heap.push { cls:=.type "slice",data:=.fields #[vl,vu,.none] } } U H3 x v vl vu l u s3.heap.objs.size Q I4 r1 (Heap.IsSliceOf.new ..) pl pu q3;show wpAny (model X.prog X.w) X.A (subscriptTail e (.Slice lo hi none p2) v (.ref s3.heap.objs.size)) (EP X pins U Q) X.xe { s3 with heap:=s3.heap.push { cls:=.type "slice",data:=.fields #[vl,vu,.none] } };exact tail_any (ops:=[.ref s3.heap.objs.size,v]) ht hT hg (by with_unfolding_all rfl)
def zY(xs:List V)(lo hi:Option Int):List V:=(xs.drop (HT.sIx xs.length 0 lo)).take (HT.sIx xs.length xs.length hi - HT.sIx xs.length 0 lo)
theorem ZF(xs:List V)(lo hi:Option Int):(zY xs lo hi).length<=xs.length:=by
 unfold zY;rw[uOa,uNa]
 lia
def E2(K:uXa):V->Option Int->Option Int->Hp->VK->Prop:=fun x lo hi H Q=>∃a xs,x=.ref a/\J8 K H a xs/\
 ¬(HT.sIx xs.length 0 lo=0/\HT.sIx xs.length xs.length hi=xs.length)/\∀p,H p=none->Q (.ref p) (upd H p (.tup (zY xs lo hi)))
theorem aw:qg X (E2 X.K):=by
 intro pins s U H x v vl vu lo hi sl Q I rx hs pl pu h;obtain⟨a,xs,rfl,hx,hw,q⟩:=h;cases rx;obtain⟨its,r,ht,hz⟩:=I.tuple hx;have hlen:its.toArray.size=xs.length:=by rw[uLa];exact r.length.symm
 refine⟨"tuple",_,PyProof.Rows.slot_tuple_getitem.lookup,ht.typeIs,?_⟩;refine HT.getItem_tuple_cut ht hs pl pu (by rw[hlen];exact hw) ?_ (by rw[hlen];exact hz);rw[hlen];refine⟨.ref s.heap.objs.size,_,I.laid (t':=s.toks) (o:=.tup (zY xs lo hi)) (fun b ob q=>wIa _ q) (wPa _) ?_,rfl,q _ (I.hok.fresh (wPa _))⟩;exact⟨wSa (ZF xs lo hi) hz,_,(r.drop (HT.sIx xs.length 0 lo)).take (HT.sIx xs.length xs.length hi - HT.sIx xs.length 0 lo),IsTup.new _ _⟩
def GG(K:uXa):R2:=fun x y H Q=>∃a b xs ys,x=.ref a/\y=.ref b/\J8 K H a xs/\J8 K H b ys/\xs.length+ys.length<=sizeLine/\
 (xs=[]->Q (.ref b) H)/\(xs≠[]->ys=[]->Q (.ref a) H)/\(xs≠[]->ys≠[]->∀p,H p=none->Q (.ref p) (upd H p (.tup (xs++ys))))
theorem jd.nil_iff(r:jd xs us):us=[]↔xs=[]:=by
 cases r with
 | nil=>simp
 | cons _ _=>simp
theorem QO:jw X (binaryOp .Add) (GG X.K):=by
 intro pins s U H x y v u Q I rx ry h;obtain⟨a,b,xs,ys,rfl,rfl,ha,hb,hz,q0,q1,q2⟩:=h;cases rx;cases ry;obtain⟨its,r1,p1,_⟩:=I.tuple ha;obtain⟨its2,r2,p2,_⟩:=I.tuple hb;by_cases hx:xs=[]
 ·have e:=r1.nil_iff.mpr hx;subst e;exact HT.cat_tup0 p1 p2 ⟨.ref b,H,I,rfl,q0 hx⟩
 replace q1:=q1 hx
 replace q2:=q2 hx
 refine HT.cat_tup p1 p2 (fun z=>hx (r1.nil_iff.mp z)) (fun z=>⟨.ref a,H,I,rfl,q1 (r2.nil_iff.mp z)⟩) (fun z=>?_) (by rw[<-r1.length,<-r2.length];exact hz);refine⟨.ref s.heap.objs.size,_,I.laid (t':=s.toks) (o:=.tup (xs++ys)) (fun b ob q=>wIa _ q) (wPa _) ?_,rfl,q2 (fun w=>z (r2.nil_iff.mpr w)) _ (I.hok.fresh (wPa _))⟩;exact⟨by rw[vZa];exact hz,_,r1.append r2,IsTup.new _ _⟩
end
noncomputable def VB(n:Nat)(i:Int):Option Nat:=if 0<=i then(if i < n then some i.toNat else none)else if -(n:Int)<=i then some (i+n).toNat else none
def atI(xs:List α)(i:Int):Option α:=(VB xs.length i).bind fun j=>xs[j]?
theorem gB(h:VB n i=some j):seqIndex? i n=some j/\j < n/\-(n:Int)<=i/\i < n:=by
 unfold VB at h;by_cases h0:0<=i
 ·rw[if_pos h0]at h;by_cases h1:i < n
  ·rw[if_pos h1]at h;have e:i.toNat=j:=vFa h;exact⟨by rw[seqIndex_of h0 h1,e],by lia,by lia,h1⟩
  ·rw[if_neg h1]at h;cases h
 ·rw[if_neg h0]at h;by_cases h1:-(n:Int)<=i
  ·rw[if_pos h1]at h;have e:(i+n).toNat=j:=vFa h;exact⟨by rw[seqIndex_neg (by lia) h1,e],by lia,h1,by lia⟩
  ·rw[if_neg h1]at h;cases h
theorem V3(h:atI xs i=some v):∃j,seqIndex? i xs.length=some j/\xs[j]?=some v/\j < xs.length/\-(xs.length:Int)<=i/\i < xs.length:=by
 unfold atI at h;cases e:VB xs.length i with
 | none=>rw[e]at h;cases h
 | some j=>
  rw[e]at h;obtain⟨h1,h2,h3,h4⟩:=gB e;exact⟨j,h1,h,h2,h3,h4⟩
def Zp(b:Expr):Prop:=∀o i,subscripted b false o i=operate [o,i] (getItem o i)
def zf(X:Cx)(r:R2):Prop:=
 ∀(value slice:Expr) (pins:List (Addr×Obj)) (s:Shared) (U:St) (H:Hp) (x y:V) (v u:Value) (Q:VK),Inv X pins U H s->je x v->je y u->r x y H Q->
  subscripted slice false v u=operate [v,u] (getItem v u)->wpAny (model X.prog X.w) X.A (subscriptTail value slice v u) (EP X pins U Q) X.xe s
def fL(X:Cx)(id:String)(r:V->List V->Hp->VK->Prop):Prop:=
 ∀(pins:List (Addr×Obj)) (s:Shared) (U:St) (H:Hp) (x:V) (xs:List V) (v:Value) (us:List Value) (Q:VK),Inv X pins U H s->je x v->jd xs us->r x xs H Q->
  wpAny (model X.prog X.w) X.A (call (.builtin id) (v::us)) (EP X pins U Q) X.xe s
section
variable {X:Cx} {a b:Expr} {ta tb:TE} {pos:Pos}
theorem zf.or(h:zf X r)(h':zf X r'):zf X (fun x y H Q=>r x y H Q \/ r' x y H Q):=by
 intro value slice pins s U H x y v u Q I rx ry q hs;rcases q with q | q
 ·exact h value slice pins s U H x y v u Q I rx ry q hs
 ·exact h' value slice pins s U H x y v u Q I rx ry q hs
theorem GH(hr:zf X r)(ha:PE X a ta)(hb:PE X b tb)(hs:Zp b):PE X (.Subscript a b pos) (gw r ta tb):=by
 intro pins s U H Q I h;exact Subscript_ (wC ha hb I h fun v u s2 x y H2 I2 rx ry q=>hr a b pins s2 U H2 x y v u Q I2 rx ry q (hs _ _))
def ax(K:uXa):R2:=fun x y H Q=>∃p xs i v,x=.ref p/\y=.int i/\jr K H p xs/\atI xs i=some v/\Q v H
def ay(K:uXa):R2:=fun x y H Q=>∃p xs i v,x=.ref p/\y=.int i/\J8 K H p xs/\atI xs i=some v/\Q v H
def wM:R2:=fun x y H Q=>∃z i c,x=.str z/\y=.int i/\z.length<=sizeLine/\atI z.cps.toList i=some c/\Q (.str ⟨#[c]⟩) H
theorem QP:zf X (ax X.K):=by
 intro value slice pins s U H x y v u Q I rx ry h hs;obtain⟨p,xs,i,z,rfl,rfl,hq,he,q⟩:=h;cases rx;obtain⟨t,rfl⟩:=ry;obtain⟨its,r,pl,hz⟩:=I.list hq;obtain⟨j,h1,h2,h3,h4,h5⟩:=V3 he;obtain⟨w,ew,rw'⟩:=r.get h2;have hl:=r.length;have hn:=Yk;have fin:EP X pins U Q w s:=⟨z,H,I,rw',q⟩
 by_cases h0:0<=i
 ·have hj:i.toNat=j:=by
   rw[seqIndex_of h0 h5]at h1;exact vFa h1
  exact item_listR pl.isList h0 (by lia) (by rw[hj];simpa using ew) fin hs
 ·have hj:(i+(its.toArray.size:Int)).toNat=j:=by
   rw[seqIndex_neg (by lia) h4]at h1;rw[uLa,<-hl];exact vFa h1
  exact subscriptTail_builtinR (x:=w) pl.isList.typeIs slot_list_getitem.lookup
   (wpAny_getItem_list_neg (Q:=fun r s'=>r=w/\EP X pins U Q r s') pl.isList (by lia) (by rw[uLa] <;> lia) (by lia) (by rw[hj];simpa using ew) ⟨rfl,fin⟩) hs
theorem az:zf X (ay X.K):=by
 intro value slice pins s U H x y v u Q I rx ry h hs;obtain⟨p,xs,i,z,rfl,rfl,hq,he,q⟩:=h;cases rx;obtain⟨t,rfl⟩:=ry;obtain⟨its,r,pl,hz⟩:=I.tuple hq;obtain⟨j,h1,h2,h3,h4,h5⟩:=V3 he;obtain⟨w,ew,rw'⟩:=r.get h2;have hl:=r.length;have hn:=Yk;have fin:EP X pins U Q w s:=⟨z,H,I,rw',q⟩
 exact subscriptTail_builtinR (x:=w) pl.typeIs slot_tuple_getitem.lookup
  (getItem_tuple (j:=j) (Q:=fun r s'=>r=w/\EP X pins U Q r s') pl (by lia) (by lia) (by rw[uLa,<-hl];exact h1) (by simpa using ew) ⟨rfl,fin⟩) hs
theorem Kc:zf X wM:=by
 intro value slice pins s U H x y v u Q I rx ry h hs;obtain⟨z,i,c,rfl,rfl,hz,he,q⟩:=h;obtain⟨t,rfl⟩:=rx;obtain⟨t',rfl⟩:=ry;obtain⟨j,h1,h2,h3,h4,h5⟩:=V3 he;have hl:z.cps.toList.length=z.length:=by simp[Str.length]
 rw[hl]at h1 h4 h5;have hn:=Yk;exact tail_any (typeIs_str s z t) slot_str_getitem.lookup (getItem_str (c:=c) (by
  have e1:decide (i < -(2 ^ 63:Int))=false:=vBa (by lia);have e2:decide (i>=2 ^ 63)=false:=vBa (by lia);rw[e1,e2,Bool.or_false]) (by rw[h1];simpa using h2) ⟨.str ⟨#[c]⟩,H,I.tok _,⟨_,rfl⟩,q⟩) hs
def Dl(K:uXa):R2:=fun x y H Q=>ax K x y H Q \/ ay K x y H Q \/ wM x y H Q
theorem Ke:zf X (Dl X.K):=QP.or (az.or Kc)
theorem GJ(its:List Value)(n j:Nat)(u:Value):Obj.mapSeq (·.setIfInBounds j u) { cls:=.type "list",data:=.seq its.toArray n }={ cls:=.type "list",data:=.seq (its.set j u).toArray n }:=by
 simp[Obj.mapSeq]
theorem Inv.lst{pins:List (Addr×Obj)}{U:St}{H:Hp}{s:Shared}{p:Addr}{xs:List V}(I:Inv X pins U H s)(h:H p=some (.lst xs)):
  ∃(its:List Value) (n:Nat),jd xs its/\s.heap.get? p=some { cls:=.type "list",data:=.seq its.toArray n }/\xs.length<=sizeLine:=by
 obtain⟨z,its,n,r,e⟩:=I.hok p _ h;exact⟨its,n,r,e,z⟩
theorem Inv.lstUpd{s:Shared}{ys:List V}{its its':List Value}(I:Inv X pins U H s)(h:H p=some (.lst xs))
  (ho:s.heap.get? p=some { cls:=.type "list",data:=.seq its.toArray n }) (hf:f { cls:=.type "list",data:=.seq its.toArray n }={ cls:=.type "list",data:=.seq its'.toArray n' }) (r:jd ys its') (hz:ys.length<=sizeLine) (t:Nat):
  Inv X pins U (upd H p (.lst ys)) { s with heap:=s.heap.update p f,toks:=t }:=by
 have e:(s.heap.update p f).get? p=some { cls:=.type "list",data:=.seq its'.toArray n' }:=by
  rw[Heap.get?_update_self f ho (by rw[hf] <;> rfl),hf]
 refine I.write (x:=p) (e:=p) (by rw[h];trivial) (.inl rfl) (fun b u hb q=>(wKa _ _ (Ne.symm hb)).trans q) ⟨_,e⟩ ?_;exact⟨hz,its',n',r,e⟩
def qh:V->V->V->Hp->(Hp->Prop)->Prop:=fun o i v H Q=>∃p xs k j,o=.ref p/\i=.int k/\H p=some (.lst xs)/\VB xs.length k=some j/\Q (upd H p (.lst (xs.set j v)))
theorem wN:ut X qh:=by
 intro pins s U H o i v ov iv u Q I ro ri rv h;obtain⟨p,xs,k,j,rfl,rfl,hp,hj,q⟩:=h;cases ro;obtain⟨t,rfl⟩:=ri;obtain⟨its,n,r,ho,hz⟩:=I.lst hp;obtain⟨h1,h2,h3,h4⟩:=gB hj;have hl:=r.length;have hn:=Yk;have I':Inv X pins U (upd H p (.lst (xs.set j v))) { s with heap:=s.heap.update p (Obj.mapSeq (·.setIfInBounds j u)) }:=
  I.lstUpd hp ho (GJ its n j u) (r.set rv j) (by rw[List.length_set];exact hz) s.toks
 by_cases h0:0<=k
 ·have hk:k.toNat=j:=by
   rw[seqIndex_of h0 h4]at h1;exact vFa h1
  exact PySem.W.ki_setAt ho h0 (by lia) (by rw[uLa,<-hl];exact h4) (by rw[hk];exact⟨_,I',q⟩)
 ·have hk:(k+(its.toArray.size:Int)).toNat=j:=by
   rw[seqIndex_neg (by lia) h3]at h1;rw[uLa,<-hl];exact vFa h1
  exact PySem.W.ki_setBack ho (by lia) (by rw[uLa,<-hl];exact h3) (by lia) (by rw[hk];exact⟨_,I',q⟩)
theorem uE(lo hi:Option Int)(n:Nat):(sliceBounds lo hi none n).1=((HT.sIx n 0 lo:Nat):Int)/\(sliceBounds lo hi none n).2.1=((HT.sIx n n hi:Nat):Int)/\(sliceBounds lo hi none n).2.2=1:=by
 refine⟨?_,?_,rfl⟩
 ·cases lo with
  | none=>simp[sliceBounds,HT.sIx]
  | some i=>
   simp only[sliceBounds,HT.sIx,Option.getD_none,show(1:Int) > 0 by decide,if_true];by_cases h:i < 0
   ·simp only[h,if_true] <;> lia
   ·simp only[h,if_false] <;> lia
 ·cases hi with
  | none=>simp[sliceBounds,HT.sIx]
  | some i=>
   simp only[sliceBounds,HT.sIx,Option.getD_none,show(1:Int) > 0 by decide,if_true];by_cases h:i < 0
   ·simp only[h,if_true] <;> lia
   ·simp only[h,if_false] <;> lia
theorem u0(its:List Value)(lo hi:Option Int):slicePick its.toArray lo hi none=((its.drop (HT.sIx its.length 0 lo)).take (HT.sIx its.length its.length hi - HT.sIx its.length 0 lo)).toArray:=by
 obtain⟨h1,h2,h3⟩:=uE lo hi its.toArray.size;unfold slicePick;rw[h1,h2,h3];simp only[sliceRange_one,pick_run,List.size_toArray] <;> rfl
def E3(K:uXa):V->Option Int->Option Int->Hp->VK->Prop:=fun x lo hi H Q=>∃a xs,x=.ref a/\jr K H a xs/\∀p,H p=none->Q (.ref p) (upd H p (.lst (zY xs lo hi)))
theorem QQ:qg X (E3 X.K):=by
 intro pins s U H x v vl vu lo hi sl Q I rx hs pl pu h;obtain⟨a,xs,rfl,hx,q⟩:=h;cases rx;obtain⟨its,r,ht,hz⟩:=I.list hx;have hlen:=r.length;refine⟨"list",_,slot_list_getitem.lookup,ht.isList.typeIs,?_⟩;refine wpAny_getItem_list_slice ht.isList hs pl pu .none (by simp) ?_ (by rw[List.size_toArray] <;> lia);rw[u0,<-hlen];refine⟨.ref s.heap.objs.size,_,I.laid (t':=s.toks) (o:=.lst (zY xs lo hi)) (fun b ob q=>wIa _ q) (wPa _) ?_,rfl,q _ (I.hok.fresh (wPa _))⟩;exact⟨wSa (ZF xs lo hi) hz,_,0,(r.drop (HT.sIx xs.length 0 lo)).take (HT.sIx xs.length xs.length hi - HT.sIx xs.length 0 lo),wJa _ rfl⟩
noncomputable def yK:V->Bool
 | .non=>true
 | .bl _=>true
 | .int _=>true
 | .str _=>true
 | _=>false
noncomputable def VC:V->V->Bool
 | .non,.non=>true
 | .bl a,.bl b=>a==b
 | .bl a,.int b=>(if a then 1 else 0)==b
 | .int a,.bl b=>a==(if b then 1 else 0)
 | .int a,.int b=>a==b
 | .str a,.str b=>a==b
 | _,_=>false
theorem aA(ry:je y u)(rx:je x v)(fy:yK y=true)(fx:yK x=true):SeqAt.EqAt A s u v (VC y x):=by
 cases y with
 | non=>
  cases ry;cases x with
  | non=>cases rx;exact SeqAt.EqAt.same _
  | bl b=>cases rx;exact SeqAt.EqAt.none_bool b
  | int b=>obtain⟨t,rfl⟩:=rx;exact SeqAt.EqAt.none_int b t
  | str b=>obtain⟨t,rfl⟩:=rx;exact SeqAt.EqAt.none_str b t
  | _=>exact vDa (show false=true from fx) vNa
 | bl a=>
  cases ry;cases x with
  | non=>cases rx;exact SeqAt.EqAt.bool_none a
  | bl b=>cases rx;exact SeqAt.EqAt.bool_bool a b
  | int b=>obtain⟨t,rfl⟩:=rx;exact SeqAt.EqAt.bool_int a b t
  | str b=>obtain⟨t,rfl⟩:=rx;exact SeqAt.EqAt.bool_str a b t
  | _=>exact vDa (show false=true from fx) vNa
 | int a=>
  obtain⟨t',rfl⟩:=ry;cases x with
  | non=>cases rx;exact SeqAt.EqAt.int_none a t'
  | bl b=>cases rx;exact SeqAt.EqAt.int_bool a t' b
  | int b=>obtain⟨t,rfl⟩:=rx;exact SeqAt.EqAt.int_int a t' b t
  | str b=>obtain⟨t,rfl⟩:=rx;exact SeqAt.EqAt.int_str a t' b t
  | _=>exact vDa (show false=true from fx) vNa
 | str a=>
  obtain⟨t',rfl⟩:=ry;cases x with
  | non=>cases rx;exact SeqAt.EqAt.str_none a t'
  | bl b=>cases rx;exact SeqAt.EqAt.str_bool a t' b
  | int b=>obtain⟨t,rfl⟩:=rx;exact SeqAt.EqAt.str_int a t' b t
  | str b=>obtain⟨t,rfl⟩:=rx;exact SeqAt.EqAt.str_str a t' b t
  | _=>exact vDa (show false=true from fx) vNa
 | _=>exact vDa (show false=true from fy) vNa
def Yl(x:V)(u:Value):Bool:=match u with
 | .none=>VC .non x
 | .bool b=>VC (.bl b) x
 | .int i _=>VC (.int i) x
 | .str z _=>VC (.str z) x
 | _=>false
theorem Kf(r:je y u)(f:yK y=true):Yl x u=VC y x:=by
 cases y with
 | non=>cases r;rfl
 | bl b=>cases r;rfl
 | int i=>obtain⟨t,rfl⟩:=r;rfl
 | str z=>obtain⟨t,rfl⟩:=r;rfl
 | _=>exact vDa (show false=true from f) vNa
theorem zg:∀{xs:List V} {us:List Value},jd xs us->xs.all yK=true->us.any (Yl x)=xs.any fun y=>VC y x
 | _,_,.nil,_=>rfl
 | y::xs,u::us,.cons r t,f=>by
  rw[List.all_cons,Bool.and_eq_true]at f;rw[List.any_cons,List.any_cons,Kf r f.1,zg t f.2]
theorem Ym(rx:je x v)(fx:yK x=true):∀{xs:List V} {us:List Value},jd xs us->xs.all yK=true->∀u∈us,SeqAt.EqAt A s u v (Yl x u)
 | _,_,.nil,_=>fun u hu=>by cases hu
 | y::xs,u::us,.cons r t,f=>fun u' hu=>by
  rw[List.all_cons,Bool.and_eq_true]at f;rcases uTa hu with rfl | hu
  ·rw[Kf r f.1];exact aA r rx f.1 fx
  ·exact Ym rx fx t f.2 u' hu
def qi(x:V)(xs:List V):Bool:=xs.any fun y=>VC y x
def aB(K:uXa)(neg:Bool):R2:=fun x y H Q=>∃p xs,y=.ref p/\(jr K H p xs \/ J8 K H p xs)/\yK x=true/\xs.all yK=true/\Q (.bl (if neg then !qi x xs else qi x xs)) H
theorem Kg:jw X (compareOp .In) (aB X.K false):=by
 intro pins s U H x y v u Q I rx ry h;obtain⟨p,xs,rfl,hq,fx,fs,q⟩:=h;cases ry;rcases hq with hq | hq
 ·obtain⟨its,r,pl,hz⟩:=I.list hq;refine SeqAt.in_listAt (Yl x) pl.isList (fun w hw=>Ym rx fx r fs w (by simpa using hw)) ⟨.bl _,H,I,rfl,?_⟩;rw[show its.toArray.any (Yl x)=its.any (Yl x) by simp,zg r fs];exact q
 ·obtain⟨its,r,pl,hz⟩:=I.tuple hq;refine SeqAt.in_tupleAt (Yl x) pl (fun w hw=>Ym rx fx r fs w (by simpa using hw)) ⟨.bl _,H,I,rfl,?_⟩;rw[show its.toArray.any (Yl x)=its.any (Yl x) by simp,zg r fs];exact q
theorem uF:jw X (compareOp .NotIn) (aB X.K true):=by
 intro pins s U H x y v u Q I rx ry h;obtain⟨p,xs,rfl,hq,fx,fs,q⟩:=h;cases ry;rcases hq with hq | hq
 ·obtain⟨its,r,pl,hz⟩:=I.list hq;refine SeqAt.notIn_listAt (Yl x) pl.isList (fun w hw=>Ym rx fx r fs w (by simpa using hw)) ⟨.bl _,H,I,rfl,?_⟩;rw[show its.toArray.any (Yl x)=its.any (Yl x) by simp,zg r fs];exact q
 ·obtain⟨its,r,pl,hz⟩:=I.tuple hq;refine SeqAt.notIn_tupleAt (Yl x) pl (fun w hw=>Ym rx fx r fs w (by simpa using hw)) ⟨.bl _,H,I,rfl,?_⟩;rw[show its.toArray.any (Yl x)=its.any (Yl x) by simp,zg r fs];exact q
theorem uG:JG X (.builtin "len") (fun xs H Q=>∃p ys,xs=[.ref p]/\(jr X.K H p ys \/ J8 X.K H p ys)/\Q (.int ys.length) H):=by
 intro pins s U H xs us Q I r h;obtain⟨p,ys,rfl,hq,q⟩:=h;obtain⟨u,rfl,rx⟩:=ua r;cases rx;have hn:=Yk;rcases hq with hq | hq
 ·obtain⟨its,r',pl,hz⟩:=I.list hq;have hlen:=r'.length;exact Calls.call_len_list pl.isList (by simp only[List.size_toArray] <;> lia) ⟨.int ys.length,H,I.tok _,⟨s.toks+1,by rw[uLa,hlen]⟩,q⟩
 ·obtain⟨its,r',pl,hz⟩:=I.tuple hq;have hlen:=r'.length;exact len_tuple pl (by simp only[List.size_toArray] <;> lia) ⟨.int ys.length,H,I.tok _,⟨s.toks+1,by rw[uLa,hlen]⟩,q⟩
theorem uH:JG X (.builtin "len") (fun xs H Q=>∃z,xs=[.str z]/\z.length<=sizeLine/\Q (.int z.length) H):=by
 intro pins s U H xs us Q I r h;obtain⟨z,rfl,hz,q⟩:=h;obtain⟨u,rfl,t,rfl⟩:=ua r;have hn:=Yk;exact len_str (by lia) ⟨.int z.length,H,I.tok _,⟨_,rfl⟩,q⟩
theorem uI:JG X (.type "list") (fun xs H Q=>∃p ys,xs=[.ref p]/\(jr X.K H p ys \/ J8 X.K H p ys)/\∀l,H l=none->Q (.ref l) (upd H l (.lst ys))):=by
 intro pins s U H xs us Q I r h;obtain⟨p,ys,rfl,hq,q⟩:=h;obtain⟨u,rfl,rx⟩:=ua r;cases rx;have fin:∀(its:List Value),jd ys its->ys.length<=sizeLine->∀(h':Heap) (c':Nat),(∀b o',s.heap.get? b=some o'->h'.get? b=some o')->
   h'.get? s.heap.objs.size=some { cls:=.type "list",dict:=none,data:=.seq its.toArray c',slots:=#[] }->EP X pins U Q (.ref s.heap.objs.size) { s with heap:=h' }:=fun its r' hz h' c' kp e=>
  ⟨.ref s.heap.objs.size,_,I.laid (t':=s.toks) kp (wPa _) (show jC X.prog X.w _ h' _ (.lst ys) from⟨hz,its,c',r',e⟩),rfl,q _ (I.hok.fresh (wPa _))⟩
 rcases hq with hq | hq
 ·obtain⟨its,r',pl,hz⟩:=I.list hq;have hlen:=r'.length;obtain⟨o,ho,hc,n,hd⟩:=pl.isList;exact call_list_seq p (.inl rfl) ho hc hd (fun h' c' kp e=>fin its r' hz h' c' kp e) (by simp only[List.size_toArray] <;> lia)
 ·obtain⟨its,r',pl,hz⟩:=I.tuple hq;have hlen:=r'.length;obtain⟨o,ho,hc,n,hd⟩:=pl;exact call_list_seq p (.inr rfl) ho hc hd (fun h' c' kp e=>fin its r' hz h' c' kp e) (by simp only[List.size_toArray] <;> lia)
theorem u5:JG X (.type "tuple") (fun xs H Q=>∃p ys,xs=[.ref p]/\((jr X.K H p ys/\∀l,H l=none->Q (.ref l) (upd H l (.tup ys))) \/ (J8 X.K H p ys/\Q (.ref p) H))):=by
 intro pins s U H xs us Q I r h;obtain⟨p,ys,rfl,h⟩:=h;obtain⟨u,rfl,rx⟩:=ua r;cases rx;rcases h with⟨hq,q⟩ | ⟨hq,q⟩
 ·obtain⟨its,r',pl,hz⟩:=I.list hq;have hlen:=r'.length;refine call_tuple_list pl.isList (fun h' kp=>?_) (by simp only[List.size_toArray] <;> lia);have I1:Inv X pins U H { s with heap:=h' }:=I.kept (t':=s.toks) kp;have I2:Inv X pins U (upd H h'.objs.size (.tup ys)) { s with heap:=h'.push { cls:=.type "tuple",data:=.seq its.toArray } }:=
   I1.laid (t':=s.toks) (fun b o e=>wIa _ e) (wPa _) (show jC X.prog X.w _ _ _ (.tup ys) from⟨hz,its,r',IsTup.new _ _⟩)
  exact⟨.ref h'.objs.size,_,I2,rfl,q _ (I1.hok.fresh (wPa _))⟩
 ·obtain⟨its,r',pl,hz⟩:=I.tuple hq;exact call_tuple_same pl ⟨.ref p,H,I,rfl,q⟩
def Dm(K:uXa)(T:String)(x:V)(H:Hp):Prop:=match x with
 | .str _=>T = "str"
 | .int _=>T = "int"
 | .ref p=>(T = "list" /\∃xs,jr K H p xs) \/ (T = "tuple" /\∃o,K.lookup p=some o/\o.cls=.type "tuple" /\o.dict=none) \/
   (T = "dict" /\((∃kvs ep,H p=some (.dK kvs ep)) \/ (∃K l m,H p=some (.mem K l m)) \/∃kvs ep,H p=some (.dD kvs ep))) \/ (T = "set" /\∃S n,H p=some (.set S n))
 | _=>False
theorem aD{pins:List (Addr×Obj)}{U:St}{H:Hp}{s:Shared}{T:String}{x:V}{v:Value}(I:Inv X pins U H s)(r:je x v)(ty:Dm X.K T x H):
  s.TypeIs v T/\∀a,v=.ref a->∃ob,s.heap.get? a=some ob/\ob.dict=none:=by
 cases x with
 | str z=>
  obtain⟨t,rfl⟩:=r;cases (show T = "str" from ty);exact⟨typeIs_str s z t,fun _ e=>nomatch e⟩
 | int i=>
  obtain⟨t,rfl⟩:=r;cases (show T = "int" from ty);exact⟨typeIs_int s i t,fun _ e=>nomatch e⟩
 | ref p=>
  cases r;rcases ty with⟨rfl,xs,hq⟩ | ⟨rfl,o,hk,hc,hd⟩ | ⟨rfl,hk⟩ | ⟨rfl,S,n,hk⟩
  ·obtain⟨its,_,pl,_⟩:=I.list hq;refine⟨pl.isList.typeIs,fun a e=>?_⟩;cases e;obtain⟨o,n,e,c,hd,_⟩:=pl;exact⟨o,e,hd⟩
  ·refine⟨⟨o,I.kIn p o hk,hc⟩,fun a e=>?_⟩;cases e;exact⟨o,I.kIn _ o hk,hd⟩
  ·have z:∃o,s.heap.get? p=some o/\o.ExactDict:=by
    rcases hk with⟨kvs,ep,hk⟩ | ⟨K,kvs,m,hk⟩ | ⟨kvs,ep,hk⟩
    ·obtain⟨_,_,_,_,o,_,e,ex,_⟩:=I.hok p _ hk;exact⟨o,e,ex⟩
    ·obtain⟨_,_,_,_,_,o,_,_,e,ex,_⟩:=I.hok p _ hk;exact⟨o,e,ex⟩
    ·obtain⟨_,_,_,_,_,o,_,e,ex,_⟩:=I.hok p _ hk;exact⟨o,e,ex⟩
   obtain⟨o,e,ex⟩:=z;refine⟨⟨o,e,ex.1⟩,fun a e2=>?_⟩;cases e2;exact⟨o,e,ex.2.1⟩
  ·obtain⟨o,_,_,_,e,ex,_⟩:=I.hok p _ hk;refine⟨⟨o,e,ex.1⟩,fun a e2=>?_⟩;cases e2;exact⟨o,e,ex.2.1⟩
 | _=>exact False.elim ty
def gD(K:uXa)(T:String)(r:V->List V->Hp->VK->Prop)(to:TE)(t:TA):TE:=fun U H Q=>to U H fun x H1=>Dm K T x H1/\t U H1 fun xs H2=>r x xs H2 Q
variable {o e:Expr} {es:List Expr} {to:TE} {t:TA} {name:Str} {apos cpos:Pos} {T id:String} {r:V->List V->Hp->VK->Prop}
theorem ub(pa:PlainAttrs T)(slot:Slot T name id)(hty:typeOf (.builtin id)=pure (.type "method_descriptor"))(hm:fL X id r)(ho:PE X o to)(ha:PA X (e::es) t)
  (hbase:attributeBase o name X.env (eval o X.env)=eval o X.env:=by rfl)
  (hfew:((backTo cpos (starEach (e::es) X.env)).all (fun x=>!x.1)&&(backToKw cpos (keywordEach [] X.env)).all (fun x=>x.1.isSome)
   && decide ((e::es).length+([]:List Keyword).length+(if ([]:List Keyword).isEmpty then 0 else 1) < 30))=true:=by rfl)
  (hline:(apos.endLine==cpos.line)=true:=by rfl) (hs:starEach (e::es) X.env=(false,eval e X.env)::starEach es X.env:=by rfl) (hplain:(backTo cpos (starEach es X.env)).any (·.1)=false:=by rfl):
  PE X (.Call (.Attribute o name apos) (e::es) [] cpos) (gD X.K T r to t):=by
 intro pins s U H Q I h;refine wpAny_Call_method_late hbase hfew hline rfl (jm (ho pins s U H _ I h) fun v s1 xx=>?_);obtain⟨x,H1,I1,r1,ty,q1⟩:=xx;obtain⟨h1,h2⟩:=aD I1 r1 ty;refine⟨T,id,pa,slot,hty,h1,h2,?_⟩;have hA:=ha cpos pins s1 U H1 _ I1 q1;rw[hs]at hA⊢;refine Calls.callWith_builtin (by show(false||(backTo cpos (starEach es X.env)).any (·.1))=false;rw[hplain] <;> rfl) (Calls.evalArgs_plain ?_)
 exact jm hA fun us s2 ⟨vs,H2,I2,r2,q2⟩=>hm pins s2 U H2 x vs v us Q I2 r1 r2 q2
end
def qj(X:Cx)(id:String)(r:V->List V->Hp->VK->Prop):Prop:=
 ∀(pins:List (Addr×Obj)) (s:Shared) (U:St) (H:Hp) (x:V) (xs:List V) (v:Value) (us:List Value) (Q:VK),Inv X pins U H s->je x v->jd xs us->r x xs H Q->
  wpAny (model X.prog X.w) X.A (call (.builtin id) (v::us)) (EP X pins U Q) X.xe s
theorem jd.one:∀{x:V} {us:List Value},jd [x] us->∃u,us=[u]/\je x u
 | _,_,.cons r .nil=>⟨_,rfl,r⟩
section
variable {X:Cx} {pins:List (Addr×Obj)} {U:St} {H:Hp} {s:Shared} {l b:Addr} {xs ys zs:List V}
theorem Inv.lset{its its':List Value}{n:Nat}{f:Array Value->Array Value}{t':Nat}(I:Inv X pins U H s)(hH:H l=some (.lst xs))
  (e:s.heap.get? l=some { cls:=.type "list",data:=.seq its.toArray n }) (hf:f its.toArray=its'.toArray) (hv:jd ys its') (hz:ys.length<=sizeLine):
  Inv X pins U (upd H l (.lst ys)) { s with heap:=s.heap.update l (Obj.mapSeq f),toks:=t' }:=by
 have q:=PySem.IsL.update e f;rw[hf]at q;refine I.write (x:=l) (e:=l) (by rw[hH];exact trivial) (.inl rfl) (fun b' u hb hu=>(wKa s.heap (Obj.mapSeq f) (Ne.symm hb)).trans hu) ⟨_,q⟩ ?_;exact⟨hz,its',_,hv,q⟩
theorem Inv.lnew(I:Inv X pins U H s)(hv:jd ys its)(hz:ys.length<=sizeLine):
  Inv X pins U (upd H s.heap.objs.size (.lst ys)) { s with heap:=s.heap.push { cls:=.type "list",data:=.seq its.toArray },toks:=t' }:=
 I.laid (fun _ _ q=>wIa _ q) (wPa _) ⟨hz,its,0,hv,wJa _ rfl⟩
theorem Inv.fresh(I:Inv X pins U H s):H s.heap.objs.size=none:=I.hok.fresh (wPa _)
theorem Inv.lstM(I:Inv X pins U H s)(hH:H l=some (.lst xs)):xs.length<=sizeLine/\∃(its:List Value) (n:Nat),jd xs its/\xs.length=its.length/\s.heap.get? l=some { cls:=.type "list",data:=.seq its.toArray n }:=by
 obtain⟨z,its,n,r,e⟩:=I.hok l _ hH;exact⟨z,its,n,r,r.length,e⟩
theorem wO(h:n<=sizeLine):Builtin.List.listTooLong n=false:=by
 unfold Builtin.List.listTooLong;exact vBa (by lia)
end
section
variable {X:Cx}
def Zq:V->List V->Hp->VK->Prop:=fun x vs H Q=>∃l xs y,x=.ref l/\vs=[y]/\H l=some (.lst xs)/\xs.length < sizeLine/\Q .non (upd H l (.lst (xs++[y])))
theorem Kh:qj X "list.append" Zq:=by
 intro pins s U H x vs v us Q I rx rv h;obtain⟨l,xs,y,rfl,rfl,hH,hz,q⟩:=h;cases rx;obtain⟨u,rfl,ru⟩:=rv.one;obtain⟨z,its,n,r,hl,e⟩:=I.lstM hH;refine call_meets F.slot_list_append ⟨_,e,rfl⟩ F.entry_list_append (F.args_list_append_2 _ _) (PySem.list_append l its.toArray n u (by rw[uLa];lia)) ⟨e,?_⟩;refine⟨.non,_,I.lset (its':=its++[u]) hH e (by simp) (r.append (.cons ru .nil)) ?_,rfl,q⟩;rw[vZa,List.length_singleton]
 lia
def aE:R2:=fun x y H Q=>∃l b xs zs,x=.ref l/\y=.ref b/\H l=some (.lst xs)/\H b=some (.lst zs)/\xs.length+zs.length<=sizeLine/\∀p,H p=none->Q (.ref p) (upd H p (.lst (xs++zs)))
theorem aF:jw X (binaryOp .Add) aE:=by
 intro pins s U H x y v u Q I rx ry h;obtain⟨l,b,xs,zs,rfl,rfl,hH,hB,hz,q⟩:=h;cases rx;cases ry;obtain⟨z,its,n,r,hl,e⟩:=I.lstM hH;obtain⟨z2,its2,n2,r2,hl2,e2⟩:=I.lstM hB;refine PySem.P.add_list e e2 ?_ (by rw[uLa,uLa];lia);have ea:its.toArray++its2.toArray=(its++its2).toArray:=by simp
 rw[ea];exact⟨.ref _,_,I.lnew (t':=s.toks) (r.append r2) (by rw[vZa];lia),rfl,q _ I.fresh⟩
end
end L2
namespace Att
open PySem PySem.W PySem.Calls PyProof.Rows
theorem ints_of_wellAll:∀(ns:List Int) (vs:List Value),WellAll P h vs (ns.map WData.int)->IntsAre vs ns:=by
 intro ns;induction ns with
 | nil=>
  intro vs w;rw[uJa]at w;cases w;exact .nil
 | cons n ns ih=>
  intro vs w;rw[vWa]at w;cases w with
  | cons a b=>
   cases a;exact .cons _ _ (ih _ b)
theorem script_of{l:OpenLaw}(hn:l.most=some n){h:Heap}
  (hpre:l.row.toRowW.claim.pre args=true) (hwl:WellAll P h vals args):
  ∃a vs ns,vals=[Value.ref a]/\args=[WData.list (ns.map WData.int)]/\h.get? a=some { cls:=.type "list",data:=.seq vs.toArray }/\IntsAre vs ns/\ns.length<=n:=by
 have hsh:WShape.hasAll [] args [.list .int]=true:=(pre_splitW hpre).1;have hc:l.pre.holds [] { args:=args }=true:=(pre_splitW hpre).2;obtain⟨d,r,rfl,h1,h2⟩:=hasAllW_cons hsh;obtain rfl:=hasAllW_nil h2;obtain⟨xs,rfl,h3⟩:=hasW_list h1;obtain⟨ns,rfl⟩:=items_int h3;have hlen:ns.length<=n:=by
  unfold OpenLaw.pre at hc;have h4:(WTm.not (.lt (.lit (.int (n:Int))) (.len (.arg 0)))).holds [] { args:=[.list (ns.map .int)] }=true:=by
   have h4:=(holds_andW hc).1;rw[hn]at h4;exact h4
  have h5:=condW_of h4 (w_not (w_lt w_lit (w_len_list (w_arg rfl))));rw[vYa]at h5;refine Nat.le_of_not_lt fun q=>?_;have q':(n:Int) < ((ns.length:Nat):Int):=by lia
  first
   | (rw[decide_eq_true q']at h5;exact vDa h5 (by decide))
   | (simp at h5;lia)
 cases hwl with
 | cons w1 w2=>
  cases w2;cases w1 with
  | list ho hall=>exact⟨_,_,ns,rfl,rfl,ho,ints_of_wellAll ns _ hall,hlen⟩
theorem post_true(l:OpenLaw)(args:List WData):l.row.toRowW.claim.post args (.bool true) args=true:=
 postW_of (r:=l.row.toRowW) (X:=(true==true))
  (show WShape.has [] (.bool true) .bool=true by first | rfl | decide | simp[WShape.has,WShape.arms,WShape.armsAll])
  (show(WTm.eq .res (.lit (.bool true))).value [] { args:=args,res:=some (.bool true),after:=args }=some (.bool (true==true)) from w_eq_bool (w_res rfl) w_lit) rfl
theorem attach_call{l:OpenLaw}{d:DefRec}
  (hn:l.most=some n) (hdf:d.params.defaults=[])
  (call:∀(w:World) (s₀ s₁:Shared) (mg mb:Str->Option Value) (fa:Addr) (o:Obj) (pm cd doc:Value) (a:Addr) (vs:List Value) (ns:List Int),
   Ground q loose [] XP w s₀ mg mb s₁.heap->YP w s₁.heap->
   s₁.heap.get? fa=some o->o.data=.func (docDef d.name d.params d.body d.scope pm cd doc)->s₁.heap.CodeRec cd d.name->mg d.name=some (.ref fa)->
   s₁.heap.get? a=some { cls:=.type "list",data:=.seq vs.toArray }->IntsAre vs ns->ns.length<=n->s₁.gens=#[]->
   codeAny (model l.prog w) callerA (.call (.ref fa) ⟨[.ref a],[]⟩) (fun r s'=>r=.ok (.ret (.bool true))/\OldK s₁.heap s'.heap/\s'.os=s₁.os/\AllBare s'.gens) s₁):
  WalkO q loose XP YP l.row.toRowW d [] (fun f vs=>PySem.call f vs):=by
 intro w s₀ s₁ mg mb G Y fa o pm cd doc dV kV ho hd hcd hD hmg hg args vals as hpre hlay hrd hwl hlo;obtain rfl:dV=.none:=Dflts.none hD hdf;obtain rfl:kV=.none:=Dflts.noKw hD;obtain⟨a,vs,ns,rfl,rfl,hobj,hints,hlen⟩:=script_of hn hpre hwl;refine enter_call (codeAny_mono (call w s₀ s₁ mg mb fa o pm cd doc a vs ns G Y ho (fd_plain hd) hcd hmg hobj hints hlen hg) fun r s' hq=>?_);obtain⟨rfl,h2,h3,h4⟩:=hq;exact⟨.inl ⟨.bool true,.bool true,[],rfl,fun _=>rfl,.bool true,post_true l _,fun _=>⟨List.Pairwise.nil,fun _ hm=>(nomatch hm)⟩⟩,h2,h3,h4⟩
end Att
namespace L2
open PySem PySem.Spec PyProof.Rows
theorem VD:∀{vs:List Value} {ns:List Int},IntsAre vs ns->jd (ns.map V.int) vs
 | _,_,.nil=>.nil
 | _,_,.cons n t h=>.cons ⟨t,rfl⟩ (VD h)
def wP(H:Hp):Prop:=∀b,H b=none \/∃o xs,H b=some (.frz o (.lst xs))
theorem wQ{K:uXa}{s₁:Shared}{vs:List Value}{ns:List Int}
  (KX:K.In s₁.heap) (hns:s₁.heap.Ns mainGlobals mg) (hb:s₁.heap.Ns builtinsNs mb) (hbb:∀x:Str,x≠ "__name__" ->mb x=bootBuiltins x) (hlim:s₁.heap.NoLimit) (hg:s₁.gens=#[])
  (ha:s₁.heap.get? a=some { cls:=.type "list",data:=.seq vs.toArray }) (hi:IntsAre vs ns) (hl:ns.length<=sizeLine) (hr:Room k callerA)
  (F:∀base:Heap,K.In base->base.Ns mainGlobals mg->FnOk P w K mg base CX k fa fd [x] sp) (hbind:∀(s:Shared) (u:Value),BindsTo s fd ⟨[u],[]⟩ [(x,u)])
  (hsp:∀H:Hp,wP H->jr K H a (ns.map V.int)->sp [.ref a] H (fun v _=>v=.bl true) fun _ _ _=>False)
  (hCX:∀H e s',CX [] H s₁ (fun _ _ _=>False) e s'->False):
  codeAny (model P w) callerA (.call (.ref fa) ⟨[.ref a],[]⟩) (fun r s'=>r=.ok (.ret (.bool true))/\OldK s₁.heap s'.heap/\s'.os=s₁.os/\AllBare s'.gens) s₁:=by
 have rv:=VD hi;have lenV:=hi.length;have core:∀H:Hp,wP H->jr K H a (ns.map V.int)->J2 P w H s₁.heap->(∀b,H b≠none->b=a)->(H a≠none->K.lookup a=none)->
   codeAny (model P w) callerA (.call (.ref fa) ⟨[.ref a],[]⟩) (fun r s'=>r=.ok (.ret (.bool true))/\OldK s₁.heap s'.heap/\s'.os=s₁.os/\AllBare s'.gens) s₁:=by
  intro H hO hS hok hA hK;have base_of:∀{b:Addr} {o:Obj},s₁.heap.get? b=some o->H b=none->(zo s₁.heap H).get? b=some o:=fun e n=>ww e n;have noA:∀{b:Addr} {o:Obj} {es:Array DictEntry} {ep:Nat},s₁.heap.get? b=some o->o.data=.dict es ep->H b=none:=fun {b o es ep} e d=>by
   cases q:H b with
   | none=>rfl
   | some u=>
    have e':b=a:=hA b (by rw[q];simp);subst e';rw[ha]at e;cases e;have d':Data.seq vs.toArray _=Data.dict es ep:=d;cases d'
  have nsK:∀{b:Addr} {m:Str->Option Value},s₁.heap.Ns b m->(zo s₁.heap H).Ns b m:=fun {b m} ⟨o,es,ep,e,d,r⟩=>⟨o,es,ep,base_of e (noA e d),d,r⟩
  have hKb:K.In (zo s₁.heap H):=fun b o e=>base_of (KX b o e) (by
   cases q:H b with
   | none=>rfl
   | some u=>
    have e':b=a:=hA b (by rw[q];simp);subst e';rw[hK (by rw[q];simp)]at e;cases e)
  have hM:Mod K mg (zo s₁.heap H):=⟨hKb,nsK hns,⟨mb,nsK hb,hbb⟩,let ⟨mc,h1,h2⟩:=hlim;⟨mc,nsK h1,h2⟩⟩
  have e0:Env0 P w K mg (zo s₁.heap H) callerA [] s₁ H:=⟨rfl,hM,fun b o e=>QB e,Nat.le_of_eq (K3 _ _),trivial,fun b hb=>vDa (show b∈([]:List Addr) from hb) (by simp),hok,.of_eq hg⟩
  refine codeAny_mono ((F _ hKb (nsK hns)).run callerA [] s₁ H ⟨[.ref a],[]⟩ [.ref a] [.ref a] _ _ hr e0 (hbind s₁ (.ref a)) (.cons rfl .nil) (hsp H hO hS)) fun r s' h=>?_;cases r with
  | error e=>exact(hCX H e s' h).elim
  | ok fl=>
   cases fl with
   | next=>exact False.elim h
   | brk=>exact False.elim h
   | cont=>exact False.elim h
   | ret u=>
    obtain⟨v,H',os,bare,un,hok',r',q⟩:=h;have q':v=.bl true:=q;subst q';obtain rfl:u=Value.bool true:=r';refine⟨rfl,OldK.of_keep fun b o e=>?_,os,bare⟩;cases q:H b with
    | none=>exact un.keep b o e q (by intro z;exact vDa (show b∈([]:List Addr) from z) (by simp)) (by simp)
    | some u=>
     rcases hO b with z | ⟨ob,xs,z⟩
     ·rw[q]at z;cases z
     ·have z2:=un.frzs b ob _ z;obtain⟨e1,_⟩:=hok b _ z;obtain⟨e2,_⟩:=hok' b _ z2;rw[e]at e1;cases e1;exact e2
 cases hk:K.lookup a with
 | some o=>
  have e:=KX a o hk;rw[ha]at e;cases e;refine core (fun _=>none) (fun _=>.inl rfl) (.inr ⟨_,vs.toArray,_,hk,rfl,rfl,rfl,by rw[uLa,lenV];exact hl,by simpa using rv⟩) (fun b u z=>by have z':(none:Option HO)=some u:=z;cases z') (fun b z=>vDa rfl z) fun z=>vDa rfl z
 | none=>
  refine core (fun b=>if b=a then some (.frz { cls:=.type "list",data:=.seq vs.toArray } (.lst (ns.map V.int)))else none) (fun b=>?_) (.inl (.inr ⟨{ cls:=.type "list",data:=.seq vs.toArray },if_pos rfl⟩)) (fun b u z=>?_) (fun b z=>?_) fun _=>hk
  ·by_cases hb:b=a
   ·exact .inr ⟨_,_,if_pos hb⟩
   ·exact .inl (if_neg hb)
  ·by_cases hb:b=a
   ·have z':=(if_pos hb).symm.trans z;cases z';subst hb;exact⟨ha,by rw[vYa];exact hl,vs,_,rv,ha⟩
   ·have z':=(if_neg hb).symm.trans z;cases z'
  ·by_cases hb:b=a
   ·exact hb
   ·exact vDa (if_neg hb) z
noncomputable abbrev Fp{K:uXa}(_:K.In h):uXa:=K
theorem QR{l:PySem.W.OpenLaw}{n k:Nat}{q:Program}{loose:List Str}{XP:(Str->Option Value)->Heap->Prop}{YP:World->Heap->Prop}{d:DefRec}{K:Params->uXa}{CX:World->ze}{sp:World->Sp}{x:Str}
  (hn:l.most=some n) (hn2:n<=sizeLine) (hdf:d.params.defaults=[]) (hr:Room k callerA)
  (hY:∀(w:World) (h:Heap),YP w h->(K w.params).In h)
  (F:∀(w:World) (mg:Str->Option Value) (fa:Addr) (h:Heap),(K w.params).In h->h.Ns mainGlobals mg->mg d.name=some (.ref fa)->
   ∃fd:FuncData,(∀(s:Shared) (u:Value),BindsTo s fd ⟨[u],[]⟩ [(x,u)])/\
    ∀base:Heap,(K w.params).In base->base.Ns mainGlobals mg->FnOk l.prog w (K w.params) mg base (CX w) k fa fd [x] (sp w))
  (hsp:∀(w:World) (H:Hp) (a:Addr) (ns:List Int),ns.length<=n->wP H->jr (K w.params) H a (ns.map V.int)->sp w [.ref a] H (fun v _=>v=.bl true) fun _ _ _=>False)
  (hCX:∀(w:World) (H:Hp) (s:Shared) (e:Value) (s':Shared),CX w [] H s (fun _ _ _=>False) e s'->False):
  PySem.W.WalkO q loose XP YP l.row.toRowW d [] (fun f vs=>PySem.call f vs):=by
 refine Att.attach_call hn hdf fun w s₀ s₁ mg mb fa o pm cd doc a vs ns G Y ho hd hcd hmg hobj hints hlen hg=>?_;have KX:=hY w _ Y;obtain⟨fd,hb,hF⟩:=F w mg fa _ KX G.T.g hmg;exact wQ KX G.T.g G.T.b G.T.builtins G.T.nolimit hg hobj hints (wSa hlen hn2) hr hF hb (fun H hO hS=>hsp w H a ns hlen hO hS) fun H e s'=>hCX w H s₁ e s'
abbrev Jx:ze:=fun _ _ _ _ _ _=>False
abbrev E0:XK:=fun _ _ _=>False
theorem GK:JM Jx X E0:=fun _ _ _ _ _ _ _ h=>h.elim
structure Fun (K:uXa) (x qual:Str) (st:Stmt) (f:Addr) (fd:FuncData):Prop where
 ex:∃(oc:Value) (od:Option Addr) (kV doc pm:Value) (an:Option Addr) (cdv ct:Value) (osl:Array (Option Value)),
  fd=PySem.W.fnOf x qual (defArgs st) (defBody st) (defScope st) .none kV doc pm an cdv ct/\K.lookup f=some ⟨oc,od,.func fd,osl⟩/\PySem.W.codeIn K cdv qual=true
 kp:PySem.W.keepIn K (.ref f)=true
section
variable {P:Program} {w:World} {K:uXa} {mg:Str->Option Value} {base:Heap}
theorem Fun.ok{x qual:Str}{st:Stmt}{f:Addr}{fd:FuncData}{N ps:List Str}{k:Nat}{sp:Sp}(F:Fun K x qual st f fd)(S:FnScope N ps (defScope st))(len:∀vs H Q E,sp vs H Q E->vs.length=ps.length)
  (hbody:∀(cdv:Value) (A:Around) (outer:List Env) (s:Shared) (H:Hp) (vs:List V) (Q:VK) (E:XK),Room k (A.deeper (envOfC qual (defScope st) s.heap.objs.size f cdv))->sp vs H Q E->
   ∃t,jG (jS Jx P w K mg base N qual (defScope st) f cdv A outer s H E).nox (defBody st) t/\t { nx:=fun _ H'=>Q .non H',rt:=Q } (JY N vs) H):FnOk P w K mg base Jx (k+1) f fd ps sp:=by
 obtain⟨oc,od,kV,doc,pm,an,cdv,ct,osl,rfl,lk,hcd⟩:=F.ex;refine GF lk hcd S len fun A outer s H vs Q E hr hsp=>?_;obtain⟨t,h,q⟩:=hbody cdv A outer s H vs Q E hr hsp;exact⟨t,h.nox,q⟩
theorem Fun.binds{x qual:Str}{st:Stmt}{f:Addr}{fd:FuncData}{ps:List Str}(F:Fun K x qual st f fd)
  (h:∀(kV doc pm:Value) (an:Option Addr) (cdv ct:Value) (us:List Value),us.length=ps.length->bindArgs (PySem.W.fnOf x qual (defArgs st) (defBody st) (defScope st) .none kV doc pm an cdv ct) ⟨us,[]⟩=pure (ps.zip us)):jY K fd ps []:=by
 obtain⟨oc,od,kV,doc,pm,an,cdv,ct,osl,rfl,lk,hcd⟩:=F.ex;exact .all (h kV doc pm an cdv ct)
theorem Ki{x qual:Str}{st:Stmt}{f:Addr}{oc:Value}{od an:Option Addr}{osl:Array (Option Value)}{kV doc pm cdv ct:Value}(l:K.lookup f=some ⟨oc,od,.func (PySem.W.fnOf x qual (defArgs st) (defBody st) (defScope st) .none kV doc pm an cdv ct),osl⟩)
  (c:PySem.W.codeIn K cdv qual=true) (k:PySem.W.keepIn K (.ref f)=true):Fun K x qual st f (PySem.W.fnOf x qual (defArgs st) (defBody st) (defScope st) .none kV doc pm an cdv ct):=⟨⟨oc,od,kV,doc,pm,an,cdv,ct,osl,rfl,l,c⟩,k⟩
end
theorem Kj(h:n<=1000):n < sizeLine:=Nat.lt_of_le_of_lt h (by decide)
section
theorem pv(i:Nat)(hN:X.N[i]?=some x:=by rfl)(hv:zS X.env.scope x:=by first | exact Or.inl rfl | exact Or.inr (Or.inl rfl) | exact Or.inr (Or.inr rfl))(hd:(x==("__debug__" : Str))=false:=by decide)
  (hcd:(x==("__classdict__" : Str))=false:=by decide):PE X (.Name x pos) (Jr i):=Yj hN hv hd hcd
end
theorem yB{A B:Prop}(h:B):if false=true then A else B:=by
 rw[if_neg Bool.false_ne_true];exact h
theorem yC{A B:Prop}(h:A):if true=true then A else B:=by
 rw[if_pos rfl];exact h
def j3(H H':Hp):Prop:=∀b o,H b=some o->H' b=some o
theorem j3.refl(H:Hp):j3 H H:=fun _ _ h=>h
theorem j3.trans(a:j3 H H1)(b:j3 H1 H2):j3 H H2:=fun c o h=>b c o (a c o h)
theorem j3.free(e:j3 H H')(h:H' l=Option.none):H l=Option.none:=by
 cases q:H l with
 | none=>rfl
 | some o=>
  rw[e l o q]at h;cases h
theorem j3.seq{K:uXa}{H H':Hp}{a:Addr}{xs:List V}(e:j3 H H')(h:jr K H a xs):jr K H' a xs:=by
 rcases h with(h | ⟨o,h⟩) | h
 ·exact .inl (.inl (e _ _ h))
 ·exact .inl (.inr ⟨o,e _ _ h⟩)
 ·exact .inr h
def y8(env:Env):List (Str×NameKind)->List (Str×Addr)->List (Str×Addr)
 | [],cs=>cs
 | (n,k)::r,cs=>y8 env r (if k==.free then(match env.cells.lookup n with | some a=>(n,a)::cs | none=>cs)else cs)
theorem V4:∀{ns:List (Str×NameKind)} {cs:List (Str×Addr)},(∀x c,cs.lookup x=some c->env.cells.lookup x=some c)->∀x c,(y8 env ns cs).lookup x=some c->env.cells.lookup x=some c
 | [],_,h,x,c,e=>h x c e
 | (n,k)::r,cs,h,x,c,e=>by
  refine V4 (ns:=r) ?_ x c e;intro y d q;by_cases hk:(k==NameKind.free)=true
  ·rw[if_pos hk]at q;cases hl:env.cells.lookup n with
   | none=>rw[hl]at q;exact h y d q
   | some a=>
    rw[hl]at q;have q:((n,a)::cs).lookup y=some d:=q;rw[List.lookup_cons]at q;cases hy:(y==n)with
    | true=>
     rw[hy]at q;have e1:y=n:=by simpa using hy
     have e2:a=d:=by simpa using q
     rw[e1,hl,e2]
    | false=>rw[hy]at q;exact h y d q
  ·rw[if_neg hk]at q;exact h y d q
theorem VE:∀{ns:List (Str×NameKind)} {cs:List (Str×Addr)} {x:Str},(∃c,cs.lookup x=some c)->∃c,(y8 env ns cs).lookup x=some c
 | [],_,_,h=>h
 | (n,k)::r,cs,x,h=>by
  refine VE (ns:=r) ?_;by_cases hk:(k==NameKind.free)=true
  ·rw[if_pos hk];cases hl:env.cells.lookup n with
   | none=>exact h
   | some a=>
    show∃c,((n,a)::cs).lookup x=some c;rw[List.lookup_cons];cases hy:(x==n)with
    | true=>exact⟨a,rfl⟩
    | false=>exact h
  ·rw[if_neg hk];exact h
theorem ZQ:∀{ns:List (Str×NameKind)} {cs:List (Str×Addr)} {x:Str},(x,NameKind.free)∈ns->(∃c,env.cells.lookup x=some c)->∃c,(y8 env ns cs).lookup x=some c
 | (n,k)::r,cs,x,hm,hc=>by
  rcases uTa hm with e | hm
  ·cases e;obtain⟨c,hc⟩:=hc;refine VE (ns:=r) ?_;rw[if_pos (by rfl)];rw[hc];exact⟨c,by rw[List.lookup_cons];simp⟩
  ·exact ZQ (ns:=r) hm hc
theorem gE(h:∀y∈scope.names,y.2=.free->∃c,env.cells.lookup y.1=some c):closureFor scope env=pure (y8 env scope.names []):=by
 unfold closureFor;have go:∀(ns:List (Str×NameKind)) (cs:List (Str×Addr)),(∀y∈ns,y.2=.free->∃c,env.cells.lookup y.1=some c)->
   (forIn ns cs fun(x:Str×NameKind) (r:List (Str×Addr))=>(match x with
    | (name,kind)=>if (kind==NameKind.free)=true then(do let a<-cellOf env name;pure (ForInStep.yield ((name,a)::r)))else pure (ForInStep.yield r):Sem (ForInStep (List (Str×Addr)))))=pure (y8 env ns cs):=by
  intro ns;induction ns with
  | nil=>intro cs _;rfl
  | cons p r ih=>
   obtain⟨n,k⟩:=p;intro cs hh;rw[List.forIn_cons];by_cases hk:(k==NameKind.free)=true
   ·obtain⟨c,hc⟩:=hh (n,k) wNa (by simpa using hk);have hc:env.cells.lookup n=some c:=hc;have e1:cellOf env n=pure c:=by unfold cellOf;rw[hc]
    have e2:y8 env ((n,k)::r) cs=y8 env r ((n,c)::cs):=by
     show y8 env r (if (k==NameKind.free)=true then _ else _)=_;rw[if_pos hk,hc]
    dsimp only;rw[if_pos hk,e1,e2,<-ih ((n,c)::cs) fun y hy=>hh y (List.mem_cons_of_mem _ hy)];rfl
   ·have e2:y8 env ((n,k)::r) cs=y8 env r cs:=by
     show y8 env r (if (k==NameKind.free)=true then _ else _)=_;rw[if_neg hk]
    dsimp only;rw[if_neg hk,e2,<-ih cs fun y hy=>hh y (List.mem_cons_of_mem _ hy)];rfl
 exact(congrArg (fun m=>m >>= fun r=>(pure r:Sem (List (Str×Addr)))) (go scope.names [] h)).trans rfl
def Cx.comp(X:Cx)(N':List Str)(scope:Scope)(s3:Shared)(H3:Hp)(ex':List Addr):Cx:=
 { X with N:=N',s₀:=s3,H₀:=H3,env:=compEnvC scope (y8 X.env scope.names []) s3.heap.objs.size X.env,outer:=X.stack,stack:=X.stack,ex:=ex',fn:=fun _=>false,pn:=[],xe:=fun _ _=>False }
inductive Caps (X:Cx) (scope:Scope):List (Str×Nat)->Prop
 | nil:Caps X scope []
 | cons {y:Str} {j:Nat} {r:List (Str×Nat)}:X.N[j]?=some y->(X.env.kindOf y=some .cell \/ X.env.kindOf y=some .free)->scope.names.lookup y=some .free->Caps X scope r->Caps X scope ((y,j)::r)
theorem Caps.get:∀{caps:List (Str×Nat)} {k:Nat} {y:Str} {j:Nat},Caps X scope caps->caps[k]?=some (y,j)->
  X.N[j]?=some y/\(X.env.kindOf y=some .cell \/ X.env.kindOf y=some .free)/\scope.names.lookup y=some .free
 | _,_,_,_,.nil,e=>by simp at e
 | _,0,_,_,.cons a b c _,e=>by simp at e;obtain⟨rfl,rfl⟩:=e;exact⟨a,b,c⟩
 | _,k+1,_,_,.cons _ _ _ t,e=>Caps.get (k:=k) t (by simpa using e)
noncomputable abbrev cN(own:List Str)(caps:List (Str×Nat)):List Str:=own++caps.map (·.1)
noncomputable abbrev YC(own:List Str)(caps:List (Str×Nat))(U:St):St:=own.map (fun _=>none)++caps.map fun p=>(U[p.2]?).join
def yZ(X:Cx)(ifs:List Expr)(t:TT):Prop:=
 ∀(pins:List (Addr×Obj)) (s:Shared) (U:St) (H:Hp) (Q:Bool->Hp->Prop),Inv X pins U H s->t U H Q->
  wpAny (model X.prog X.w) X.A (forIn ifs true fun c r=>if r=true then do let ok<-isTrue c X.env (eval c X.env);pure (ForInStep.yield ok)else pure (ForInStep.yield r)) (TP X pins U Q) X.xe s
def cH:TT:=fun _ H Q=>Q true H
theorem QS:yZ X [] cH:=fun _ _ _ H _ I h=>wpAny_tests_nil ⟨H,I,h⟩
theorem QT(h:PT X c t):yZ X [c] t:=fun pins s U H Q I q=>wpAny_tests_one (h pins s U H Q I q)
theorem zZ(h:(relabel scope env).names.lookup x=some k):∃k0,scope.names.lookup x=some k0/\(k=k0 \/ (k0=.free/\k=.cell)):=by
 have go:∀ns:List (Str×NameKind),(ns.map fun(n,k)=>if (k==NameKind.free&&env.scope.kind==.function&&env.kindOf n==some .cell)then(n,NameKind.cell)else(n,k)).lookup x=some k->
   ∃k0,ns.lookup x=some k0/\(k=k0 \/ (k0=.free/\k=.cell)):=by
  intro ns;induction ns with
  | nil=>intro q;simp at q
  | cons p r ih=>
   obtain⟨n,k1⟩:=p;intro q;have q:List.lookup x ((if (k1==NameKind.free&&env.scope.kind==.function&&env.kindOf n==some .cell)=true then(n,NameKind.cell)else(n,k1))::(r.map fun(n,k)=>if (k==NameKind.free&&env.scope.kind==.function&&env.kindOf n==some .cell)then(n,NameKind.cell)else(n,k)))=some k:=q;by_cases hc:(k1==NameKind.free&&env.scope.kind==.function&&env.kindOf n==some .cell)=true
   ·rw[if_pos hc,List.lookup_cons]at q;rw[List.lookup_cons];cases hx:(x==n)with
    | true=>
     rw[hx]at q;have e:NameKind.cell=k:=by simpa using q
     refine⟨k1,rfl,.inr ⟨?_,e.symm⟩⟩;simp only[Bool.and_eq_true]at hc;simpa using hc.1.1
    | false=>rw[hx]at q;exact ih q
   ·rw[if_neg hc,List.lookup_cons]at q;rw[List.lookup_cons];cases hx:(x==n)with
    | true=>
     rw[hx]at q;have e:k1=k:=by simpa using q
     exact⟨k1,rfl,.inl e.symm⟩
    | false=>rw[hx]at q;exact ih q
 exact go scope.names h
def uJ(k:Nat)(J:It)(U0:St)(g:TG)(tc:TT)(te:TE)(Qv:VK)(W:Nat->Nat->List V->Hp->Prop):Prop:=∀i m vs H,W i m vs H->
  (J.stop i H/\vs.length<=sizeLine/\∀D,H D=none->Qv (.ref D) (upd H D (.lst vs))) \/
  (J.go i H/\vs.length < sizeLine/\∃N:List V->Hp->Prop,(∀vs' H',N vs' H'->∃m',m' < m/\W (i+1) m' vs' H')/\
   ∀x H',J.yld i H x H'->g x U0 H' fun U2 H2=>U2.drop k=U0.drop k/\tc U2 H2 fun b H3=>if b=true then te U2 H3 fun y H4=>N (vs++[y]) H4 else N vs H3)
section
theorem QU(hcell:∀y∈scope.names,y.2≠.cell)(hkind:scope.kind=.function)
  (hfr:∀y∈scope.names,y.2=.free->X.env.kindOf y.1=some .cell \/ X.env.kindOf y.1=some .free)
  (I:Inv X pins U H s2) (hf:∀b∈ex',b < s2.heap.objs.size/\Ja X pins H b):(X.comp (cN own caps) scope s2 H ex').Ok:=by
 have cin:∀x c,(y8 X.env scope.names []).lookup x=some c->X.env.cells.lookup x=some c:=V4 fun _ _ e=>by simp at e
 refine⟨I.ok.mod,hkind,I.ok.glob,I.ok.blt,wPa _,fun x y c h1 h2=>I.ok.inj x y c (cin x c h1) (cin y c h2),fun x hx=>?_,fun _ _ z=>(by cases z),I.ok.hd,I.ok.frames,.inl rfl,fun b hb=>⟨wTa (hf b hb).1,fun x c h=>(hf b hb).2.2.2.2.2.1 x c (cin x c h)⟩,
  I.bs,wSa I.ok.bsz I.sz,fun b o e hb=>?_,fun b hb hs=>?_,I.stack,I.stkFree⟩
 ·have q:∃k,(relabel scope X.env).names.lookup x=some k/\(k=.cell \/ k=.free):=by
   rcases hx with hx | hx
   ·exact⟨_,hx,.inl rfl⟩
   ·exact⟨_,hx,.inr rfl⟩
  obtain⟨k,q,hk⟩:=q;obtain⟨k0,q0,hk0⟩:=zZ q;have m0:=PySem.mem_of_lookup q0;have e0:k0=.free:=by
   rcases hk0 with e | e
   ·rcases hk with z | z
    ·exact vDa (e.symm.trans z) (hcell _ m0)
    ·exact e.symm.trans z
   ·exact e.1
  subst e0;exact ZQ m0 (I.ok.has x (hfr _ m0 rfl))
 ·rcases(hf b hb).2.2.2.2.1 with z | z
  ·exact I.ok.noex b o e z
  ·exact vDa (Nat.lt_of_lt_of_le (wLa e) (wSa I.ok.bsz z)) (wUa _)
 ·rcases uTa (I.stkSub b hs)with z | z
  ·exact(hf b hb).2.2.1 z
  ·exact(hf b hb).2.2.2.1 z
theorem GL(hcell:∀y∈scope.names,y.2≠.cell)(hkind:scope.kind=.function)
  (hfr:∀y∈scope.names,y.2=.free->X.env.kindOf y.1=some .cell \/ X.env.kindOf y.1=some .free) (hcap:Caps X scope caps)
  (I:Inv X pins U H s2) (hf:∀b∈ex',b < s2.heap.objs.size/\Ja X pins H b) {t:Nat} (hn:h1.Ns s2.heap.objs.size m) (hk:∀b o,s2.heap.get? b=some o->h1.get? b=some o):
  Inv (X.comp (cN own caps) scope s2 H ex') [] (YC own caps U) H { s2 with heap:=h1,toks:=t }:=by
 have cin:∀x c,(y8 X.env scope.names []).lookup x=some c->X.env.cells.lookup x=some c:=V4 fun _ _ e=>by simp at e
 have ok:=QU (own:=own) (caps:=caps) hcell hkind hfr I hf;refine⟨ok,rfl,I.bare,Un.kept hk,⟨m,hn,fun i x v e1 e2 e3=>?_⟩,fun x c e=>?_,I.hok.fresh (wPa _),fun x c e=>I.freeC x c (cin x c e),fun p hp=>vDa (show p∈([]:List (Addr×Obj)) from hp) (by simp),I.hok.kept hk,by simp[Cx.comp,cN,YC]⟩
 ·by_cases hi:i < own.length
  ·have e2:(own.map (fun _=>(none:Option V))++caps.map fun p=>(U[p.2]?).join)[i]?=some (some v):=e2;rw[uRa (by simpa using hi),uAa]at e2;cases q:own[i]? with
   | none=>rw[q]at e2;cases e2
   | some _=>rw[q]at e2;cases e2
  ·have e2:(own.map (fun _=>(none:Option V))++caps.map fun p=>(U[p.2]?).join)[i]?=some (some v):=e2;have e1:(own++caps.map (·.1))[i]?=some x:=e1;rw[List.getElem?_append_right (by simpa using hi),uAa]at e2;rw[List.getElem?_append_right (by simpa using hi),uAa]at e1;rw[vYa]at e2;cases q:caps[i - own.length]? with
   | none=>rw[q]at e1;cases e1
   | some p=>
    obtain⟨y,j⟩:=p;rw[q]at e1 e2;have e1:y=x:=vFa e1;subst e1;have e2:(U[j]?).join=some v:=vFa e2;obtain⟨a1,a2,a3⟩:=hcap.get q;have sj:U[j]?=some (some v):=by
     cases z:U[j]? with
     | none=>rw[z]at e2;cases e2
     | some z'=>rw[z]at e2;exact congrArg some e2
    obtain⟨m0,hn0,hl0⟩:=I.loc;have vis:zS X.env.scope y:=by
     rcases a2 with z | z
     ·exact .inr (.inl z)
     ·exact .inr (.inr z)
    obtain⟨u,r,l⟩:=hl0 j y v a1 sj vis;refine⟨u,r,.inr ⟨?_,?_⟩⟩
    ·rcases e3 with z | z
     ·obtain⟨k0,q0,hk0⟩:=zZ z;rw[a3]at q0;cases q0;rcases hk0 with z' | z'
      ·cases z'
      ·cases z'.2
     ·exact z
    ·rcases l with⟨hk',_⟩ | ⟨_,c,hc,z⟩
     ·rcases a2 with z | z <;> rw[hk']at z <;> cases z
     ·obtain⟨c',hc'⟩:=ZQ (cs:=[]) (PySem.mem_of_lookup a3) ⟨c,hc⟩;have:=cin y c' hc';rw[hc]at this;cases this;obtain⟨o,ho,hd⟩:=z;exact⟨c,hc',o,hk c o ho,hd⟩
 ·obtain⟨v,o,ho,hd⟩:=I.cell x c (cin x c e);exact⟨v,o,hk c o ho,hd⟩
end
section
theorem J2.adopt(x:J2 P w H h)(hn:H D=none)(hl:vs.length<=sizeLine)(r:jd vs ys)(e:h.get? D=some { cls:=.type "list",data:=.seq ys.toArray k }):J2 P w (upd H D (.lst vs)) h:=fun b u q=>by
 by_cases hb:b=D
 ·subst hb;rw[jc]at q;cases q;exact⟨hl,ys,k,r,e⟩
 ·rw[j7 hb]at q;exact(x b u q).stay (fun _ _ _ z=>z) (fun c z=>by rw[j7 (jo z hn)];exact z) fun c xs _ z=>by rw[j7 (jo z hn)];exact z
theorem Kk(I:Inv X pins U H s2)(hD:D < s2.heap.objs.size)(fD:Ja X pins H D)(hf:∀b∈fp,Ja X pins H b)
  (J':Inv (X.comp N' scope s2 H (D::fp)) [] U' H' s') (hn:H' D=none) (hl:vs.length<=sizeLine) (r:jd vs ys) (e:s'.heap.get? D=some { cls:=.type "list",data:=.seq ys.toArray k }):
  Inv X pins U (upd H' D (.lst vs)) s':=by
 have u:Un (jL X.stack) (D::fp) H H' s2.heap s'.heap:=J'.base;have nD:∀b,b∉D::fp->b≠D:=fun b hb z=>hb (by rw[z];exact wNa);refine I.call' (ch:=D::fp) J'.os ⟨u.keep,u.slot,fun b o q n hx=>?_,u.there,fun b xs q=>?_,fun b o v q=>?_,fun b ps q=>?_⟩ (J'.hok.adopt hn hl r e) J'.bare fun b hb=>?_
 ·rw[j7 (nD b hx)];exact u.free b o q n hx
 ·rw[j7 (jo q fD.1)];exact u.tups b xs q
 ·rw[j7 (jo q fD.1)];exact u.frzs b o v q
 ·rw[j7 (jo q fD.1)];exact u.tbls b ps q
 ·have F:Ja X pins H b:=by
   rcases uTa hb with z | z
   ·rw[z];exact fD
   ·exact hf b z
  exact⟨F.2.2.2.1,F.2.1,F.2.2.2.2.1,F.2.2.2.2.2⟩
theorem QV{C:Addr}(hc:X.calm=true)
  (hg:∀s3 H3 ex',PG (X.comp (cN own caps) scope s3 H3 ex') tg g) (ht:∀s3 H3 ex',yZ (X.comp (cN own caps) scope s3 H3 ex') ifs tc) (he:∀s3 H3 ex',PE (X.comp (cN own caps) scope s3 H3 ex') elt te)
  (I:Inv X pins U H s2) (hD:D < s2.heap.objs.size) (fD:Ja X pins H D) (nDf:D∉fp) (hfl:∀b∈fp,b < s2.heap.objs.size) (hf:∀b∈fp,Ja X pins H b) (T:Turn X.prog X.w X.K tg J fp it tn) (turn:uJ own.length J (YC own caps U) g tc te Qv W)
  (R:Result->Shared->Prop) (hR:∀s',(∃H' m,Inv X pins U H' s'/\s'.heap.Ns s2.heap.objs.size m/\Ja X pins H' s2.heap.objs.size/\Qv (.ref D) H')->R (.ok .next) s')
  (n:Nat) (s4:Shared) (st:∃i vs H' ys k,Inv (X.comp (cN own caps) scope s2 H (D::fp)) [] (YC own caps U) H' s4/\tn i s4.heap/\(∀b∈fp,H' b=none)/\H' D=none/\
   s4.heap.get? D=some { cls:=.type "list",data:=.seq (ys:List Value).toArray k }/\jd vs ys/\W i n vs H'):
  codeAny (model X.prog X.w) X.A (.compLoop (.ListComp elt [⟨tg,iter,ifs,0⟩] scope pos) 0 (.ref it) (.ref D) (X.comp (cN own caps) scope s2 H (D::fp)).env) R s4:=by
 let Y:=X.comp (cN own caps) scope s2 H (D::fp)
 have stat:∀{H':Hp},H' D=none->(∀b∈fp,H' b=none)->∀s':Shared,∀U',Inv Y [] U' H' s'->∀b∈D::fp,Ja Y [] H' b:=fun {H'} h0 h1 s' U' I' b hb=>by
  have hb':b < s2.heap.objs.size:=by
   rcases uTa hb with z | z
   ·rw[z];exact hD
   ·exact hfl b z
  refine⟨?_,wTa hb',I'.ok.exfs b hb,.inl hb,(I'.ok.exf b hb).2,fun p hp=>vDa (show p∈([]:List (Addr×Obj)) from hp) (by simp)⟩;rcases uTa hb with z | z
  ·rw[z];exact h0
  ·exact h1 b z
 refine codeAny_loop rfl (fun n s'=>∃i vs H' ys k,Inv Y [] (YC own caps U) H' s'/\tn i s'.heap/\(∀b∈fp,H' b=none)/\H' D=none/\
   s'.heap.get? D=some { cls:=.type "list",data:=.seq (ys:List Value).toArray k }/\jd vs ys/\W i n vs H') ?_ n st
 rintro n s3 ⟨i,vs,H3,ys,k,I3,st3,fr3,n3,g3,r3,w3⟩;show wpAny _ _ ((compTurn (.ListComp elt [⟨tg,iter,ifs,0⟩] scope pos) 0 (.ref it) (.ref D) Y.env).onRaise (fun x=>do noteFrame x Y.env;theTreesLotGoes x)) _ _ s3;refine wpAny_noted ?_;rw[compTurn_list];have F0:=stat n3 fr3 s3 _ I3;have pinD:∀{U':St} {H':Hp} {s':Shared} {ps:List (Addr×Obj)} {zs:List Value} {kk:Nat},Inv Y ps U' H' s'->H' D=none->s'.heap.get? D=some { cls:=.type "list",data:=.seq zs.toArray kk }->Inv Y (ps++[(D,{ cls:=.type "list",data:=.seq zs.toArray kk })]) U' H' s':=fun {U' H' s' ps zs kk} I' hn hg'=>
  I'.pins_of fun p hp=>(uWa hp).elim (fun z=>I'.pin p (vJa _ z)) fun z=>by
   have e:p=(D,{ cls:=.type "list",data:=.seq zs.toArray kk }):=by simpa using z
   subst e;have f:=(stat n3 fr3 s3 _ I3) D wNa;exact⟨hg',hn,f.2.1,f.2.2.1,fun v z=>by cases z⟩
 have I3p:=pinD I3 n3 g3;have F3:∀b∈fp,Ja Y ([]++[(D,{ cls:=.type "list",data:=.seq ys.toArray k })]) H3 b:=fun b hb=>by
  obtain⟨f0,f1,f2,f3,f4,f5⟩:=F0 b (wMa _ hb);refine⟨f0,f1,f2,f3,f4,fun p hp z=>?_⟩;have e:p=(D,{ cls:=.type "list",data:=.seq ys.toArray k }):=by simpa[Y,Cx.comp]using hp
  subst e;exact nDf (by rw[show D=b from z];exact hb)
 rcases turn i n vs H3 w3 with⟨stop,hl,q⟩ | ⟨go,hl,N,hN,step⟩
 ·refine wAa (vOa (wAa (wCa (T.done Y rfl rfl rfl hc i _ s3 _ H3 (fun _ _=>False) I3p F3 st3 stop) (fun r s5 h5=>?_) fun _ _ z=>z.elim)));obtain⟨hr,I5p⟩:=h5;subst hr;refine wBa (hR s5 ?_);have g5:s5.heap.get? D=some { cls:=.type "list",data:=.seq ys.toArray k }:=(I5p.pin (D,_) (by simp)).1;have I5:Inv Y [] (YC own caps U) H3 s5:=I5p.unpinned (pins:=[]);obtain⟨m5,hm5,_⟩:=id I5.loc;refine⟨_,m5,Kk I hD fD hf I5 n3 hl r3 g5,hm5,I.fpOk (wPa _) ?_,q D n3⟩;rw[j7 (Nat.ne_of_gt hD)];exact I5.free
 ·refine wAa (vOa (wAa (wCa (T.item Y rfl rfl rfl hc i _ s3 _ H3 (fun _ _=>False) I3p F3 st3 go) (fun r s5 h5=>?_) fun _ _ z=>z.elim)));obtain⟨u,hr,h5⟩:=h5;subst hr;refine wAa (wCa h5 (fun _ s6 h6=>?_) fun _ _ z=>z.elim);obtain⟨x,H6,I6,r6,y6,st6,fr6⟩:=h6;have F6:∀b∈fp,Ja Y ([]++[(D,{ cls:=.type "list",data:=.seq ys.toArray k })]) H6 b:=fun b hb=>⟨fr6 b hb,(F3 b hb).2⟩
  have I6':=I6.pinned F6 (T.obj _ _ st6);refine wAa (wCa (hg s2 H (D::fp) _ s6 _ H6 x u _ I6' r6 (step x H6 y6)) (fun _ s7 h7=>?_) fun _ _ z=>z.elim);obtain⟨U7,H7,I7,d7,q7⟩:=h7;refine wAa (wCa (ht s2 H (D::fp) _ s7 U7 H7 _ I7 q7) (fun b s8 h8=>?_) fun _ _ z=>z.elim);obtain⟨H8,I8,q8⟩:=h8;have fin:∀{s9:Shared} {H9:Hp} {vs':List V} {zs:List Value} {kk:Nat},Inv Y [] U7 H9 s9->tn (i+1) s9.heap->(∀b∈fp,H9 b=none)->H9 D=none->s9.heap.get? D=some { cls:=.type "list",data:=.seq zs.toArray kk }->jd vs' zs->N vs' H9->
    ∃m,m < n/\∃i vs H' ys k,Inv Y [] (YC own caps U) H' s9/\tn i s9.heap/\(∀b∈fp,H' b=none)/\H' D=none/\s9.heap.get? D=some { cls:=.type "list",data:=.seq (ys:List Value).toArray k }/\jd vs ys/\W i m vs H':=fun {s9 H9 vs' zs kk} I9 st9 fr9 n9 g9 r9 w9=>by
   obtain⟨m',hm,w'⟩:=hN vs' H9 w9;refine⟨m',hm,i+1,vs',H9,zs,kk,?_,st9,fr9,n9,g9,r9,w'⟩;have l9:U7.length=(YC own caps U).length:=I9.len.trans (by simp[Y,Cx.comp,cN,YC]);refine I9.weak l9.symm fun j v e=>?_;by_cases hj:j < own.length
   ·rw[uRa (by simpa using hj),uAa]at e;cases q:own[j]? with
    | none=>rw[q]at e;cases e
    | some _=>rw[q]at e;cases e
   ·have z:=congrArg (fun l=>l[j - own.length]?) d7;simp only[List.getElem?_drop]at z;have ej:own.length+(j - own.length)=j:=by omega
    rw[ej]at z;exact z.trans e
  have pins8:∀{s9:Shared} {H9:Hp},Inv Y ([]++[(D,{ cls:=.type "list",data:=.seq ys.toArray k })]++zV fp s6.heap) U7 H9 s9->tn (i+1) s9.heap/\(∀b∈fp,H9 b=none)/\H9 D=none/\s9.heap.get? D=some { cls:=.type "list",data:=.seq ys.toArray k }:=fun {s9 H9} I9=>by
   refine⟨T.keep _ _ _ st6 fun b hb o e=>(I9.pin (b,o) (vJa _ (vJa _ (Y7 hb e)))).1,fun b hb=>?_,(I9.pin (D,{ cls:=.type "list",data:=.seq ys.toArray k }) (vJa _ (vIa _ (by simp)))).2.1,(I9.pin (D,{ cls:=.type "list",data:=.seq ys.toArray k }) (vJa _ (vIa _ (by simp)))).1⟩;obtain⟨o,e,d⟩:=T.obj _ _ st6 b hb;exact(I9.pin (b,o) (vJa _ (vJa _ (Y7 hb e)))).2.1
  cases b with
  | false=>
   obtain⟨a1,a2,a3,a4⟩:=pins8 I8;exact wBa ⟨rfl,fin (I8.unpinned.unpinned) a1 a2 a3 a4 r3 q8⟩
  | true=>
   refine wAa (wAa (wCa (he s2 H (D::fp) _ s8 U7 H8 _ I8 q8) (fun y s9 h9=>?_) fun _ _ z=>z.elim));obtain⟨v9,H9,I9,r9,q9⟩:=h9;obtain⟨a1,a2,a3,a4⟩:=pins8 I9;have hlz:ys.toArray.size<=sizeLine:=by
    have:=r3.length;simp only[List.size_toArray];omega
   refine wAa (wpAny_list_append_plain (hsz:=hlz) ⟨k,a4⟩ fun h' hp sb=>wBa (wBa ⟨rfl,?_⟩));obtain⟨k',g'⟩:=hp;have I9':Inv Y [] U7 H9 s9:=I9.unpinned.unpinned;have F9:=stat a3 a2 s9 _ I9' D wNa;obtain⟨f0,f1,f2,f3,f4,f5⟩:=F9;have I10:Inv Y [] U7 H9 { s9 with heap:=h' }:=I9'.turned (t':=s9.toks) (fun b o hb e=>(sb.2 b hb).trans e) f0 f1 f3 f4 f5;refine fin (zs:=ys++[y]) (kk:=k') I10 (T.keep _ _ _ a1 fun b hb o e=>(sb.2 b fun z=>nDf (by rw[<-z];exact hb)).trans e) a2 a3 ?_ (r3.append (.cons r9 .nil)) q9;rw[g'];simp
end
structure CScope (X:Cx) (scope:Scope):Prop where
 kind:scope.kind=.function
 loc:(scope.names.all fun y=>y.2 != .local||scope.names.lookup y.1==some .local)=true
 nocell:(scope.names.all fun y=>y.2 != .cell)=true
 free:(scope.names.all fun y=>y.2 != .free||X.env.scope.names.lookup y.1==some .cell||X.env.scope.names.lookup y.1==some .free)=true
section
variable {X:Cx} {elt tg iter:Expr} {ifs:List Expr} {scope:Scope} {pos:Pos} {own:List Str} {caps:List (Str×Nat)} {g:TG} {tc:TT} {te:TE} {pins:List (Addr×Obj)} {U:St} {H:Hp} {s2:Shared} {J:It} {fp:List Addr} {it:Addr} {tn:Nat->Heap->Prop} {Qv:VK}
theorem CScope.l(S:CScope X scope):∀x∈scope.names,x.2=.local->scope.names.lookup x.1=some .local:=fun x hx e=>by
 have:=List.all_eq_true.mp S.loc x hx;rw[e]at this;simpa using this
theorem CScope.c(S:CScope X scope):∀x∈scope.names,x.2≠.cell:=fun x hx e=>by
 have:=List.all_eq_true.mp S.nocell x hx;rw[e]at this;simp at this
theorem CScope.f(S:CScope X scope):∀y∈scope.names,y.2=.free->X.env.kindOf y.1=some .cell \/ X.env.kindOf y.1=some .free:=fun x hx e=>by
 have:=List.all_eq_true.mp S.free x hx;rw[e]at this;simpa[Env.kindOf]using this
theorem gG{E:Value->Shared->Prop}{RR:Value->Addr->Result->Shared->Prop}(S:CScope X scope)(hcap:Caps X scope caps)(hc:X.calm=true)
  (hg:∀s3 H3 ex',PG (X.comp (cN own caps) scope s3 H3 ex') tg g) (ht:∀s3 H3 ex',yZ (X.comp (cN own caps) scope s3 H3 ex') ifs tc) (he:∀s3 H3 ex',PE (X.comp (cN own caps) scope s3 H3 ex') elt te)
  (I:Inv X pins U H s2) (T:Turn X.prog X.w X.K tg J fp it tn) (st:tn 0 s2.heap) (hf:∀b∈fp,Ja X pins H b)
  (w:∃W,(∃m,W 0 m [] H)/\uJ own.length J (YC own caps U) g tc te Qv W)
  (hRR:∀D C s' H' m,Inv X pins U H' s'->s'.heap.Ns C m->Ja X pins H' C->Qv (.ref D) H'->RR (.ref D) C (.ok .next) s'):
  wpAny (model X.prog X.w) X.A (newList []) (fun acc s3=>wpAny (model X.prog X.w) X.A (newFunctionEnv scope X.env.globals (y8 X.env scope.names []) [] X.env.qual none .none (some X.env)) (fun cenv s4=>
   codeAny (model X.prog X.w) X.A (.compStart (.ListComp elt [⟨tg,iter,ifs,0⟩] scope pos) 0 (.ref it) acc { cenv with scope:=relabel scope X.env }) (RR acc cenv.locals) s4) E s3) E s2:=by
 obtain⟨W,⟨m0,w0⟩,turn⟩:=w;refine vTa (wpAny_newFunctionEnv S.c (by intro y hy;simp at hy) (fun h1 hns hsb=>?_) S.kind);have hlt:∀b∈fp,b < s2.heap.objs.size:=fun b hb=>by
  obtain⟨o,e,_⟩:=T.obj _ _ st b hb;exact wLa e
 let s3:Shared:={ s2 with heap:=s2.heap.push { cls:=.type "list",dict:=none,data:=.seq ([]:List Value).toArray } }
 have e3:s3.heap.objs.size=s2.heap.objs.size+1:=Heap.size_push ..;have I3:Inv X pins U H s3:=I.kept (t':=s2.toks) fun b o e=>wIa _ e;have fD:Ja X pins H s2.heap.objs.size:=I.fpOk (wPa _) (I.hok.fresh (wPa _));have hk:∀b o,s3.heap.get? b=some o->h1.get? b=some o:=fun b o e=>hsb.extBut b o (wTa (wLa e)) (wIa _ e);have hD:s2.heap.objs.size < s3.heap.objs.size:=by rw[e3];exact Nat.lt_succ_self _
 have hl3:∀b∈fp,b < s3.heap.objs.size:=fun b hb=>Nat.lt_trans (hlt b hb) hD;have I4:Inv (X.comp (cN own caps) scope s3 H (s2.heap.objs.size::fp)) [] (YC own caps U) H { s3 with heap:=h1,toks:=s2.toks+([]:List (Str×Value)).length }:=by
  refine GL S.c S.kind S.f hcap I3 (fun b hb=>?_) hns hk;rcases uTa hb with z | z
  ·rw[z];exact⟨hD,fD⟩
  ·exact⟨hl3 b z,hf b z⟩
 have st4:tn 0 h1:=T.keep _ _ _ st fun b hb o e=>hk b o (wIa _ e);have g4:h1.get? s2.heap.objs.size=some { cls:=.type "list",data:=.seq ([]:List Value).toArray }:=hk _ _ (wJa _ rfl);have loop:=QV (C:=0) (iter:=iter) (pos:=pos) hc hg ht he I3 hD fD (fun z=>wUa _ (hlt _ z)) hl3 hf T turn (RR (.ref s2.heap.objs.size) s3.heap.objs.size) (fun s' ⟨H',m,a1,a2,a3,a4⟩=>hRR _ _ s' H' m a1 a2 a3 a4) m0
  { s3 with heap:=h1,toks:=s2.toks+([]:List (Str×Value)).length } ⟨0,[],H,[],0,I4,st4,fun b hb=>(hf b hb).1,fD.1,g4,.nil,w0⟩
 exact codeAny_compStart_list loop (T.self _ 0 _ _ _ st4 loop)
def aG(own:List Str)(caps:List (Str×Nat))(wi:TI)(g:TG)(tc:TT)(te:TE):TE:=fun U H Q=>wi U H fun J H1=>∃W,(∃m,W 0 m [] H1)/\uJ own.length J (YC own caps U) g tc te Q W
theorem cJ(own:List Str)(caps:List (Str×Nat))(S:CScope X scope)(hcap:Caps X scope caps)(hc:X.calm=true)(hi:PI X tg iter wi)
  (hg:∀s3 H3 ex',PG (X.comp (cN own caps) scope s3 H3 ex') tg g) (ht:∀s3 H3 ex',yZ (X.comp (cN own caps) scope s3 H3 ex') ifs tc) (he:∀s3 H3 ex',PE (X.comp (cN own caps) scope s3 H3 ex') elt te)
  (hs:∀x,foldedSetIterable iter X.env x=pure x:=by intro _;rfl):PE X (.ListComp elt [⟨tg,iter,ifs,0⟩] scope pos) (aG own caps wi g tc te):=by
 intro pins s U H Q I h;rw[eval_ListComp];refine wpAny_comprehension_free (use:=none) rfl hs (gE fun y hy e=>I.ok.has y.1 (S.f y hy e)) S.kind S.l (jm (hi pins s U H _ I h) fun xv s1 h1=>jm h1 fun itv s2 h2=>?_);obtain⟨it,fp,tn,J,H2,e,I2,T,st,f2,w⟩:=h2;subst e;refine gG (RR:=fun acc C=>compPost (model X.prog X.w) X.A X.xe none (EP X pins U Q) acc C) S hcap hc hg ht he I2 T st f2 w ?_;intro D C s' H' m I' hn hf' q;refine⟨m,hn,fun h' sb=>⟨.ref D,H',?_,rfl,q⟩⟩;obtain⟨f0,f1,f2,f3,f4,f5⟩:=hf';exact I'.turned (t':=s'.toks) (fun b o hb e=>(sb.2 b hb).trans e) f0 f1 f3 f4 f5
set_option tactic.hygienic true in
theorem uK(own:List Str)(caps:List (Str×Nat))(hN:X.N.Nodup)(hix:X.N[i]?=some x)(hx:ZC X.env.scope x)(S:CScope X scope)(hcap:Caps X scope caps)(hc:X.calm=true)(hi:PI X tg iter wi)
  (hg:∀s3 H3 ex',PG (X.comp (cN own caps) scope s3 H3 ex') tg g) (ht:∀s3 H3 ex',yZ (X.comp (cN own caps) scope s3 H3 ex') ifs tc) (he:∀s3 H3 ex',PE (X.comp (cN own caps) scope s3 H3 ex') elt te)
  (hs:∀x,foldedSetIterable iter X.env x=pure x:=by intro _;rfl)
  (hsw:swapsWith (.ListComp elt [⟨tg,iter,ifs,0⟩] scope pos) (some (.Name x pos')) spos.line X.env=pure true:=by rfl) (hf:X.fn x=true \/ X.env.scope.names.lookup x=some .local:=by first | exact .inl rfl | exact .inr rfl | assumption):
  PS X (.Assign [.Name x pos'] (.ListComp elt [⟨tg,iter,ifs,0⟩] scope pos) spos) (JQ (aG own caps wi g tc te) (JX i)):=by
 intro pins s U H D I h;rw[exec_Assign_Name_used _ _ _ _ hsw];refine wAa (vOa (wAa ?_));show wpAny _ _ (do let _<-comprehension (.ListComp elt [⟨tg,iter,ifs,0⟩] scope pos) scope X.env _ (newList []) false (eval iter X.env) (some (assign (.Name x pos') X.env))) _ _ s;refine wAa (wCa (wpAny_comprehension_free (use:=some (assign (.Name x pos') X.env)) (Q:=fun _ s'=>SP X pins D .next s') rfl hs (gE fun y hy e=>I.ok.has y.1 (S.f y hy e)) S.kind S.l
  (jm (hi pins s U H _ I h) fun xv s1 h1=>jm h1 fun itv s2 h2=>?_)) (fun _ s' hq=>wBa (wBa hq)) fun _ _ e=>e)
 obtain⟨it,fp,tn,J,H2,e,I2,T,st,f2,w⟩:=h2;subst e;refine gG (RR:=fun acc C=>compPost (model X.prog X.w) X.A X.xe (some (assign (.Name x pos') X.env)) (fun _ s'=>SP X pins D .next s') acc C) S hcap hc hg ht he I2 T st f2 w ?_;intro A C s' H' m I' hn hf' q;obtain⟨f0,f1,f2,f3,f4,f5⟩:=hf';show wpAny _ _ (assign (.Name x pos') X.env (.ref A)) _ _ _;refine wpAny_assign_Name (Vu (v:=.ref A) I' hN hix hx rfl (fun s'' I'' hsb=>?_) hf);obtain⟨a,sb,ha⟩:=hsb;have aC:C≠a:=by
  rcases ha with z | z
  ·rw[z];exact f1
  ·exact fun e=>f4 x a z e.symm
 refine⟨m,hn.sameBut sb aC,fun h' sb'=>⟨_,H',?_,q⟩⟩;exact I''.turned (t':=s''.toks) (fun b o hb e=>(sb'.2 b hb).trans e) f0 f1 f3 f4 f5
end
inductive Sk where
 | l | t
def zK(K:uXa):Sk->Hp->Addr->List V->Prop
 | .l=>jr K
 | .t=>J8 K
def jI:Sk->Heap->Addr->Array Value->Prop
 | .l,h,a,vs=>h.IsList a vs
 | .t,h,a,vs=>h.IsTuple a vs
def jK:Sk->Heap->Addr->Addr->Nat->Prop
 | .l,h,it,a,i=>h.IsListIter it a i
 | .t,h,it,a,i=>h.IsTupleIter it a i
theorem jI.at{k:Sk}{h h':Heap}{a:Addr}{vs:Array Value}(x:jI k h a vs)(e:∀o,h.get? a=some o->h'.get? a=some o):jI k h' a vs:=by
 cases k
 ·exact Heap.IsList.at x e
 ·obtain⟨o,ho,r⟩:=x;exact⟨o,e o ho,r⟩
theorem jK.at{k:Sk}{h h':Heap}{it a:Addr}{i:Nat}(x:jK k h it a i)(e:∀o,h.get? it=some o->h'.get? it=some o):jK k h' it a i:=by
 cases k <;> (obtain⟨o,ho,r⟩:=x;exact⟨o,e o ho,r⟩)
theorem jK.obj(x:jK k h it a i):∃o,h.get? it=some o/\∀v,o.data≠.cell v:=by
 cases k <;> (obtain⟨o,ho,_,d⟩:=x;exact⟨o,ho,fun v z=>by rw[d]at z;cases z⟩)
theorem jI.lt(x:jI k h a vs):a < h.objs.size:=by
 cases k <;> (obtain⟨o,ho,_⟩:=x;exact wLa ho)
section
variable {prog:Program} {w:World} {A:Around} {E:Value->Shared->Prop} {s:Shared} {it a:Addr} {i:Nat} {its:Array Value} {x:Value}
theorem u6(hi:s.heap.IsTupleIter it a i)(ht:s.heap.IsTuple a its)(hx:its[i]?=some x)
  (hQ:∀h',h'.IsTupleIter it a (i+1)->Heap.SameBut it s.heap h'->Q x { s with heap:=h' }):wpAny (model prog w) A (Builtin.SmallTypes.nextOf (.ref it)) Q E s:=by
 obtain⟨o,ho,hc,hd⟩:=id hi;obtain⟨oa,hoa,_,na,hda⟩:=ht;unfold Builtin.SmallTypes.nextOf;refine wAa (wpAny_callSpecial?_slot (name:=Str.ofString "__next__") hi.typeIs F.slot_tuple_iterator_next (wpAny_call_entry F.slot_tuple_iterator_next hi.typeIs F.entry_tuple_iterator_next ?_ (F.args_tuple_iterator_next_1 _)));show wpAny _ _ (field (.ref it) 0 >>= _) _ _ s;refine wAa (wpAny_field ho hd (x:=.ref a) rfl ?_);show wpAny _ _ (if (Value.ref a==Value.none)=true then _ else _) _ _ s;have nn:¬((Value.ref a==Value.none)=true):=vNa;rw[if_neg nn];show wpAny _ _ (field (.ref it) 1 >>= _) _ _ s;refine wAa (wpAny_field ho hd (x:=.int i 0) rfl ?_);show wpAny _ _ (seqItems? (.ref a) >>= _) _ _ s;refine wAa (wpAny_seqItems hoa hda ?_);simp only[Int.toNat_natCast,hx];refine wAa (wpAny_setField ho hd (by simp) (wBa ⟨x,rfl,wBa (hQ _ ⟨_,vUa _ ho (Obj.isFreed_of_fields (Obj.data_mapFields hd _)),(Obj.cls_mapFields ..).trans hc,?_⟩ (Heap.SameBut.update ..))⟩));rw[Obj.data_mapFields hd];simp[rawInt]
theorem uL(hh:A.handled=none)(hi:s.heap.IsTupleIter it a i)(ht:s.heap.IsTuple a its)(hx:its[i]?=none)
  (hE:∀h' e,Heap.ExtBut it s.heap h'->(∃o,h'.get? e=some o/\o.cls=.type "StopIteration")->E (.ref e) { s with heap:=h' }):wpAny (model prog w) A (Builtin.SmallTypes.nextOf (.ref it)) Q E s:=by
 obtain⟨o,ho,hc,hd⟩:=id hi;obtain⟨oa,hoa,_,na,hda⟩:=ht;unfold Builtin.SmallTypes.nextOf;refine wAa (wpAny_callSpecial?_slot (name:=Str.ofString "__next__") hi.typeIs F.slot_tuple_iterator_next (wpAny_call_entry F.slot_tuple_iterator_next hi.typeIs F.entry_tuple_iterator_next ?_ (F.args_tuple_iterator_next_1 _)));show wpAny _ _ (field (.ref it) 0 >>= _) _ _ s;refine wAa (wpAny_field ho hd (x:=.ref a) rfl ?_);show wpAny _ _ (if (Value.ref a==Value.none)=true then _ else _) _ _ s;have nn:¬((Value.ref a==Value.none)=true):=vNa;rw[if_neg nn];show wpAny _ _ (field (.ref it) 1 >>= _) _ _ s;refine wAa (wpAny_field ho hd (x:=.int i 0) rfl ?_);show wpAny _ _ (seqItems? (.ref a) >>= _) _ _ s;refine wAa (wpAny_seqItems hoa hda ?_);simp only[Int.toNat_natCast,hx];refine wAa (wpAny_rule (wAa (wpAny_setField ho hd (by simp) ?_)));show wpAny _ _ (newExc (.type "StopIteration") [] >>= _) _ _ _;refine wAa ?_;simp only[newExc,newTuple];refine wAa (vTa ?_ (by size_fits));refine wAa (m:=firstArgMember _ _) (wpAny_of_eq (a:=Value.none) (by first | rfl | (simp only[firstArgMember];rfl)) (vTa ?_ (by size_fits)));simp only[raiseNew];refine wAa (wpAny_handled ?_)
 first | rw[show A.in1.handled=none from hh] | rw[hh]
 exact wAa (wBa (wpAny_throw (hE _ _ (((Heap.SameBut.update ..).extBut.push _).push _) ⟨_,wJa _ rfl,rfl⟩)))
theorem z_{k:Sk}{Q:Value->Shared->Prop}(hi:jK k s.heap it a i)(ht:jI k s.heap a its)(hx:its[i]?=some x)
  (hQ:∀h',jK k h' it a (i+1)->Heap.SameBut it s.heap h'->Q x { s with heap:=h' }):wpAny (model prog w) A (Builtin.SmallTypes.nextOf (.ref it)) Q E s:=by
 cases k
 ·exact wpAny_nextOf_list_item hi ht hx hQ
 ·exact u6 hi ht hx hQ
theorem uM(hh:A.handled=none)(hi:jK k s.heap it a i)(ht:jI k s.heap a its)(hx:its[i]?=none)
  (hE:∀h' e,Heap.ExtBut it s.heap h'->(∃o,h'.get? e=some o/\o.cls=.type "StopIteration")->E (.ref e) { s with heap:=h' }):wpAny (model prog w) A (Builtin.SmallTypes.nextOf (.ref it)) Q E s:=by
 cases k
 ·exact wpAny_nextOf_list_end hh hi ht hx hE
 ·exact uL hh hi ht hx hE
noncomputable def zu(k:Sk)(a:Addr):Obj:={ cls:=.type (match k with | .l => "list_iterator" | .t => "tuple_iterator"),data:=.fields #[.ref a,.int 0 0] }
theorem vz(e:h.get? it=some (zu k a)):jK k h it a 0:=by
 cases k <;> exact⟨_,e,rfl,rfl⟩
theorem gH(ht:jI k s.heap a its)(hQ:Q (.ref s.heap.objs.size) { s with heap:=s.heap.push (zu k a) }):wpAny (model prog w) A (pyIter (.ref a)) Q E s:=by
 cases k
 ·exact wpAny_pyIter_list ht hQ
 ·exact wpAny_pyIter_tuple ht hQ
end
abbrev qk(k:Sk)(h:Heap)(a:Addr):Heap:=h.push (zu k a)
abbrev Kl(k j:Sk)(h:Heap)(a b:Addr):Heap:=(qk k h a).push (zu j b)
abbrev qm(k j:Sk)(h:Heap)(a b:Addr):Heap:=(Kl k j h a b).push { cls:=.type "tuple",data:=.seq #[.ref h.objs.size,.ref (qk k h a).objs.size] }
abbrev qo(k j:Sk)(h:Heap)(a b:Addr):Heap:=(qm k j h a b).push { cls:=.type "tuple",data:=.seq #[.none,.none] }
abbrev uN(k j:Sk)(h:Heap)(a b:Addr):Heap:=(qo k j h a b).push { cls:=.type "zip",data:=.fields #[.none,.bool false,.bool false,.ref (Kl k j h a b).objs.size,.ref (qm k j h a b).objs.size] }
theorem u7(k j:Sk)(a b:Addr)(xs ys:Array Value):
  Meets (Builtin.«zip.__new__» ⟨[.type "zip",.ref a,.ref b],[]⟩) (fun _ R s=>jI k s.heap a xs/\jI j s.heap b ys/\R (.ok (.ret (.ref (qo k j s.heap a b).objs.size))) { s with heap:=uN k j s.heap a b }):=
 .of_wp fun prog w A R s h=>by
  obtain⟨hp,g,d,tk,os⟩:=s;obtain⟨ha,hb,h⟩:=h;have hsub:=sub_zip;have ha':jI k (Shared.heap ⟨hp,g,d,tk,os⟩) a xs:=ha;have hb':jI j (Shared.heap ⟨hp.push (zu k a),g,d,tk,os⟩) b ys:=hb.at fun o e=>wIa _ e
  wp_walk using gH ha',gH hb'
  exact⟨_,rfl,h⟩
section
variable {prog:Program} {w:World} {A:Around} {E:Value->Shared->Prop} {s:Shared}
theorem wR(ha:jI k s.heap a xs)(hb:jI j s.heap b ys)
  (h:∀h',IsZip h' (s.heap.objs.size+4) (s.heap.objs.size+2) (s.heap.objs.size+3) .none->IsPair h' (s.heap.objs.size+2) (.ref s.heap.objs.size) (.ref (s.heap.objs.size+1))->
   IsPair h' (s.heap.objs.size+3) .none .none->jK k h' s.heap.objs.size a 0->jK j h' (s.heap.objs.size+1) b 0->
   (∀c o,s.heap.get? c=some o->h'.get? c=some o)->Q (.ref (s.heap.objs.size+4)) { s with heap:=h' }):
  wpAny (model prog w) A (call (.type "zip") [.ref a,.ref b]) Q E s:=by
 refine callType_new F.called_zip (by decide) (F.typeCall_zip_2 _ _) (F.newCall_zip_2 _ _) (fun obj=>F.args_object_init_3 obj _ _) F.entry_zip_new (u7 k j a b xs ys) ⟨ha,hb,?_⟩;have z1:(qk k s.heap a).objs.size=s.heap.objs.size+1:=Heap.size_push ..;have z2:(Kl k j s.heap a b).objs.size=s.heap.objs.size+2:=by rw[uPa,z1]
 have z3:(qm k j s.heap a b).objs.size=s.heap.objs.size+3:=by rw[uPa,z2]
 have z4:(qo k j s.heap a b).objs.size=s.heap.objs.size+4:=by rw[uPa,z3]
 have up:∀c o,(Kl k j s.heap a b).get? c=some o->(uN k j s.heap a b).get? c=some o:=fun c o e=>wIa _ (wIa _ (wIa _ e));have g5:(uN k j s.heap a b).get? (qo k j s.heap a b).objs.size=some _:=wJa _ rfl;have g4:(uN k j s.heap a b).get? (qm k j s.heap a b).objs.size=some _:=wIa _ (wJa _ rfl);have g3:(uN k j s.heap a b).get? (Kl k j s.heap a b).objs.size=some _:=wIa _ (wIa _ (wJa _ rfl));have g2:(uN k j s.heap a b).get? (qk k s.heap a).objs.size=some (zu j b):=up _ _ (wJa _ rfl);have g1:(uN k j s.heap a b).get? s.heap.objs.size=some (zu k a):=up _ _ (wIa _ (wJa _ rfl));show _/\_;rw[z2,z3,z4]at g5;rw[z1,z2]at g3;rw[z3]at g4;rw[z1]at g2;rw[z4];exact⟨⟨_,g5,rfl⟩,h _ g5 g3 g4 (vz g1) (vz g2) fun c o x=>up c o (wIa _ (wIa _ x))⟩
variable {z TI TO i1 i2 a b:Addr} {k j:Sk} {n1 n2:Nat} {xs ys:Array Value} {x y:Value}
theorem wS{u v:Value}{Q:Value->Shared->Prop}(D:ZipApart z TI TO i1 i2 a b)(hz:IsZip s.heap z TI TO .none)(hTI:IsPair s.heap TI (.ref i1) (.ref i2))(hTO:IsPair s.heap TO u v)
  (h1:jK k s.heap i1 a n1) (h2:jK j s.heap i2 b n2) (ha:jI k s.heap a xs) (hb:jI j s.heap b ys) (hx:xs[n1]?=some x) (hy:ys[n2]?=some y)
  (hQ:∀h',IsZip h' z TI TO (rawInt s.heap.objs.size)->IsPair h' TO x y->jK k h' i1 a (n1+1)->jK j h' i2 b (n2+1)->IsPair h' s.heap.objs.size x y->
   (∀c o,c≠z->c≠TO->c≠i1->c≠i2->s.heap.get? c=some o->h'.get? c=some o)->Q (.ref s.heap.objs.size) { s with heap:=h' }):
  wpAny (model prog w) A (Builtin.«zip.__next__» ⟨[.ref z],[]⟩) (fun fin s'=>∃v,fin=.done (.ret v)/\Q v s') E s:=by
 show wpAny _ _ (field (.ref z) 2 >>= _) _ _ _;refine wAa (wpAny_field hz rfl (x:=.bool false) rfl ?_);show wpAny _ _ (field (.ref z) 3 >>= _) _ _ _;refine wAa (wpAny_field hz rfl (x:=.ref TI) rfl (wAa (wpAny_seqItems hTI rfl ?_)));show wpAny _ _ (Builtin.SmallTypes.ownedTupleIsFree (.ref z) >>= _) _ _ _;refine wAa ?_;unfold Builtin.SmallTypes.ownedTupleIsFree;refine wAa (wpAny_field hz rfl (x:=.none) rfl (wBa ?_));simp only[if_true];refine wAa (wpAny_rule (wAa (wpAny_field hz rfl (x:=.ref TO) rfl (wAa (wpAny_setField_rec hz (by simp) fun g1 z1 s1=>?_)))))
 replace z1:IsZip g1 z TI TO .ellipsis:=z1
 refine wAa ?_;simp only[List.zipIdx_cons,List.zipIdx_nil,List.forIn_cons,List.forIn_nil];have e1:∀c o,c≠z->s.heap.get? c=some o->g1.get? c=some o:=fun c o hc e=>s1.extBut c o hc e;refine wAa (wAa (wpAny_onRaise ?_));show wpAny _ _ (Builtin.SmallTypes.nextOf (.ref i1) >>= _) _ _ _;refine wAa (z_ (h1.at fun o e=>e1 _ o D.i1z e) (ha.at fun o e=>e1 _ o D.l1z e) hx fun g2 it2 s2=>wBa ?_);have e2:∀c o,c≠z->c≠i1->s.heap.get? c=some o->g2.get? c=some o:=fun c o hc hd e=>s2.extBut c o hd (e1 c o hc e);have t2:IsPair g2 TO u v:=e2 _ _ D.TOz D.TOi1 hTO;refine wAa (wpAny_seqItems t2 rfl (wAa (wpAny_updateSeq_pair t2 fun g3 t3 s3=>?_)))
 replace t3:IsPair g3 TO x v:=t3
 refine wAa (wpAny_letGo (wBa (wAa (wAa (wpAny_onRaise ?_)))));have e3:∀c o,c≠z->c≠i1->c≠TO->s.heap.get? c=some o->g3.get? c=some o:=fun c o hc hd he e=>s3.extBut c o he (e2 c o hc hd e);show wpAny _ _ (Builtin.SmallTypes.nextOf (.ref i2) >>= _) _ _ _;refine wAa (z_ (h2.at fun o e=>e3 _ o D.i2z D.i12.symm D.TOi2.symm e) (hb.at fun o e=>e3 _ o D.l2z D.l2i1 D.l2TO e) hy fun g4 it4 s4=>wBa ?_);have t4:IsPair g4 TO x v:=s4.extBut _ _ D.TOi2 t3;refine wAa (wpAny_seqItems t4 rfl (wAa (wpAny_updateSeq_pair t4 fun g5 t5 s5=>?_)))
 replace t5:IsPair g5 TO x y:=t5
 refine wAa (wpAny_letGo (wBa (wBa (wAa (wpAny_seqItems t5 rfl (wAa (wpAny_newTuple ?_)))))));have sz:g5.objs.size=s.heap.objs.size:=by rw[s5.1,s4.1,s3.1,s2.1,s1.1]
 have z5:IsZip g5 z TI TO .ellipsis:=s5.extBut _ _ D.TOz.symm (s4.extBut _ _ D.i2z.symm (s3.extBut _ _ D.TOz.symm (s2.extBut _ _ D.i1z.symm z1)));have e5:∀c o,c≠z->c≠TO->c≠i1->c≠i2->s.heap.get? c=some o->g5.get? c=some o:=fun c o c1 c2 c3 c4 e=>s5.extBut _ _ c2 (s4.extBut _ _ c4 (e3 c o c1 c3 c2 e));have it5:jK k g5 i1 a (n1+1):=((it2.at fun o e=>s3.extBut _ o D.TOi1.symm e).at fun o e=>s4.extBut _ o D.i12 e).at fun o e=>s5.extBut _ o D.TOi1.symm e;have jt5:jK j g5 i2 b (n2+1):=it4.at fun o e=>s5.extBut _ o D.TOi2.symm e;have lz:z < g5.objs.size:=wLa z5;show wpAny _ _ (Builtin.SmallTypes.ownedTupleHandOut (.ref z) (.ref g5.objs.size) >>= _) _ _ _;refine wAa ?_;unfold Builtin.SmallTypes.ownedTupleHandOut;have z6:IsZip (g5.push { cls:=.type "tuple",data:=.seq #[x,y] }) z TI TO .ellipsis:=wIa _ z5;refine wAa (wpAny_setField_rec z6 (by simp) fun g7 z7 s7=>?_)
 replace z7:IsZip g7 z TI TO (rawInt g5.objs.size):=z7
 refine wpAny_setField_rec z7 (by simp) fun g8 z8 s8=>?_
 replace z8:IsZip g8 z TI TO (rawInt g5.objs.size):=z8
 have up:∀c o,c≠z->g5.get? c=some o->g8.get? c=some o:=fun c o c1 e=>s8.extBut _ _ c1 (s7.extBut _ _ c1 (wIa _ e));have t8:IsPair g8 g5.objs.size x y:=s8.extBut _ _ (Nat.ne_of_gt lz) (s7.extBut _ _ (Nat.ne_of_gt lz) (wJa _ rfl));rw[sz]at z8 t8;refine wBa ⟨_,rfl,?_⟩;show Q (.ref g5.objs.size) _;rw[sz];exact hQ g8 z8 (up _ _ D.TOz t5) (it5.at fun o e=>up _ o D.i1z e) (jt5.at fun o e=>up _ o D.i2z e) t8 fun c o c1 c2 c3 c4 e=>up c o c1 (e5 c o c1 c2 c3 c4 e)
theorem wT{u v:Value}{Q:Fin->Shared->Prop}(hh:A.handled=none)(D:ZipApart z TI TO i1 i2 a b)(hz:IsZip s.heap z TI TO .none)(hTI:IsPair s.heap TI (.ref i1) (.ref i2))(hTO:IsPair s.heap TO u v)
  (h1:jK k s.heap i1 a n1) (h2:jK j s.heap i2 b n2) (ha:jI k s.heap a xs) (hb:jI j s.heap b ys) (hend:xs[n1]?=none \/ ys[n2]?=none)
  (hE:∀h' e,(∀c o,c≠z->c≠TO->c≠i1->c≠i2->s.heap.get? c=some o->h'.get? c=some o)->(∃o,h'.get? e=some o/\o.cls=.type "StopIteration")->E (.ref e) { s with heap:=h' }):
  wpAny (model prog w) A (Builtin.«zip.__next__» ⟨[.ref z],[]⟩) Q E s:=by
 show wpAny _ _ (field (.ref z) 2 >>= _) _ _ _;refine wAa (wpAny_field hz rfl (x:=.bool false) rfl ?_);show wpAny _ _ (field (.ref z) 3 >>= _) _ _ _;refine wAa (wpAny_field hz rfl (x:=.ref TI) rfl (wAa (wpAny_seqItems hTI rfl ?_)));show wpAny _ _ (Builtin.SmallTypes.ownedTupleIsFree (.ref z) >>= _) _ _ _;refine wAa ?_;unfold Builtin.SmallTypes.ownedTupleIsFree;refine wAa (wpAny_field hz rfl (x:=.none) rfl (wBa ?_));simp only[if_true];refine wAa (wpAny_rule (wAa (wpAny_field hz rfl (x:=.ref TO) rfl (wAa (wpAny_setField_rec hz (by simp) fun g1 z1 s1=>?_)))))
 replace z1:IsZip g1 z TI TO .ellipsis:=z1
 refine wAa ?_;simp only[List.zipIdx_cons,List.zipIdx_nil,List.forIn_cons,List.forIn_nil];have e1:∀c o,c≠z->s.heap.get? c=some o->g1.get? c=some o:=fun c o hc e=>s1.extBut c o hc e;refine wAa (wAa (wpAny_onRaise ?_));show wpAny _ _ (Builtin.SmallTypes.nextOf (.ref i1) >>= _) _ _ _;cases hx:xs[n1]? with
 | none=>
  refine wAa (uM hh (h1.at fun o e=>e1 _ o D.i1z e) (ha.at fun o e=>e1 _ o D.l1z e) hx fun g2 e s2 he=>?_);obtain⟨oe,hoe,hce⟩:=he;have z2:IsZip g2 z TI TO .ellipsis:=s2 _ _ D.i1z.symm z1;have ez:e≠z:=fun q=>by subst q;rw[z2]at hoe;cases hoe;simp at hce
  exact wpAny_setField_rec z2 (by simp) fun g3 _ s3=>hE g3 e (fun c o c1 _ c3 _ q=>s3.extBut _ _ c1 (s2 _ _ c3 (e1 _ _ c1 q))) ⟨oe,s3.extBut _ _ ez hoe,hce⟩
 | some x=>
  have hy:ys[n2]?=none:=by
   rcases hend with q | q
   ·rw[hx]at q;cases q
   ·exact q
  refine wAa (z_ (h1.at fun o e=>e1 _ o D.i1z e) (ha.at fun o e=>e1 _ o D.l1z e) hx fun g2 it2 s2=>wBa ?_);have e2:∀c o,c≠z->c≠i1->s.heap.get? c=some o->g2.get? c=some o:=fun c o hc hd e=>s2.extBut c o hd (e1 c o hc e);have t2:IsPair g2 TO u v:=e2 _ _ D.TOz D.TOi1 hTO;refine wAa (wpAny_seqItems t2 rfl (wAa (wpAny_updateSeq_pair t2 fun g3 t3 s3=>?_)));refine wAa (wpAny_letGo (wBa (wAa (wAa (wpAny_onRaise ?_)))));have e3:∀c o,c≠z->c≠i1->c≠TO->s.heap.get? c=some o->g3.get? c=some o:=fun c o hc hd he e=>s3.extBut c o he (e2 c o hc hd e);show wpAny _ _ (Builtin.SmallTypes.nextOf (.ref i2) >>= _) _ _ _;refine wAa (uM hh (h2.at fun o e=>e3 _ o D.i2z D.i12.symm D.TOi2.symm e) (hb.at fun o e=>e3 _ o D.l2z D.l2i1 D.l2TO e) hy fun g4 e s4 he=>?_);obtain⟨oe,hoe,hce⟩:=he;have z4:IsZip g4 z TI TO .ellipsis:=s4 _ _ D.i2z.symm (s3.extBut _ _ D.TOz.symm (s2.extBut _ _ D.i1z.symm z1));have ez:e≠z:=fun q=>by subst q;rw[z4]at hoe;cases hoe;simp at hce
  exact wpAny_setField_rec z4 (by simp) fun g5 _ s5=>hE g5 e (fun c o c1 c2 c3 c4 q=>s5.extBut _ _ c1 (s4 _ _ c4 (e3 c o c1 c3 c2 q))) ⟨oe,s5.extBut _ _ ez hoe,hce⟩
theorem GM{u v:Value}{Q:Option Value->Shared->Prop}(D:ZipApart z TI TO i1 i2 a b)(hz:IsZip s.heap z TI TO .none)(hTI:IsPair s.heap TI (.ref i1) (.ref i2))(hTO:IsPair s.heap TO u v)
  (h1:jK k s.heap i1 a n1) (h2:jK j s.heap i2 b n2) (ha:jI k s.heap a xs) (hb:jI j s.heap b ys) (hx:xs[n1]?=some x) (hy:ys[n2]?=some y)
  (hQ:∀h',IsZip h' z TI TO (rawInt s.heap.objs.size)->IsPair h' TO x y->jK k h' i1 a (n1+1)->jK j h' i2 b (n2+1)->IsPair h' s.heap.objs.size x y->
   (∀c o,c≠z->c≠TO->c≠i1->c≠i2->s.heap.get? c=some o->h'.get? c=some o)->Q (some (.ref s.heap.objs.size)) { s with heap:=h' }):
  wpAny (model prog w) A (pyNext (.ref z)) Q E s:=by
 have hT:s.TypeIs (.ref z) "zip" := ⟨_,hz,rfl⟩
 unfold pyNext;exact wAa (wpAny_attempt (wpAny_callSpecial?_slot (name:=Str.ofString "__next__") hT F.slot_zip_next (wpAny_call_entry F.slot_zip_next hT F.entry_zip_next
   (wS D hz hTI hTO h1 h2 ha hb hx hy fun h' a1 a2 a3 a4 a5 a6=>wBa (hQ h' a1 a2 a3 a4 a5 a6)) (F.args_zip_next_1 _))))
theorem Km{u v:Value}{Q:Option Value->Shared->Prop}(hh:A.handled=none)(D:ZipApart z TI TO i1 i2 a b)(hz:IsZip s.heap z TI TO .none)(hTI:IsPair s.heap TI (.ref i1) (.ref i2))(hTO:IsPair s.heap TO u v)
  (h1:jK k s.heap i1 a n1) (h2:jK j s.heap i2 b n2) (ha:jI k s.heap a xs) (hb:jI j s.heap b ys) (hend:xs[n1]?=none \/ ys[n2]?=none)
  (hQ:∀h',(∀c o,c≠z->c≠TO->c≠i1->c≠i2->s.heap.get? c=some o->h'.get? c=some o)->Q none { s with heap:=h' }):wpAny (model prog w) A (pyNext (.ref z)) Q E s:=by
 have hT:s.TypeIs (.ref z) "zip" := ⟨_,hz,rfl⟩
 unfold pyNext;refine wAa (wpAny_attempt (wpAny_callSpecial?_slot (name:=Str.ofString "__next__") hT F.slot_zip_next (wpAny_call_entry F.slot_zip_next hT F.entry_zip_next (wT hh D hz hTI hTO h1 h2 ha hb hend fun h' e hk he=>?_) (F.args_zip_next_1 _))));obtain⟨o,ho,hc⟩:=he;exact wAa (wpAny_isInstance (T := "StopIteration") (b:=true) ⟨o,ho,hc⟩ isSubtype_stop (wBa (hQ _ hk)))
end
section
theorem Inv.turnedL{t':Nat}{ch:List Addr}(I:Inv X pins U H s)(hch:∀b∈ch,Ja X pins H b)(k:∀c o,c∉ch->s.heap.get? c=some o->h'.get? c=some o):Inv X pins U H { s with heap:=h',toks:=t' }:=by
 have nit:∀b u,H b=some u->b∉ch:=fun b u e z=>by rw[(hch b z).1]at e;cases e
 refine I.step (g':=s.gens) (d':=s.drawn) (ch:=ch) (fun b hb=>?_) (fun b o _ _ hc e _=>k b o hc e) (fun b o _ _ hc e _=>⟨o.slots,k b o hc e⟩) (fun _ _ _ _ n=>n)
  (fun b o hc e=>⟨o,k b o hc e⟩) (fun _ _ e=>e) (fun _ _ _ e=>e) (fun b ps e=>⟨#[],by rw[e];simp⟩) (fun m hm=>?_) (fun b u e=>?_) I.bare
 ·obtain⟨f0,f1,f2,f3,f4,f5⟩:=hch b hb;exact⟨f3,f1,f4,f5⟩
 ·obtain⟨o,es,ep,ho,r⟩:=hm;exact⟨o,es,ep,k _ o (fun z=>(hch _ z).2.1 rfl) ho,r⟩
 ·refine(I.hok b u e).stay (fun c v hc q=>k c v ?_ q) (fun _ q=>q) fun _ _ _ q=>q;rcases hc with z | z
  ·rw[z];exact nit b u e
  ·exact nit c _ z
theorem Inv.tupled{t':Nat}{ch:List Addr}{T:Addr}{vs:List V}{us:List Value}(I:Inv X pins U H s)(hT:T=s.heap.objs.size)(hch:∀b∈ch,Ja X pins H b)(k:∀c o,c∉ch->s.heap.get? c=some o->h'.get? c=some o)
  (r:jd vs us) (hz:vs.length<=sizeLine) (ht:IsTup h' T us.toArray):Inv X pins U (upd H T (.tup vs)) { s with heap:=h',toks:=t' }:=by
 have nit:∀b u,H b=some u->b∉ch:=fun b u e z=>by rw[(hch b z).1]at e;cases e
 have nT:∀b o,s.heap.get? b=some o->b≠T:=fun b o e=>by rw[hT];exact wTa (wLa e)
 have fT:H T=none:=by rw[hT];exact I.hok.fresh (wPa _)
 refine I.step (g':=s.gens) (d':=s.drawn) (ch:=ch) (fun b hb=>?_) (fun b o _ _ hc e _=>k b o hc e) (fun b o _ _ hc e _=>⟨o.slots,k b o hc e⟩) (fun b o _ e n=>by rw[j7 (nT b o e)];exact n)
  (fun b o hc e=>⟨o,k b o hc e⟩) (fun b xs e=>by rw[j7 (jo e fT)];exact e) (fun b o u e=>by rw[j7 (jo e fT)];exact e) (fun b ps e=>⟨#[],by rw[j7 (jo e fT),e];simp⟩) (fun m hm=>?_) (fun b u e=>?_) I.bare
 ·obtain⟨f0,f1,f2,f3,f4,f5⟩:=hch b hb;exact⟨f3,f1,f4,f5⟩
 ·obtain⟨o,es,ep,ho,r⟩:=hm;exact⟨o,es,ep,k _ o (fun z=>(hch _ z).2.1 rfl) ho,r⟩
 ·by_cases hb:b=T
  ·subst hb;rw[jc]at e;cases e;exact⟨hz,us,r,ht⟩
  ·rw[j7 hb]at e;refine(I.hok b u e).stay (fun c v hc q=>k c v ?_ q) (fun c q=>by rw[j7 (jo q fT)];exact q) fun c xs _ q=>by rw[j7 (jo q fT)];exact q
   rcases hc with z | z
   ·rw[z];exact nit b u e
   ·exact nit c _ z
theorem Inv.seqK(I:Inv X pins U H s)(h:zK X.K k H a xs):∃its:List Value,jd xs its/\jI k s.heap a its.toArray/\xs.length<=sizeLine:=by
 cases k
 ·obtain⟨its,r,p,z⟩:=I.list h;exact⟨its,r,p.isList,z⟩
 ·obtain⟨its,r,p,z⟩:=I.tuple h;exact⟨its,r,p,z⟩
theorem Inv.seqK_inj(I:Inv X pins U H s)(h:zK X.K k H a xs)(h':zK X.K k H a ys):xs=ys:=by
 cases k
 ·exact I.list_inj h h'
 ·exact I.tuple_inj h h'
end
theorem yg:2<=sizeLine:=by decide
def Dp(K:uXa)(k j:Sk)(a b:Addr):It:=
 ⟨fun i H=>∃xs ys x y,zK K k H a xs/\zK K j H b ys/\xs[i]?=some x/\ys[i]?=some y,
  fun i H v H'=>∃p,H p=none/\v=.ref p/\∀xs ys x y,zK K k H a xs->zK K j H b ys->xs[i]?=some x->ys[i]?=some y->H'=upd H p (.tup [x,y]),
  fun i H=>∃xs ys,zK K k H a xs/\zK K j H b ys/\(xs.length<=i \/ ys.length<=i)⟩
theorem wU{P:Program}{w:World}{K:uXa}{es:List Expr}{x1:Nat}{tp:Pos}{k j:Sk}{a b z TI TO i1 i2:Addr}(D:ZipApart z TI TO i1 i2 a b):
  Turn P w K (.Tuple es x1 tp) (Dp K k j a b) [z,TI,TO,i1,i2] z (fun i h=>IsZip h z TI TO .none/\IsPair h TI (.ref i1) (.ref i2)/\(∃u v,IsPair h TO u v)/\jK k h i1 a i/\jK j h i2 b i) where
 mem:=by simp
 obj:=fun i h st c hc=>by
  obtain⟨s1,s2,⟨u,v,s3⟩,s4,s5⟩:=st;simp only[List.mem_cons,List.not_mem_nil,or_false]at hc;rcases hc with rfl | rfl | rfl | rfl | rfl
  ·exact⟨_,s1,fun v z=>by cases z⟩
  ·exact⟨_,s2,fun v z=>by cases z⟩
  ·exact⟨_,s3,fun v z=>by cases z⟩
  ·exact s4.obj
  ·exact s5.obj
 keep:=fun i h h' st kk=>by
  obtain⟨s1,s2,⟨u,v,s3⟩,s4,s5⟩:=st;exact⟨kk z (by simp) _ s1,kk TI (by simp) _ s2,⟨u,v,kk TO (by simp) _ s3⟩,s4.at fun o e=>kk i1 (by simp) o e,s5.at fun o e=>kk i2 (by simp) o e⟩
 item:=by
  intro X hP hw hK hc i pins s U H E I hf st hg;subst hP hw hK;obtain⟨s1,s2,⟨u,v,s3⟩,s4,s5⟩:=st;obtain⟨xs,ys,x,y,qa,qb,ex,ey⟩:=hg;obtain⟨ia,ra,pa,_⟩:=I.seqK qa;obtain⟨ib,rb,pb,_⟩:=I.seqK qb;obtain⟨ux,eux,rx⟩:=ra.get ex;obtain⟨uy,euy,ry⟩:=rb.get ey;refine GM D s1 s2 s3 s4 s5 pa pb (x:=ux) (y:=uy) (by simpa using eux) (by simpa using euy) fun h' b1 b2 b3 b4 b5 bk=>?_;refine⟨_,rfl,wpAny_letOwnedTupleGo_zip b1 fun h2 c1 c2=>?_⟩;have F4:∀c∈[z,TO,i1,i2],Ja X pins H c:=fun c hc=>hf c (by
   simp only[List.mem_cons,List.not_mem_nil,or_false]at hc⊢;rcases hc with q | q | q | q
   ·exact .inl q
   ·exact .inr (.inr (.inl q))
   ·exact .inr (.inr (.inr (.inl q)))
   ·exact .inr (.inr (.inr (.inr q))))
  have kp:∀c o,c∉[z,TO,i1,i2]->s.heap.get? c=some o->h2.get? c=some o:=fun c o hc e=>by
   simp only[List.mem_cons,List.not_mem_nil,or_false,not_or]at hc;exact c2.extBut c o hc.1 (bk c o hc.1 hc.2.1 hc.2.2.1 hc.2.2.2 e)
  have nz:s.heap.objs.size≠z:=Nat.ne_of_gt (wLa s1);have ht:IsTup h2 s.heap.objs.size ([ux,uy]:List Value).toArray:=⟨_,c2.extBut _ _ nz b5,rfl,_,rfl⟩
  have I2:=I.tupled (t':=s.toks) (h':=h2) rfl F4 kp (vs:=[x,y]) (us:=[ux,uy]) (.cons rx (.cons ry .nil)) yg ht;refine⟨.ref s.heap.objs.size,_,I2,rfl,⟨s.heap.objs.size,I.hok.fresh (wPa _),rfl,fun xs' ys' x' y' qa' qb' ex' ey'=>?_⟩,⟨c1,kp _ _ (by simp[D.TIz,D.TITO,D.TIi1,D.TIi2]) s2,⟨ux,uy,c2.extBut _ _ D.TOz b2⟩,b3.at fun o e=>c2.extBut _ o D.i1z e,b4.at fun o e=>c2.extBut _ o D.i2z e⟩,fun c hc=>?_⟩
  ·rw[I.seqK_inj qa' qa,ex]at ex';rw[I.seqK_inj qb' qb,ey]at ey';cases ex';cases ey';rfl
  ·have q:=(hf c hc).1;rw[j7 ?_]
   ·exact q
   ·intro e;have:c < s.heap.objs.size:=by
     simp only[List.mem_cons,List.not_mem_nil,or_false]at hc;rcases hc with rfl | rfl | rfl | rfl | rfl
     ·exact wLa s1
     ·exact wLa s2
     ·exact wLa s3
     ·obtain⟨o,e,_⟩:=s4.obj;exact wLa e
     ·obtain⟨o,e,_⟩:=s5.obj;exact wLa e
    rw[e]at this;exact wUa _ this
 done:=by
  intro X hP hw hK hc i pins s U H E I hf st hg;subst hP hw hK;obtain⟨s1,s2,⟨u,v,s3⟩,s4,s5⟩:=st;obtain⟨xs,ys,qa,qb,hend⟩:=hg;obtain⟨ia,ra,pa,_⟩:=I.seqK qa;obtain⟨ib,rb,pb,_⟩:=I.seqK qb;have la:=ra.length;have lb:=rb.length;have hend':ia.toArray[i]?=none \/ ib.toArray[i]?=none:=by
   rcases hend with q | q
   ·exact .inl (by simp;lia)
   ·exact .inr (by simp;lia)
  refine Km (I.ok.hd hc) D s1 s2 s3 s4 s5 pa pb hend' fun h' bk=>⟨rfl,?_⟩
  refine I.turnedL (t':=s.toks) (ch:=[z,TI,TO,i1,i2]) hf fun c o hc e=>?_;simp only[List.mem_cons,List.not_mem_nil,or_false,not_or]at hc;exact bk c o hc.1 hc.2.2.1 hc.2.2.2.1 hc.2.2.2.2 e
 self:=fun _ _ _ _ _ st h=>wpAny_pyIter_zip st.1 h
inductive Dt where
 | non | bl (b:Bool) | int (i:Int) | str (x:Str) | tup (l:List Dt) | lst (l:List Dt)
mutual
noncomputable def j5(K:uXa)(H:Hp):Dt->V->Prop
 | .non,v=>v=.non
 | .bl b,v=>v=.bl b
 | .int i,v=>v=.int i
 | .str x,v=>v=.str x
 | .tup l,v=>∃a xs,v=.ref a/\J8 K H a xs/\j1 K H l xs
 | .lst l,v=>∃a xs,v=.ref a/\jr K H a xs/\j1 K H l xs
noncomputable def j1(K:uXa)(H:Hp):List Dt->List V->Prop
 | [],vs=>vs=[]
 | d::ds,vs=>∃v r,vs=v::r/\j5 K H d v/\j1 K H ds r
end
theorem j3.tup{K:uXa}{H H':Hp}{a:Addr}{xs:List V}(e:j3 H H')(h:J8 K H a xs):J8 K H' a xs:=by
 rcases h with(h | ⟨o,h⟩) | h
 ·exact .inl (.inl (e _ _ h))
 ·exact .inl (.inr ⟨o,e _ _ h⟩)
 ·exact .inr h
theorem j1.nil{K:uXa}{H:Hp}:j1 K H [] []:=by rw[j1]
section
theorem wV(hc:X.calm=true):JG X (.builtin "all") (fun xs H Q=>∃(p:Addr) (bs:List Bool),xs=[.ref p]/\jr X.K H p (bs.map V.bl)/\Q (.bl (bs.all id)) H):=by
 intro pins s U H xs us Q I r h;obtain⟨p,bs,e,hq,q⟩:=h;subst e;cases r with
 | cons r rr=>
  cases rr;cases r;obtain⟨its,rv,pl,hz⟩:=I.list hq;refine call_all_walk (wpAny_pyIter_list pl.isList ?_);have hp:p < s.heap.objs.size:=by obtain⟨o,ho,_⟩:=pl.isList;exact wLa ho
  have hlen:its.length=bs.length:=by have:=rv.length;simp at this;lia
  refine⟨s.heap.objs.size,_,_,_,_,_,fun i=>(bs[i]?).getD true,rfl,Walks.list (A:=X.A.in1) (I.ok.hd hc) s.heap.objs.size p (wTa hp) its.toArray,⟨⟨_,wJa _ rfl,rfl,rfl⟩,Heap.IsList.at pl.isList fun o e=>wIa _ e⟩,?_,fun h' tk hk=>?_⟩
  ·intro i v s' Q' E' hv hq';have hv:its[i]?=some v:=by simpa using hv
   have hi:i < bs.length:=by rw[<-hlen];exact(uSa hv).1
   obtain⟨u,eu,ru⟩:=rv.get (i:=i) (x:=V.bl bs[i]) (by simp[hi]);rw[hv]at eu;cases eu;cases ru;have e1:(bs[i]?).getD true=bs[i]:=by simp[hi]
   have hq':Q' ((bs[i]?).getD true) s':=hq';rw[e1]at hq';exact wpAny_truthy_bool hq'
  ·have e:((List.range its.toArray.size).all fun i=>(bs[i]?).getD true)=bs.all id:=by
    rw[uLa,hlen,Bool.eq_iff_iff];simp only[List.all_eq_true,List.mem_range,id];constructor
    ·intro hh x hx;obtain⟨i,hi,rfl⟩:=List.mem_iff_getElem.mp hx;have:=hh i hi;simpa[hi]using this
    ·intro hh i hi;have:=hh bs[i] (List.getElem_mem hi);simpa[hi]using this
   rw[e];have I':Inv X pins U H { s with heap:=h',toks:=tk }:=I.turnedL (t':=tk) (ch:=[s.heap.objs.size]) (fun b hb=>by
    have e:b=s.heap.objs.size:=by simpa using hb
    subst e;exact I.fpOk (wPa _) (I.hok.fresh (wPa _))) (fun c o hc' e'=>hk c o hc' (wIa _ e'))
   exact⟨.bl (bs.all id),H,I',rfl,q⟩
inductive Kd where
 | i | b | s | l | t
def wW(K:uXa)(H:Hp):V->Kd->Prop
 | .int _,.i=>True
 | .bl _,.b=>True
 | .str _,.s=>True
 | .ref a,.l=>∃xs,jr K H a xs
 | .ref a,.t=>∃xs,J8 K H a xs
 | _,_=>False
@[simp] noncomputable def zL:Kd->Nat
 | .i=>0 | .b=>1 | .s=>2 | .l=>3 | .t=>4
def VF(k:Kd)(T:String):Option Bool:=if T = "int" then some (zL k==0||zL k==1)else if T = "bool" then some (zL k==1)else if T = "str" then some (zL k==2)else if T = "list" then some (zL k==3)else if T = "tuple" then some (zL k==4)else none
theorem Z0(h:VF k T=some b):(T = "int" /\(zL k==0||zL k==1)=b) \/ (T = "bool" /\(zL k==1)=b) \/ (T = "str" /\(zL k==2)=b) \/ (T = "list" /\(zL k==3)=b) \/ (T = "tuple" /\(zL k==4)=b):=by
 unfold VF at h;by_cases t1:T = "int"
 ·rw[if_pos t1]at h;exact .inl ⟨t1,vFa h⟩
 rw[if_neg t1]at h;by_cases t2:T = "bool"
 ·rw[if_pos t2]at h;exact .inr (.inl ⟨t2,vFa h⟩)
 rw[if_neg t2]at h;by_cases t3:T = "str"
 ·rw[if_pos t3]at h;exact .inr (.inr (.inl ⟨t3,vFa h⟩))
 rw[if_neg t3]at h;by_cases t4:T = "list"
 ·rw[if_pos t4]at h;exact .inr (.inr (.inr (.inl ⟨t4,vFa h⟩)))
 rw[if_neg t4]at h;by_cases t5:T = "tuple"
 ·rw[if_pos t5]at h;exact .inr (.inr (.inr (.inr ⟨t5,vFa h⟩)))
 rw[if_neg t5]at h;cases h
def aH(K:uXa):List V->Hp->VK->Prop:=fun xs H Q=>∃x T k b,xs=[x,.ty T]/\wW K H x k/\VF k T=some b/\Q (.bl b) H
theorem wX:JG X (.builtin "isinstance") (aH X.K):=by
 intro pins s U H xs us Q I r h;obtain⟨x,T,k,b,e,hk,hb,q⟩:=h;subst e;cases r with
 | cons r rr=>
  cases rr with
  | cons r' rr=>
   cases rr;cases r';have fin:∀tk,EP X pins U Q (.bool b) { s with toks:=tk }:=fun tk=>⟨.bl b,H,I.tok tk,rfl,q⟩
   have fin0:EP X pins U Q (.bool b) s:=⟨.bl b,H,I,rfl,q⟩
   cases k with
   | i=>
    cases x <;> try exact hk.elim
    obtain⟨t,rfl⟩:=r;rcases Z0 hb with⟨rfl,rfl⟩ | ⟨rfl,rfl⟩ | ⟨rfl,rfl⟩ | ⟨rfl,rfl⟩ | ⟨rfl,rfl⟩
    all_goals (first | exact IsiPair.int_int fin0 | exact IsiPair.int_bool (fin _) | exact IsiPair.int_str (fin _) | exact IsiPair.int_list (fin _) | exact IsiPair.int_tuple (fin _))
   | b=>
    cases x <;> try exact hk.elim
    cases r;rcases Z0 hb with⟨rfl,rfl⟩ | ⟨rfl,rfl⟩ | ⟨rfl,rfl⟩ | ⟨rfl,rfl⟩ | ⟨rfl,rfl⟩
    all_goals (first | exact IsiPair.bool_int fin0 | exact IsiPair.bool_bool fin0 | exact IsiPair.bool_str (fin _) | exact IsiPair.bool_list (fin _) | exact IsiPair.bool_tuple (fin _))
   | s=>
    cases x <;> try exact hk.elim
    obtain⟨t,rfl⟩:=r;rcases Z0 hb with⟨rfl,rfl⟩ | ⟨rfl,rfl⟩ | ⟨rfl,rfl⟩ | ⟨rfl,rfl⟩ | ⟨rfl,rfl⟩
    all_goals (first | exact IsiPair.str_str fin0 | exact IsiPair.str_int (fin _) | exact IsiPair.str_bool (fin _) | exact IsiPair.str_list (fin _) | exact IsiPair.str_tuple (fin _))
   | l=>
    cases x <;> try exact hk.elim
    cases r;obtain⟨ys,hq⟩:=hk;obtain⟨its,rv,pl,_⟩:=I.list hq;obtain⟨o,ho,hc,_⟩:=pl.isList;rcases Z0 hb with⟨rfl,rfl⟩ | ⟨rfl,rfl⟩ | ⟨rfl,rfl⟩ | ⟨rfl,rfl⟩ | ⟨rfl,rfl⟩
    all_goals (first | exact IsiPair.list_list ho hc fin0 | exact IsiPair.list_int ho hc (fin _) | exact IsiPair.list_bool ho hc (fin _) | exact IsiPair.list_str ho hc (fin _) | exact IsiPair.list_tuple ho hc (fin _))
   | t=>
    cases x <;> try exact hk.elim
    cases r;obtain⟨ys,hq⟩:=hk;obtain⟨its,rv,pl,_⟩:=I.tuple hq;obtain⟨o,ho,hc,_⟩:=pl;rcases Z0 hb with⟨rfl,rfl⟩ | ⟨rfl,rfl⟩ | ⟨rfl,rfl⟩ | ⟨rfl,rfl⟩ | ⟨rfl,rfl⟩
    all_goals (first | exact IsiPair.tuple_tuple ho hc fin0 | exact IsiPair.tuple_int ho hc (fin _) | exact IsiPair.tuple_bool ho hc (fin _) | exact IsiPair.tuple_str ho hc (fin _) | exact IsiPair.tuple_list ho hc (fin _))
end
def QW(r r' r'':R2)(ta tb tc td:TE):TE:=fun U H Q=>ta U H fun x H1=>tb U H1 fun y H2=>r x y H2 fun z H3=>∃k,z=.bl k/\
 (if k=true then tc U H3 fun w' H4=>r' y w' H4 fun z' H5=>∃k',z'=.bl k'/\(if k'=true then td U H5 fun q H6=>r'' w' q H6 Q else Q (.bl false) H5)else Q (.bl false) H3)
section
theorem Kn(ho:jw X (compareOp op) r)(ho':jw X (compareOp op') r')(ho'':jw X (compareOp op'') r'')(ha:PE X a ta)(hb:PE X b tb)(hc:PE X c tc)(hd:PE X d td)
  (hm:lastMarks [op,op',op''] [b,c,d]=false:=by with_unfolding_all rfl):PE X (.Compare a [op,op',op''] [b,c,d] pos) (QW r r' r'' ta tb tc td):=by
 intro pins s U H Q I h;refine Compare_chain (jm (ha pins s U H _ I h) fun v s1 ⟨x,H1,I1,r1,q1⟩=>chain_link (jm (hb pins s1 U H1 _ I1 q1) fun u s2 ⟨y,H2,I2,r2,q2⟩=>
  jm (ho pins s2 U H2 x y v u _ I2 r1 r2 q2) fun _ s3 ⟨z,H3,I3,r3,k,e,q3⟩=>?_)) hm
 subst e;cases r3;refine wpAny_truthy_bool ?_;cases k with
 | false=>exact ite_ff ⟨.bl false,H3,I3,rfl,q3⟩
 | true=>
  refine ite_tt (chain_link (jm (hc pins s3 U H3 _ I3 q3) fun w' s4 ⟨z',H4,I4,r4,q4⟩=>jm (ho' pins s4 U H4 y z' u w' _ I4 r2 r4 q4) fun _ s5 xx=>?_));obtain⟨z5,H5,I5,r5,k5,e5,q5⟩:=xx;subst e5;cases r5;refine wpAny_truthy_bool ?_;cases k5 with
  | false=>exact ite_ff ⟨.bl false,H5,I5,rfl,q5⟩
  | true=>exact ite_tt (chain_last (jm (hd pins s5 U H5 _ I5 q5) fun w6 s6 ⟨z6,H6,I6,r6,q6⟩=>ho'' pins s6 U H6 z' z6 w' w6 Q I6 r4 r6 q6))
end
section
open PySem.SeqAt
end
structure FnI (P:Program) (w:World) (K:uXa) (mg:Str->Option Value) (base:Heap) (k:Nat) (x:Str) (ps:List Str) (sp:Sp):Prop where
 ex:∃f fd,FnOk P w K mg base Jx k f fd ps sp/\jY K fd ps []/\PySem.W.keepIn K (.ref f)=true/\mg x=some (.ref f)
structure MtI (P:Program) (w:World) (K:uXa) (mg:Str->Option Value) (base:Heap) (k:Nat) (C:Addr) (m:Str) (ps:List Str) (sp:Sp):Prop where
 ex:∃f fd,FnOk P w K mg base Jx k f fd ps sp/\jY K fd ps []/\Meth K C m f
structure MkI (P:Program) (w:World) (K:uXa) (mg:Str->Option Value) (base:Heap) (k:Nat) (C:Addr) (x:Str) (ps:List Str) (sp:Sp):Prop where
 ex:∃f fd,FnOk P w K mg base Jx k f fd ps sp/\jY K fd ps []/\Mk K C f/\mg x=some (.ref C)
section
theorem GN(F:FnI X.prog X.w X.K X.mg X.base k x ps sp)(hr:Room k X.A)(ha:PA X (e::es) t)(hg:Gl X x:=by rfl)(hdb:(x==("__debug__" : Str))=false:=by decide)
  (he:starEach (e::es) X.env=(false,eval e X.env)::starEach es X.env:=by rfl) (hpl:(backTo pos (starEach es X.env)).any (·.1)=false:=by rfl):PE X (.Call (.Name x p) (e::es) [] pos) (qf sp [] E0 t):=by
 obtain⟨f,fd,G,b,kp,hm⟩:=F.ex;exact gA G hr hg hm kp b .nil GK ha hdb he hpl
theorem aI(he:PE X o ta)(c:Cls X.K C)(M:MtI X.prog X.w X.K X.mg X.base k C m ps sp)(hr:Room k X.A)
  (ht:eval (.Call (.Attribute o m apos) [] [] pos) X.env=(do
   let ov<-eval o X.env
   standAt apos.atName
   let (f,first)<-holding [ov] (getMethod ov m pl)
   callWith pos f first (backTo pos (starEach [] X.env)) (backToKw pos (keywordEach [] X.env))):=by rfl):
  PE X (.Call (.Attribute o m apos) [] [] pos) (Zm C m sp [] E0 ta zr):=by
 obtain⟨f,fd,G,b,hm⟩:=M.ex;exact uC he c hm G hr b .nil GK ht
theorem cK(M:MkI X.prog X.w X.K X.mg X.base k C x ps sp)(hr:Room (k+1) X.A)(ha:PA X (e::es) t)(hg:Gl X x:=by rfl)(hdb:(x==("__debug__" : Str))=false:=by decide)
  (he:starEach (e::es) X.env=(false,eval e X.env)::starEach es X.env:=by rfl) (hpl:(backTo pos (starEach es X.env)).any (·.1)=false:=by rfl):PE X (.Call (.Name x p) (e::es) [] pos) (Zn C sp [] E0 t):=by
 obtain⟨f,fd,G,b,mk,hm⟩:=M.ex;exact Zo mk G hr hg hm b .nil GK ha hdb he hpl
theorem aJ(ho:PE X o ta)(ha:PA X [e] t)(hbase:attributeBase o "append" X.env (eval o X.env)=eval o X.env:=by rfl)
  (hfew:((backTo pos (starEach [e] X.env)).all (fun x=>!x.1)&&(backToKw pos (keywordEach [] X.env)).all (fun x=>x.1.isSome)
   && decide (([e]:List Expr).length+([]:List Keyword).length+(if ([]:List Keyword).isEmpty then 0 else 1) < 30))=true:=by rfl)
  (hline:(apos.endLine==pos.line)=true:=by rfl) (hs:starEach [e] X.env=(false,eval e X.env)::starEach [] X.env:=by rfl) (hplain:(backTo pos (starEach [] X.env)).any (·.1)=false:=by rfl):
  PE X (.Call (.Attribute o "append" apos) [e] [] pos) (gD X.K "list" Zq ta t):=
 ub PySem.F.plainAttrs_list PySem.F.slot_list_append PySem.F.type_list_append Kh ho ha hbase hfew hline hs hplain
end
theorem fM(hm:∃t,X.mg x=some (.int i t))(hg:Gl X x:=by rfl)(hd:(x==("__debug__" : Str))=false:=by decide):PE X (.Name x pos) (tC (.int i)):=by
 obtain⟨t,h⟩:=hm;exact gq hg h ⟨t,rfl⟩ hd
theorem jp(h:H p=none)(o:HO):j3 H (upd H p o):=fun b u q=>by rw[j7 (jo q h)];exact q
theorem j3.upd(s:j3 H0 H)(h:H0 p=none)(o:HO):j3 H0 (upd H p o):=fun b u q=>by rw[j7 (jo q h)];exact s b u q
theorem j3.none(s:j3 H H')(h:H' p=Option.none):H p=Option.none:=s.free h
noncomputable def VG(H:Hp)(l:Addr):Hp:=fun b=>if b=l then Option.none else H b
theorem uO:VG H l l=Option.none:=by unfold VG;rw[if_pos rfl]
theorem Ko(h:b≠l):VG H l b=H b:=by unfold VG;rw[if_neg h]
theorem QX:VG (upd H l o) l=VG H l:=by
 funext b;by_cases h:b=l
 ·rw[h,uO,uO]
 ·rw[Ko h,Ko h,j7 h]
theorem cL(h:n<=1000):n<=sizeLine:=wQa (Kj h)
noncomputable abbrev T3:=Int×Int×Int
noncomputable def aK:HO->Bool
 | .tup _=>true
 | .frz _ (.tup _)=>true
 | _=>false
def YD(H H':Hp):Prop:=∀b o,aK o=true->H b=some o->H' b=some o
theorem YD.trans(a:YD H H1)(b:YD H1 H2):YD H H2:=fun c o i h=>b c o i (a c o i h)
theorem YD.set(h:H p=some o)(i:aK o=false)(u:HO):YD H (upd H p u):=fun b v iv hb=>by
 rw[j7 ?_]
 ·exact hb
 ·intro e;rw[e,h]at hb;cases hb;rw[i]at iv;cases iv
structure Und (H Hi:Hp) (p:Addr) (o:HO):Prop where
 at':Hi p=some o
 kt:YD H Hi
 sm:j3 (L2.VG H p) (L2.VG Hi p)
theorem Und.set(S:Und H Hi p o)(i:aK o=false)(u:HO):Und H (upd Hi p u) p u:=⟨jc,S.kt.trans (YD.set S.at' i u),by rw[QX];exact S.sm⟩
def Dq(K:uXa)(a:Addr):It:=
 ⟨fun i H=>∃xs x,jr K H a xs/\xs[i]?=some x,fun i H v H'=>∃p,H p=none/\v=.ref p/\∀xs x,jr K H a xs->xs[i]?=some x->H'=upd H p (.tup [.int i,x]),fun i H=>∃xs,jr K H a xs/\xs.length<=i⟩
theorem Kp{P:Program}{w:World}{K:uXa}{es:List Expr}{x1:Nat}{tp:Pos}{a e it:Addr}(hei:e≠it)(hle:a≠e)(hli:a≠it):
  Turn P w K (.Tuple es x1 tp) (Dq K a) [e,it] e (fun i h=>(∃old,IsEnum h e it (i:Nat) old)/\h.IsListIter it a i) where
 mem:=by simp
 obj:=fun i h st c hc=>by
  obtain⟨⟨old,s1⟩,s2⟩:=st;simp only[List.mem_cons,List.not_mem_nil,or_false]at hc;rcases hc with rfl | rfl
  ·exact⟨_,s1,fun v z=>by cases z⟩
  ·obtain⟨o,ho,_,d⟩:=s2;exact⟨o,ho,fun v z=>by rw[d]at z;cases z⟩
 keep:=fun i h h' st kk=>by
  obtain⟨⟨old,s1⟩,s2⟩:=st;exact⟨⟨old,kk e (by simp) _ s1⟩,s2.at fun o z=>kk it (by simp) o z⟩
 item:=by
  intro X hP hw hK hc i pins s U H E I hf st hg;subst hP hw hK;obtain⟨⟨old,s1⟩,s2⟩:=st;obtain⟨xs,x,qa,ex⟩:=hg;obtain⟨ia,ra,pa,_⟩:=I.list qa;obtain⟨ux,eux,rx⟩:=ra.get ex;refine wpAny_pyNext_enum_item s1 s2 pa.isList (x:=ux) (by simpa using eux) hei fun h' b1 b2 b3 b4 bk=>?_;refine⟨_,rfl,wpAny_letOwnedTupleGo_enum b1 fun h2 c1 c2=>?_⟩;have lt1:e < s.heap.objs.size:=wLa s1;have lt2:it < s.heap.objs.size:=by obtain⟨o,ho,_⟩:=s2;exact wLa ho
  have kp:∀c o,c∉[e,it]->s.heap.get? c=some o->h2.get? c=some o:=fun c o hc z=>by
   simp only[List.mem_cons,List.not_mem_nil,or_false,not_or]at hc;exact c2.extBut c o hc.1 (bk c o hc.1 hc.2 z)
  have ht:IsTup h2 s.heap.objs.size ([.int i s.toks,ux]:List Value).toArray:=⟨_,c2.extBut _ _ (Nat.ne_of_gt lt1) b3,rfl,_,rfl⟩
  have I2:=I.tupled (t':=s.toks+1) (h':=h2) rfl hf kp (vs:=[.int i,x]) (us:=[.int i s.toks,ux]) (.cons ⟨_,rfl⟩ (.cons rx .nil)) yg ht;refine⟨.ref s.heap.objs.size,_,I2,rfl,⟨s.heap.objs.size,I.hok.fresh (wPa _),rfl,fun xs' x' qa' ex'=>?_⟩,⟨⟨ux,by simpa using c1⟩,b2.at fun o z=>c2.extBut _ o hei.symm z⟩,fun c hc=>?_⟩
  ·rw[I.list_inj qa' qa,ex]at ex';cases ex';rfl
  ·have q:=(hf c hc).1;rw[j7 ?_]
   ·exact q
   ·intro z;simp only[List.mem_cons,List.not_mem_nil,or_false]at hc;rcases hc with rfl | rfl
    ·rw[z]at lt1;exact wUa _ lt1
    ·rw[z]at lt2;exact wUa _ lt2
 done:=by
  intro X hP hw hK hc i pins s U H E I hf st hg;subst hP hw hK;obtain⟨⟨old,s1⟩,s2⟩:=st;obtain⟨xs,qa,hend⟩:=hg;obtain⟨ia,ra,pa,_⟩:=I.list qa;have la:=ra.length;refine wpAny_pyNext_enum_end (I.ok.hd hc) s1 s2 pa.isList (by simp;lia) fun h' bk=>⟨rfl,?_⟩
  refine I.turnedL (t':=s.toks) (ch:=[e,it]) hf fun c o hc z=>?_;simp only[List.mem_cons,List.not_mem_nil,or_false,not_or]at hc;exact bk c o hc.2 z
 self:=fun _ _ _ _ _ st h=>by
  obtain⟨⟨old,s1⟩,s2⟩:=st;exact wpAny_pyIter_enum s1 h
theorem Kq:bootBuiltins "enumerate" = some (.type "enumerate"):=by decide +kernel
def cM(K:uXa)(ta:TA):TI:=fun U H R=>ta U H fun vs H1=>∃a xs,vs=[.ref a]/\jr K H1 a xs/\R (Dq K a) H1
theorem QY{X:Cx}{es:List Expr}{x1:Nat}{tp:Pos}{e1:Expr}{ta:TA}{p pos:Pos}(hg:Gl X "enumerate")(hm:X.mg "enumerate" = none)(ha:PA X [e1] ta)(hs:starEach [e1] X.env=[(false,eval e1 X.env)]:=by rfl):
  PI X (.Tuple es x1 tp) (.Call (.Name "enumerate" p) [e1] [] pos) (cM X.K ta):=by
 intro pins s U H R I h;refine Call_ (yT I hg hm Kq (PyProof.Rows.callWith_type1 (jm (ha pos pins s U H _ I h) fun us s1 xx=>?_) hs rfl));obtain⟨vs,H1,I1,r1,q1⟩:=xx;obtain⟨a,xs,e,qa,q⟩:=q1;subst e;cases r1 with
 | cons r rr=>
  cases rr;cases r;obtain⟨ia,ra,pa,_⟩:=I1.list qa;have lt:a < s1.heap.objs.size:=by obtain⟨o,ho,_⟩:=pa.isList;exact wLa ho
  refine call_enumerate_list pa.isList fun h' b1 b2 b3 bk=>?_;refine wpAny_pyIter_enum b1 ?_;have fr:∀m,Ja X pins H1 (s1.heap.objs.size+m):=fun m=>I1.fpOk (vKa _ _) (I1.hok.fresh (vKa _ _));refine⟨_,_,_,_,H1,rfl,I1.kept (t':=s1.toks) bk,Kp (a:=a) (e:=s1.heap.objs.size+1) (it:=s1.heap.objs.size) (Nat.ne_of_gt (Nat.lt_succ_self _)) (wTa (Nat.lt_succ_of_lt lt)) (wTa lt),⟨⟨_,b1⟩,b2⟩,fun c hc=>?_,q⟩;simp only[List.mem_cons,List.not_mem_nil,or_false]at hc;rcases hc with rfl | rfl
  ·exact fr 1
  ·exact fr 0
noncomputable def ji(K:uXa)(c:Str):Addr:=match PySem.W.nsIn K mainGlobals c with
 | some (some (.ref C))=>C
 | _=>0
theorem zh{K:uXa}{c:Str}{C:Addr}(h:PySem.W.nsIn K mainGlobals c=some (some (.ref C))):ji K c=C:=by unfold ji;rw[h]
noncomputable def xW(dx:Addr)(fv:List (Str×V)):HO:=.ext fun h=>∃mA,h.Ns1 dx mA/\PySem.Within mA (fv.map (·.1))/\∀p∈fv,∃u,mA p.1=some u/\je p.2 u
noncomputable def xC(e C:Addr)(od:Option Addr):HO:=.ext fun h=>∃oe,h.get? e=some oe/\oe.cls=.ref C/\PySem.W.notCls oe=true/\∀d,od=some d->oe.dict=some d
theorem qp{P:Program}{w:World}{H:Hp}{hp:Heap}{dx:Addr}{fv:List (Str×V)}{mA:Str->Option Value}(hn:hp.Ns1 dx mA)(hw:PySem.Within mA (fv.map (·.1)))(hu:∀p∈fv,∃u,mA p.1=some u/\je p.2 u):jC P w H hp dx (xW dx fv):=
 ⟨⟨mA,hn,hw,hu⟩,(let ⟨o,_,_,e,_⟩:=hn;⟨o,e⟩),fun _ _ xx k=>by
  obtain⟨mA,⟨o,es,ep,e,c⟩,w⟩:=xx;exact⟨mA,⟨o,es,ep,k _ e,c⟩,w⟩⟩
theorem qr{P:Program}{w:World}{H:Hp}{hp:Heap}{e C:Addr}{od:Option Addr}{oe:Obj}(h:hp.get? e=some oe)(hc:oe.cls=.ref C)(hn:PySem.W.notCls oe=true)(hd:∀d,od=some d->oe.dict=some d):jC P w H hp e (xC e C od):=
 ⟨⟨oe,h,hc,hn,hd⟩,⟨oe,h⟩,fun _ _ xx k=>by
  obtain⟨o,a,b⟩:=xx;exact⟨o,k _ a,b⟩⟩
end L2
namespace DS
open PySem PySem.Spec PyProof.Rows L2
set_option genSizeOf true in
inductive D where
 | non | bl (b:Bool) | int (i:Int) | str (x:Str) | tup (l:List D) | lst (l:List D) | ins (C:Addr) (ns:List Str) (ds:List D) | scr (ns:List Int) | dct (ks vs:List D) | exn (c:Str) (fv:List (Str×V)) | mem (l:List (KD×Bool)) | dk (ks:List Str) (vs:List D) | obj (C:Addr) (ns:List Str) (ds:List D) (ms:List Str) (es:List D)
mutual
noncomputable def jz:D->Option KD
 | .int n=>some (.i n)
 | .bl b=>some (.i (if b then 1 else 0))
 | .str x=>some (.s x)
 | .tup l=>(yL l).bind fun ks=>some (.t ks)
 | _=>none
noncomputable def yL:List D->Option (List KD)
 | []=>some []
 | d::ds=>(jz d).bind fun k=>(yL ds).bind fun ks=>some (k::ks)
end
def Jn:D->Option KD
 | .tup l=>(jz (.tup l)).bind fun k=>if k.dep<=8 then some k else none
 | _=>none
def jQ:List D->Option (List KD)
 | []=>some []
 | d::ds=>(Jn d).bind fun k=>(jQ ds).bind fun ks=>some (k::ks)
mutual
noncomputable def j5(K:uXa)(H:Hp):D->V->Prop
 | .non,v=>v=.non
 | .bl b,v=>v=.bl b
 | .int i,v=>v=.int i
 | .str x,v=>v=.str x
 | .tup l,v=>∃a xs,v=.ref a/\J8 K H a xs/\j1 K H l xs
 | .lst l,v=>∃a xs,v=.ref a/\H a=some (.lst xs)/\j1 K H l xs
 | .scr ns,v=>∃a,v=.ref a/\jr K H a (ns.map V.int)
 | .ins C ns l,v=>∃a dx xs,v=.ref a/\H a=some (.ins C dx (ns.zip xs))/\ns.length=xs.length/\j1 K H l xs
 | .dct ks vs,v=>∃a kvs ep,v=.ref a/\H a=some (.dD kvs ep)/\jQ ks=some (kvs.map (·.1))/\j1 K H ks (kvs.map fun p=>V.ref p.2.1)/\j1 K H vs (kvs.map (·.2.2))
 | .exn c fv,v=>∃e od,v=.ref e/\H e=some (xC e (ji K c) od)/\(fv≠[]->∃dx,od=some dx/\H dx=some (xW dx fv))
 | .mem l,v=>∃a,v=.ref a/\H a=some (.mem K l [])
 | .dk ks vs,v=>∃a us ep,v=.ref a/\H a=some (.dK ((ks.map Sum.inr).zip us) ep)/\ks.length=us.length/\j1 K H vs us
 | .obj C ns ds ms es,v=>∃a dx vs ps,v=.ref a/\H a=some (.ins C dx (ns.zip vs++ms.zip ps))/\ns.length=vs.length/\ms.length=ps.length/\j1 K H ds vs/\j1 K H es ps
noncomputable def j1(K:uXa)(H:Hp):List D->List V->Prop
 | [],vs=>vs=[]
 | d::ds,vs=>∃v r,vs=v::r/\j5 K H d v/\j1 K H ds r
end
mutual
theorem j5.same{K:uXa}{H H':Hp}(e:j3 H H'):∀{d:D} {v:V},j5 K H d v->j5 K H' d v
 | .non,_,h=>h
 | .bl _,_,h=>h
 | .int _,_,h=>h
 | .str _,_,h=>h
 | .tup l,_,h=>by
  rw[j5]at h⊢;obtain⟨a,xs,rfl,q,r⟩:=h;exact⟨a,xs,rfl,e.tup q,j1.same e r⟩
 | .lst l,_,h=>by
  rw[j5]at h⊢;obtain⟨a,xs,rfl,q,r⟩:=h;exact⟨a,xs,rfl,e _ _ q,j1.same e r⟩
 | .scr ns,_,h=>by
  rw[j5]at h⊢;obtain⟨a,rfl,q⟩:=h;exact⟨a,rfl,e.seq q⟩
 | .ins C ns l,_,h=>by
  rw[j5]at h⊢;obtain⟨a,dx,xs,rfl,q,n,r⟩:=h;exact⟨a,dx,xs,rfl,e _ _ q,n,j1.same e r⟩
 | .dct ks vs,_,h=>by
  rw[j5]at h⊢;obtain⟨a,kvs,ep,rfl,q,n,r1,r2⟩:=h;exact⟨a,kvs,ep,rfl,e _ _ q,n,j1.same e r1,j1.same e r2⟩
 | .exn c fv,_,h=>by
  rw[j5]at h⊢;obtain⟨a,od,rfl,q,n⟩:=h;exact⟨a,od,rfl,e _ _ q,fun z=>let ⟨dx,z1,z2⟩:=n z;⟨dx,z1,e _ _ z2⟩⟩
 | .mem l,_,h=>by
  rw[j5]at h⊢;obtain⟨a,rfl,q⟩:=h;exact⟨a,rfl,e _ _ q⟩
 | .dk ks vs,_,h=>by
  rw[j5]at h⊢;obtain⟨a,us,ep,rfl,q,n,r⟩:=h;exact⟨a,us,ep,rfl,e _ _ q,n,j1.same e r⟩
 | .obj C ns ds ms es,_,h=>by
  rw[j5]at h⊢;obtain⟨a,dx,vs,ps,rfl,q,n1,n2,r1,r2⟩:=h;exact⟨a,dx,vs,ps,rfl,e _ _ q,n1,n2,j1.same e r1,j1.same e r2⟩
theorem j1.same{K:uXa}{H H':Hp}(e:j3 H H'):∀{ds:List D} {vs:List V},j1 K H ds vs->j1 K H' ds vs
 | [],_,h=>h
 | d::ds,_,h=>by
  rw[j1]at h⊢;obtain⟨v,r,rfl,a,b⟩:=h;exact⟨v,r,rfl,j5.same e a,j1.same e b⟩
end
section
variable {K:uXa} {H:Hp}
theorem j1.len:∀{ds:List D} {vs:List V},j1 K H ds vs->vs.length=ds.length
 | [],_,h=>by rw[j1]at h;subst h;rfl
 | d::ds,_,h=>by
  rw[j1]at h;obtain⟨v,r,rfl,a,b⟩:=h;rw[vXa,vXa,j1.len b]
theorem j1.get:∀{ds:List D} {vs:List V} {i:Nat} {d:D},j1 K H ds vs->ds[i]?=some d->∃v,vs[i]?=some v/\j5 K H d v
 | [],_,_,_,h,e=>by simp at e
 | d::ds,_,0,_,h,e=>by
  rw[j1]at h;obtain⟨v,r,rfl,a,b⟩:=h;simp at e;subst e;exact⟨v,rfl,a⟩
 | d::ds,_,i+1,d',h,e=>by
  rw[j1]at h;obtain⟨v,r,rfl,a,b⟩:=h;obtain⟨v',e',q⟩:=j1.get (i:=i) b (by simpa using e);exact⟨v',by simpa using e',q⟩
theorem j1.nil:j1 K H [] []:=by rw[j1]
theorem j1.cons{d:D}{ds:List D}{v:V}{vs:List V}(a:j5 K H d v)(b:j1 K H ds vs):j1 K H (d::ds) (v::vs):=by rw[j1];exact⟨v,vs,rfl,a,b⟩
theorem j1.app:∀{ds es:List D} {vs us:List V},j1 K H ds vs->j1 K H es us->j1 K H (ds++es) (vs++us)
 | [],_,_,_,h,g=>by rw[j1]at h;subst h;exact g
 | d::ds,es,_,us,h,g=>by
  rw[j1]at h;obtain⟨u,r,rfl,a,b⟩:=h;exact j1.cons a (j1.app b g)
theorem j1.snoc(h:j1 K H ds vs)(q:j5 K H d v):j1 K H (ds++[d]) (vs++[v]):=h.app (j1.cons q j1.nil)
theorem j1.drop:∀{ds:List D} {vs:List V} (n:Nat),j1 K H ds vs->j1 K H (ds.drop n) (vs.drop n)
 | _,_,0,h=>h
 | [],_,n+1,h=>by rw[j1]at h;subst h;exact j1.nil
 | d::ds,_,n+1,h=>by
  rw[j1]at h;obtain⟨u,r,rfl,a,b⟩:=h;exact j1.drop n b
theorem j1.take:∀{ds:List D} {vs:List V} (n:Nat),j1 K H ds vs->j1 K H (ds.take n) (vs.take n)
 | _,_,0,h=>j1.nil
 | [],_,n+1,h=>by rw[j1]at h;subst h;exact j1.nil
 | d::ds,_,n+1,h=>by
  rw[j1]at h;obtain⟨u,r,rfl,a,b⟩:=h;exact j1.cons a (j1.take n b)
theorem j1.set{d:D}{v:V}(q:j5 K H d v):∀{ds:List D} {vs:List V} (n:Nat),j1 K H ds vs->j1 K H (ds.set n d) (vs.set n v)
 | [],_,n,h=>by rw[j1]at h;subst h;exact j1.nil
 | e::ds,_,0,h=>by
  rw[j1]at h;obtain⟨u,r,rfl,a,b⟩:=h;exact j1.cons q b
 | e::ds,_,n+1,h=>by
  rw[j1]at h;obtain⟨u,r,rfl,a,b⟩:=h;exact j1.cons a (j1.set q n b)
end
noncomputable def j4(H:Hp)(O:List Addr):Hp:=fun b=>if b∈O then none else H b
theorem zi(h:b∈O):j4 H O b=none:=if_pos h
theorem jg(h:b∉O):j4 H O b=H b:=if_neg h
theorem jt(h:j4 H O b=some o):b∉O/\H b=some o:=by
 by_cases hb:b∈O
 ·rw[zi hb]at h;cases h
 ·rw[jg hb]at h;exact⟨hb,h⟩
theorem J0:j3 (j4 H O) H:=fun b o h=>(jt h).2
theorem jJ(s:∀a∈O',a∈O):j3 (j4 H O) (j4 H O'):=fun b o h=>by
 obtain⟨h1,h2⟩:=jt h;rw[jg (fun z=>h1 (s b z))];exact h2
theorem ja(s:j3 H H'):j3 (j4 H O) (j4 H' O):=fun b o h=>by
 obtain⟨h1,h2⟩:=jt h;rw[jg h1];exact s _ _ h2
theorem JS(s:j3 H H')(hl:H l=none):j3 (j4 H O) (j4 H' (l::O)):=fun b o h=>by
 obtain⟨h1,h2⟩:=jt h;have ne:b≠l:=jo h2 hl;rw[jg (by intro z;rcases List.mem_cons.mp z with z | z;exact ne z;exact h1 z)];exact s _ _ h2
theorem Jt(h:l∈O):j4 (upd H l o) O=j4 H O:=by
 funext b;by_cases hb:b∈O
 ·rw[zi hb,zi hb]
 ·rw[jg hb,jg hb,j7 (fun e=>hb (by rw[e];exact h))]
inductive OD where
 | lst (ds:List D) | ins (C:Addr) (ns:List Str) (ds:List D) | dct (ks vs:List D) | dk (ks:List Str) (vs:List D)
@[simp] noncomputable def OD.toD:OD->D
 | .lst ds=>.lst ds
 | .ins C ns ds=>.ins C ns ds
 | .dct ks vs=>.dct ks vs
 | .dk ks vs=>.dk ks vs
def Jo(K:uXa)(H Hd:Hp)(l:Addr):OD->Prop
 | .lst ds=>∃vs,H l=some (.lst vs)/\j1 K Hd ds vs
 | .ins C ns ds=>∃dx vs,H l=some (.ins C dx (ns.zip vs))/\ns.length=vs.length/\j1 K Hd ds vs
 | .dct ks vs=>∃kvs ep,H l=some (.dD kvs ep)/\jQ ks=some (kvs.map (·.1))/\j1 K Hd ks (kvs.map fun p=>V.ref p.2.1)/\j1 K Hd vs (kvs.map (·.2.2))
 | .dk ks vs=>∃us ep,H l=some (.dK ((ks.map Sum.inr).zip us) ep)/\ks.length=us.length/\j1 K Hd vs us
theorem Jo.same{K:uXa}{H H' Hd Hd':Hp}{l:Addr}{o:OD}(s:∀u,H l=some u->H' l=some u)(sd:j3 Hd Hd')(h:Jo K H Hd l o):Jo K H' Hd' l o:=by
 cases o with
 | lst ds=>obtain⟨vs,a,b⟩:=h;exact⟨vs,s _ a,b.same sd⟩
 | ins C ns ds=>obtain⟨dx,vs,a,n,b⟩:=h;exact⟨dx,vs,s _ a,n,b.same sd⟩
 | dct ks vs=>obtain⟨kvs,ep,a,n,b,c⟩:=h;exact⟨kvs,ep,s _ a,n,b.same sd,c.same sd⟩
 | dk ks vs=>obtain⟨us,ep,a,n,b⟩:=h;exact⟨us,ep,s _ a,n,b.same sd⟩
theorem Jo.there{K:uXa}{H Hd:Hp}{l:Addr}{o:OD}(h:Jo K H Hd l o):H l≠none:=by
 cases o with
 | lst ds=>obtain⟨vs,a,b⟩:=h;rw[a];exact fun z=>nomatch z
 | ins C ns ds=>obtain⟨dx,vs,a,n,b⟩:=h;rw[a];exact fun z=>nomatch z
 | dct ks vs=>obtain⟨kvs,ep,a,n,b⟩:=h;rw[a];exact fun z=>nomatch z
 | dk ks vs=>obtain⟨us,ep,a,n,b⟩:=h;rw[a];exact fun z=>nomatch z
theorem Jo.rep{K:uXa}{H Hd:Hp}{l:Addr}{o:OD}(s:∀u,H l=some u->Hd l=some u)(h:Jo K H Hd l o):j5 K Hd o.toD (.ref l):=by
 cases o with
 | lst ds=>obtain⟨vs,a,b⟩:=h;show j5 K Hd (.lst ds) _;rw[j5];exact⟨l,vs,rfl,s _ a,b⟩
 | ins C ns ds=>obtain⟨dx,vs,a,n,b⟩:=h;show j5 K Hd (.ins C ns ds) _;rw[j5];exact⟨l,dx,vs,rfl,s _ a,n,b⟩
 | dct ks vs=>obtain⟨kvs,ep,a,n,b,c⟩:=h;show j5 K Hd (.dct ks vs) _;rw[j5];exact⟨l,kvs,ep,rfl,s _ a,n,b,c⟩
 | dk ks vs=>obtain⟨us,ep,a,n,b⟩:=h;show j5 K Hd (.dk ks vs) _;rw[j5];exact⟨l,us,ep,rfl,s _ a,n,b⟩
structure HS where
 C:Addr
 ns:List Str
 ds:List D
 ms:List Str
 ls:List (List D)
@[simp] noncomputable def HS.toD(h:HS):D:=.obj h.C h.ns h.ds h.ms (h.ls.map D.lst)
def Jy(K:uXa)(Hd H:Hp):List Addr->List (List D)->Prop
 | [],[]=>True
 | a::as,m::r=>(∃vs,H a=some (.lst vs)/\j1 K Hd m vs)/\Jy K Hd H as r
 | _,_=>False
theorem Jy.mono{K:uXa}{Hd Hd' H H':Hp}(sd:j3 Hd Hd'):∀{as:List Addr} {ls:List (List D)},(∀a∈as,∀u,H a=some u->H' a=some u)->Jy K Hd H as ls->Jy K Hd' H' as ls
 | [],[],_,_=>trivial
 | a::as,xs::r,s,h=>by
  obtain⟨⟨vs,h1,h2⟩,h3⟩:=h;exact⟨⟨vs,s a wNa _ h1,h2.same sd⟩,Jy.mono sd (fun b hb=>s b (wMa _ hb)) h3⟩
 | [],_::_,_,h=>h.elim
 | _::_,[],_,h=>h.elim
theorem Jy.at{K:uXa}{Hd H:Hp}:∀{as:List Addr} {ls:List (List D)},Jy K Hd H as ls->∀a∈as,∃vs,H a=some (.lst vs)
 | _::_,_::_,h,a,ha=>by
  obtain⟨⟨vs,h1,_⟩,h3⟩:=h;rcases uTa ha with rfl | ha
  ·exact⟨vs,h1⟩
  ·exact Jy.at h3 a ha
 | _::_,[],h,_,_=>h.elim
theorem Jy.reps{K:uXa}{Hd H:Hp}(s:j3 Hd H):∀{as:List Addr} {ls:List (List D)},Jy K Hd H as ls->j1 K H (ls.map D.lst) (as.map V.ref)
 | [],[],_=>j1.nil
 | a::as,m::ls,h=>by
  obtain⟨⟨vs,h1,h2⟩,h3⟩:=h;exact j1.cons (by rw[j5];exact⟨a,vs,rfl,h1,h2.same s⟩) (Jy.reps s h3)
 | [],_::_,h=>h.elim
 | _::_,[],h=>h.elim
def JD(K:uXa)(H Hd:Hp)(l:Addr)(ps:List Addr)(h:HS):Prop:=(∃dx vs,H l=some (.ins h.C dx (h.ns.zip vs++h.ms.zip (ps.map V.ref)))/\h.ns.length=vs.length/\h.ms.length=ps.length/\j1 K Hd h.ds vs)/\Jy K Hd H ps h.ls
theorem JD.at{K:uXa}{H Hd:Hp}{l:Addr}{ps:List Addr}{h:HS}(x:JD K H Hd l ps h):∀a∈l::ps,∃o,H a=some o:=fun a ha=>by
 obtain⟨⟨dx,vs,h1,_⟩,h2⟩:=x;rcases uTa ha with rfl | ha
 ·exact⟨_,h1⟩
 ·obtain⟨vs,e⟩:=h2.at a ha;exact⟨_,e⟩
theorem JD.mono{K:uXa}{H H' Hd Hd':Hp}{l:Addr}{ps:List Addr}{h:HS}(s:∀a∈l::ps,∀u,H a=some u->H' a=some u)(sd:j3 Hd Hd')(x:JD K H Hd l ps h):JD K H' Hd' l ps h:=by
 obtain⟨⟨dx,vs,h1,n1,n2,r⟩,h2⟩:=x;exact⟨⟨dx,vs,s l wNa _ h1,n1,n2,r.same sd⟩,h2.mono sd fun a ha=>s a (wMa _ ha)⟩
theorem JD.rep{K:uXa}{H Hd:Hp}{l:Addr}{ps:List Addr}{h:HS}(s:j3 Hd H)(x:JD K H Hd l ps h):j5 K H h.toD (.ref l):=by
 obtain⟨⟨dx,vs,h1,n1,n2,r⟩,h2⟩:=x;show j5 K H (.obj _ _ _ _ _) _;rw[j5];exact⟨l,dx,vs,_,rfl,h1,n1,by rw[vYa];exact n2,r.same s,h2.reps s⟩
inductive Sl where
 | un
 | cl (d:D)
 | bo (d:D)
 | ow (q:Option Addr) (o:OD)
 | lo (q:Bool) (h:HS)
noncomputable abbrev jb:=List Sl
def RB(K:uXa)(O:List Addr)(H:Hp)(d:D)(v:V):Prop:=j5 K (j4 H O) d v \/ (∃l o,v=.ref l/\d=OD.toD o/\Jo K H (j4 H O) l o) \/∃l ps h,v=.ref l/\d=HS.toD h/\JD K H (j4 H O) l ps h
theorem RB.same{K:uXa}{O:List Addr}{H H':Hp}{d:D}{v:V}(s:j3 H H')(h:RB K O H d v):RB K O H' d v:=by
 rcases h with h | ⟨l,o,e1,e2,h1⟩ | ⟨l,ps,o,e1,e2,h1⟩
 ·exact .inl (h.same (ja s))
 ·exact .inr (.inl ⟨l,o,e1,e2,h1.same (s l) (ja s)⟩)
 ·exact .inr (.inr ⟨l,ps,o,e1,e2,h1.mono (fun a _ u z=>s a u z) (ja s)⟩)
theorem RB.full{K:uXa}{O:List Addr}{H:Hp}{d:D}{v:V}(h:RB K O H d v):j5 K H d v:=by
 rcases h with h | ⟨l,o,rfl,rfl,h1⟩ | ⟨l,ps,o,rfl,rfl,h1⟩
 ·exact h.same J0
 ·exact(h1.same (fun _ z=>z) J0).rep fun _ z=>z
 ·exact h1.rep J0
theorem RB.lst{K:uXa}{O:List Addr}{H:Hp}{ds:List D}{v:V}(h:RB K O H (.lst ds) v):∃p xs,v=.ref p/\H p=some (.lst xs)/\j1 K (j4 H O) ds xs:=by
 rcases h with h | ⟨l,o,rfl,e,h1⟩ | ⟨_,_,_,_,e,_⟩;rotate_left 2;· cases e
 ·rw[j5]at h;obtain⟨a,xs,rfl,q,r⟩:=h;exact⟨a,xs,rfl,J0 _ _ q,r⟩
 ·cases o <;> cases e;obtain⟨vs,a,b⟩:=h1;exact⟨l,vs,rfl,a,b⟩
theorem RB.tup{K:uXa}{O:List Addr}{H:Hp}{ds:List D}{v:V}(h:RB K O H (.tup ds) v):∃p xs,v=.ref p/\J8 K H p xs/\j1 K (j4 H O) ds xs:=by
 rcases h with h | ⟨l,o,rfl,e,h1⟩ | ⟨_,_,_,_,e,_⟩;rotate_left 2;· cases e
 ·rw[j5]at h;obtain⟨a,xs,rfl,q,r⟩:=h;exact⟨a,xs,rfl,J0.tup q,r⟩
 ·cases o <;> cases e
theorem RB.int{K:uXa}{O:List Addr}{H:Hp}{i:Int}{v:V}(h:RB K O H (.int i) v):v=.int i:=by have:=h.full;rwa [j5]at this
theorem RB.bl{K:uXa}{O:List Addr}{H:Hp}{i:Bool}{v:V}(h:RB K O H (.bl i) v):v=.bl i:=by have:=h.full;rwa [j5]at this
theorem RB.str{K:uXa}{O:List Addr}{H:Hp}{i:Str}{v:V}(h:RB K O H (.str i) v):v=.str i:=by have:=h.full;rwa [j5]at this
theorem RB.non{K:uXa}{O:List Addr}{H:Hp}{v:V}(h:RB K O H .non v):v=.non:=by have:=h.full;rwa [j5]at this
theorem RB.ins{K:uXa}{O:List Addr}{H:Hp}{C:Addr}{ns:List Str}{ds:List D}{v:V}(h:RB K O H (.ins C ns ds) v):∃a dx xs,v=.ref a/\H a=some (.ins C dx (ns.zip xs))/\ns.length=xs.length/\j1 K (j4 H O) ds xs:=by
 rcases h with h | ⟨l,o,rfl,e,h1⟩ | ⟨_,_,_,_,e,_⟩;rotate_left 2;· cases e
 ·rw[j5]at h;obtain⟨a,dx,xs,rfl,q,n,r⟩:=h;exact⟨a,dx,xs,rfl,J0 _ _ q,n,r⟩
 ·cases o <;> cases e;obtain⟨dx,vs,a,n,b⟩:=h1;exact⟨l,dx,vs,rfl,a,n,b⟩
theorem RB.dk{K:uXa}{O:List Addr}{H:Hp}{ks:List Str}{vs:List D}{v:V}(h:RB K O H (.dk ks vs) v):∃a us ep,v=.ref a/\H a=some (.dK ((ks.map Sum.inr).zip us) ep)/\ks.length=us.length/\j1 K (j4 H O) vs us:=by
 rcases h with h | ⟨l,o,rfl,e,h1⟩ | ⟨_,_,_,_,e,_⟩;rotate_left 2;· cases e
 ·rw[j5]at h;obtain⟨a,us,ep,rfl,q,n,r⟩:=h;exact⟨a,us,ep,rfl,J0 _ _ q,n,r⟩
 ·cases o <;> cases e;obtain⟨us,ep,a,n,b⟩:=h1;exact⟨l,us,ep,rfl,a,n,b⟩
theorem RB.dct{K:uXa}{O:List Addr}{H:Hp}{ks vs:List D}{v:V}(h:RB K O H (.dct ks vs) v):∃a kvs ep,v=.ref a/\H a=some (.dD kvs ep)/\jQ ks=some (kvs.map (·.1))/\j1 K (j4 H O) ks (kvs.map fun p=>V.ref p.2.1)/\j1 K (j4 H O) vs (kvs.map (·.2.2)):=by
 rcases h with h | ⟨l,o,rfl,e,h1⟩ | ⟨_,_,_,_,e,_⟩;rotate_left 2;· cases e
 ·rw[j5]at h;obtain⟨a,kvs,ep,rfl,q,n,r⟩:=h;exact⟨a,kvs,ep,rfl,J0 _ _ q,n,r⟩
 ·cases o <;> cases e;obtain⟨kvs,ep,a,n,b⟩:=h1;exact⟨l,kvs,ep,rfl,a,n,b⟩
theorem RB.obj{K:uXa}{O:List Addr}{H:Hp}{C:Addr}{ns ms:List Str}{ds es:List D}{v:V}(h:RB K O H (.obj C ns ds ms es) v):∃a dx vs ps,v=.ref a/\H a=some (.ins C dx (ns.zip vs++ms.zip ps))/\ns.length=vs.length/\ms.length=ps.length/\j1 K (j4 H O) ds vs/\∀(i:Nat) (d:D),es[i]?=some d->∃p,ps[i]?=some p/\RB K O H d p:=by
 rcases h with h | ⟨l,o,rfl,e,h1⟩ | ⟨l,ps,o,rfl,e,h1⟩
 ·rw[j5]at h;obtain⟨a,dx,vs,ps,rfl,q,n1,n2,r1,r2⟩:=h;refine⟨a,dx,vs,ps,rfl,J0 _ _ q,n1,n2,r1,fun i d e=>?_⟩;obtain⟨v,z1,z2⟩:=r2.get e;exact⟨v,z1,.inl z2⟩
 ·cases o <;> cases e
 ·cases e;obtain⟨⟨dx,vs,h1,n1,n2,r⟩,h2⟩:=h1;refine⟨l,dx,vs,_,rfl,h1,n1,by rw[vYa];exact n2,r,fun i d e=>?_⟩;have key:∀{as:List Addr} {ls:List (List D)} {i:Nat} {d:D},Jy K (j4 H O) H as ls->(ls.map D.lst)[i]?=some d->∃p,(as.map V.ref)[i]?=some p/\RB K O H d p:=by
   intro as;induction as with
   | nil=>intro ls i d z e;cases ls with
    | nil=>cases e
    | cons _ _=>exact z.elim
   | cons a as ih=>
    intro ls i d z e;cases ls with
    | nil=>exact z.elim
    | cons m ls=>
     obtain⟨⟨us,z1,z2⟩,z3⟩:=z;cases i with
     | zero=>
      cases e;exact⟨_,rfl,.inr (.inl ⟨a,.lst m,rfl,rfl,us,z1,z2⟩)⟩
     | succ i=>exact ih z3 e
  exact key h2 e
def zw(Z:jb)(U:L2.St)(a:Addr):Prop:=∃(j:Nat) (q:Option Addr) (o:OD),Z[j]?=some (.ow q o)/\U[j]?=some (some (.ref a))
structure FA where
 l:List Addr
 p:Addr
noncomputable instance:Coe FA (List Addr):=⟨FA.l⟩
def qt(K:uXa)(H0:Hp)(P:Addr)(Z:jb)(U:L2.St)(H:Hp)(O:List Addr):Prop:=∀(i:Nat) (q:Bool) (h:HS),Z[i]?=some (.lo q h)->∃l ps,U[i]?=some (some (.ref l))/\(q=true->l=P)/\JD K H (j4 H O) l ps h/\(l::ps).Nodup/\(∀a∈l::ps,a∈O/\H0 a=none/\¬zw Z U a)/\∀j q' h',Z[j]?=some (.lo q' h')->j=i
theorem qt.up{K:uXa}{H0 H H':Hp}{P:Addr}{Z Z':jb}{U U':L2.St}{O O':List Addr}(h:qt K H0 P Z U H O)(h1:∀(i:Nat) (q:Bool) (x:HS),Z'[i]?=some (.lo q x)->Z[i]?=some (.lo q x)/\U'[i]?=U[i]?)(h2:∀a,H a≠none->zw Z' U' a->zw Z U a)
  (h3:∀a,a∈O->¬zw Z U a->a∈O'/\∀u,H a=some u->H' a=some u) (h4:j3 (j4 H O) (j4 H' O')):qt K H0 P Z' U' H' O':=fun i q x e=>by
 obtain⟨e1,e2⟩:=h1 i q x e;obtain⟨l,ps,a,pp,b,n,f,u⟩:=h i q x e1;have k:∀c∈l::ps,∀u,H c=some u->H' c=some u:=fun c hc=>(h3 c (f c hc).1 (f c hc).2.2).2;refine⟨l,ps,e2.trans a,pp,b.mono k h4,n,fun c hc=>⟨(h3 c (f c hc).1 (f c hc).2.2).1,(f c hc).2.1,fun z=>(f c hc).2.2 (h2 c ?_ z)⟩,fun j q' h' z=>u j q' h' (h1 j q' h' z).1⟩;obtain⟨vs,hv⟩:=b.at c hc;rw[hv];exact fun z=>nomatch z
structure Rel (K:uXa) (H0:Hp) (O0:FA) (Z:jb) (U:L2.St) (H:Hp) (O:List Addr):Prop where
 len:U.length=Z.length
 sub:∀a∈O0.l,a∈O
 fr:∀a∈O,a∈O0.l \/ H0 a=none
 al0:∀a∈O0.l,H0 a≠none
 al:∀a∈O,H a≠none
 keep:j3 H0 H
 cl:∀(i:Nat) (d:D),Z[i]?=some (.cl d)->∃v,U[i]?=some (some v)/\j5 K (j4 H O) d v
 bo:∀(i:Nat) (d:D),Z[i]?=some (.bo d)->∃v,U[i]?=some (some v)/\RB K O0.l H0 d v
 ow:∀(i:Nat) (q:Option Addr) (o:OD),Z[i]?=some (.ow q o)->∃l,(∀p,q=some p->l=p)/\U[i]?=some (some (.ref l))/\Jo K H (j4 H O) l o/\l∈O/\H0 l=none
 dist:∀(i j:Nat) (q q':Option Addr) (ds es:OD) (l:Addr),Z[i]?=some (.ow q ds)->Z[j]?=some (.ow q' es)->U[i]?=some (some (.ref l))->U[j]?=some (some (.ref l))->i=j
 lo:qt K H0 O0.p Z U H O
section
variable {K:uXa} {H0 H H':Hp} {O0:FA} {O:List Addr} {Z:jb} {U:L2.St}
theorem Rel.in0(R:Rel K H0 O0 Z U H O):j3 (j4 H0 O0.l) (j4 H O):=fun b o h=>by
 obtain⟨h1,h2⟩:=jt h;rw[jg (fun z=>by rcases R.fr b z with y | y;exact h1 y;rw[h2]at y;cases y)];exact R.keep _ _ h2
theorem Rel.grow(R:Rel K H0 O0 Z U H O)(s:j3 H H'):Rel K H0 O0 Z U H' O where
 len:=R.len
 sub:=R.sub
 fr:=R.fr
 al0:=R.al0
 al:=fun a h z=>R.al a h (s.none z)
 keep:=R.keep.trans s
 cl:=fun i d e=>by obtain⟨v,a,b⟩:=R.cl i d e;exact⟨v,a,b.same (ja s)⟩
 bo:=R.bo
 ow:=fun i q d e=>by obtain⟨l,z,a,b,d,f⟩:=R.ow i q d e;exact⟨l,z,a,b.same (s l) (ja s),d,f⟩
 dist:=R.dist
 lo:=R.lo.up (fun i q x e=>⟨e,rfl⟩) (fun a _ z=>z) (fun a h _=>⟨h,fun u z=>s a u z⟩) (ja s)
theorem Rel.new(R:Rel K H0 O0 Z U H O)(h:H p=none):p∉O:=fun z=>R.al p z h
theorem jf{α:Type}{xs:List α}{i j:Nat}{x y:α}(h:(xs.set i x)[j]?=some y):(j=i/\y=x/\i < xs.length) \/ (j≠i/\xs[j]?=some y):=by
 rw[List.getElem?_set]at h;by_cases e:i=j
 ·subst e;rw[if_pos rfl]at h;split at h
  ·exact .inl ⟨rfl,(vFa h).symm,by assumption⟩
  ·cases h
 ·rw[if_neg e]at h;exact .inr ⟨fun z=>e z.symm,h⟩
theorem yD{xs:List α}(h:i < xs.length):(xs.set i x)[i]?=some x:=by simp[h]
theorem jx{xs:List α}(h:j≠i):(xs.set i x)[j]?=xs[j]?:=by rw[List.getElem?_set,if_neg (fun z=>h z.symm)]
theorem Z4{i j:Nat}{s:Sl}{v:Option V}{q:Bool}{h:HS}(hs:∀q h,s≠.lo q h)(e:(Z.set i s)[j]?=some (.lo q h)):Z[j]?=some (.lo q h)/\(U.set i v)[j]?=U[j]?:=by
 rcases jf e with⟨rfl,e',_⟩ | ⟨ne,e'⟩
 ·exact vDa e'.symm (hs q h)
 ·exact⟨e',jx ne⟩
theorem ZR(hs:∀q o,s=.ow q o->v≠some (.ref a))(hi:U.length=Z.length):zw (Z.set i s) (U.set i v) a->zw Z U a:=fun xx=>by
 obtain⟨j,q,o,e,z⟩:=xx;rcases jf e with⟨rfl,e',hj⟩ | ⟨ne,e'⟩
 ·rw[yD (by rw[hi];exact hj)]at z;exact vDa (vFa z) (hs _ _ e'.symm)
 ·rw[jx ne]at z;exact⟨j,q,o,e',z⟩
theorem Rel.set(R:Rel K H0 O0 Z U H O){d:D}{v:V}(q:j5 K (j4 H O) d v)(i:Nat):Rel K H0 O0 (Z.set i (.cl d)) (U.set i (some v)) H O where
 len:=by rw[List.length_set,List.length_set];exact R.len
 sub:=R.sub
 fr:=R.fr
 al0:=R.al0
 al:=R.al
 keep:=R.keep
 cl:=fun j d' e=>by
  rcases jf e with⟨rfl,e',hi⟩ | ⟨ne,e'⟩
  ·cases e';exact⟨v,yD (by rw[R.len];exact hi),q⟩
  ·rw[jx ne];exact R.cl j d' e'
 bo:=fun j d' e=>by
  rcases jf e with⟨rfl,e',hi⟩ | ⟨ne,e'⟩
  ·cases e'
  ·rw[jx ne];exact R.bo j d' e'
 ow:=fun j q' d' e=>by
  rcases jf e with⟨rfl,e',hi⟩ | ⟨ne,e'⟩
  ·cases e'
  ·rw[jx ne];exact R.ow j q' d' e'
 dist:=fun j k q1 q2 ds es l e1 e2 s1 s2=>by
  rcases jf e1 with⟨rfl,e',hi⟩ | ⟨ne,e1'⟩
  ·cases e'
  ·rcases jf e2 with⟨rfl,e',hi⟩ | ⟨ne2,e2'⟩
   ·cases e'
   ·rw[jx ne]at s1;rw[jx ne2]at s2;exact R.dist j k q1 q2 ds es l e1' e2' s1 s2
 lo:=R.lo.up (fun j q x e=>Z4 (by intro _ _ z;cases z) e) (fun a _ z=>ZR (by intro _ _ z;cases z) R.len z) (fun a h _=>⟨h,fun u z=>z⟩) (j3.refl _)
theorem Rel.own(R:Rel K H0 O0 Z U H O)(s:j3 H H')(hn:H l=none)(h:Jo K H' (j4 H' (l::O)) l ds)(i:Nat):Rel K H0 O0 (Z.set i (.ow none ds)) (U.set i (some (.ref l))) H' (l::O) where
 len:=by rw[List.length_set,List.length_set];exact R.len
 sub:=fun a h=>wMa _ (R.sub a h)
 fr:=fun a ha=>by
  rcases uTa ha with rfl | ha
  ·exact .inr (R.keep.none hn)
  ·exact R.fr a ha
 al0:=R.al0
 al:=fun a ha=>by
  rcases uTa ha with rfl | ha
  ·exact h.there
  ·exact fun z=>R.al a ha (s.none z)
 keep:=R.keep.trans s
 cl:=fun j d' e=>by
  rcases jf e with⟨rfl,e',hi⟩ | ⟨ne,e'⟩
  ·cases e'
  ·rw[jx ne];obtain⟨v,a,b⟩:=R.cl j d' e';exact⟨v,a,b.same (JS s hn)⟩
 bo:=fun j d' e=>by
  rcases jf e with⟨rfl,e',hi⟩ | ⟨ne,e'⟩
  ·cases e'
  ·rw[jx ne];exact R.bo j d' e'
 ow:=fun j q' d' e=>by
  rcases jf e with⟨rfl,e',hi⟩ | ⟨ne,e'⟩
  ·cases e';exact⟨l,(fun p z=>nomatch z),yD (by rw[R.len];exact hi),h,wNa,R.keep.none hn⟩
  ·rw[jx ne];obtain⟨l',z,a,b,d,f⟩:=R.ow j q' d' e';exact⟨l',z,a,b.same (s l') (JS s hn),wMa _ d,f⟩
 dist:=fun j k q1 q2 ds' es l' e1 e2 s1 s2=>by
  have other:∀(j:Nat) (q:Option Addr) (ds:OD),Z[j]?=some (.ow q ds)->U[j]?≠some (some (.ref l)):=fun j q ds e z=>by
   obtain⟨l2,_,a,b,_⟩:=R.ow j q ds e;rw[z]at a;cases a;exact b.there hn
  rcases jf e1 with⟨rfl,e',hi⟩ | ⟨ne,e1'⟩
  ·rcases jf e2 with⟨rfl,e'',hi'⟩ | ⟨ne2,e2'⟩
   ·rfl
   ·rw[yD (by rw[R.len];exact hi)]at s1;cases s1;rw[jx ne2]at s2;exact vDa s2 (other k q2 es e2')
  ·rcases jf e2 with⟨rfl,e',hi⟩ | ⟨ne2,e2'⟩
   ·rw[yD (by rw[R.len];exact hi)]at s2;cases s2;rw[jx ne]at s1;exact vDa s1 (other j q1 ds' e1')
   ·rw[jx ne]at s1;rw[jx ne2]at s2;exact R.dist j k q1 q2 ds' es l' e1' e2' s1 s2
 lo:=R.lo.up (fun j q x e=>Z4 (by intro _ _ z;cases z) e) (fun a ha z=>ZR (by intro _ _ _ y;cases y;exact ha hn) R.len z) (fun a ha _=>⟨wMa _ ha,fun u z=>s a u z⟩) (JS s hn)
theorem Rel.change(R:Rel K H0 O0 Z U H O)(e:Z[i]?=some (.ow qq ds))(hq:∀p,qq=some p->l=p)(hi:U[i]?=some (some (.ref l)))(hl:l∈O)(h0:H0 l=none)(q:Jo K (upd H l u) (j4 H O) l ds'):Rel K H0 O0 (Z.set i (.ow qq ds')) U (upd H l u) O where
 len:=by rw[List.length_set];exact R.len
 sub:=R.sub
 fr:=R.fr
 al0:=R.al0
 al:=fun a ha=>by
  by_cases z:a=l
  ·rw[z,jc];exact fun z=>nomatch z
  ·rw[j7 z];exact R.al a ha
 keep:=R.keep.upd h0 _
 cl:=fun j d' e=>by
  rcases jf e with⟨rfl,e',hi⟩ | ⟨ne,e'⟩
  ·cases e'
  ·rw[Jt hl];exact R.cl j d' e'
 bo:=fun j d' e=>by
  rcases jf e with⟨rfl,e',hi⟩ | ⟨ne,e'⟩
  ·cases e'
  ·exact R.bo j d' e'
 ow:=fun j q' d' e2=>by
  rw[Jt hl];rcases jf e2 with⟨rfl,e',_⟩ | ⟨ne,e'⟩
  ·cases e';exact⟨l,hq,hi,q,hl,h0⟩
  ·obtain⟨l',z,a,b,d,f⟩:=R.ow j q' d' e';refine⟨l',z,a,b.same (fun u h=>?_) (j3.refl _),d,f⟩;rw[j7]
   ·exact h
   ·rintro rfl;exact ne (R.dist j i _ _ _ _ _ e' e a hi)
 dist:=fun j k q1 q2 ds1 es l' e1 e2 s1 s2=>by
  have f:∀(j:Nat) (q:Option Addr) (ds1:OD),(Z.set i (.ow qq ds'))[j]?=some (.ow q ds1)->∃q2 ds2,Z[j]?=some (.ow q2 ds2):=fun j q ds1 z=>by
   rcases jf z with⟨rfl,_,_⟩ | ⟨_,z⟩
   ·exact⟨_,_,e⟩
   ·exact⟨_,_,z⟩
  obtain⟨_,d1,f1⟩:=f j _ _ e1;obtain⟨_,d2,f2⟩:=f k _ _ e2;exact R.dist j k _ _ _ _ l' f1 f2 s1 s2
 lo:=by
  have ft:zw Z U l:=⟨i,_,_,e,hi⟩
  refine R.lo.up (fun j q x e=>⟨(Z4 (U:=U) (v:=none) (by intro _ _ z;cases z) e).1,rfl⟩) (fun a _ ⟨j,q,o,e',z⟩=>?_) (fun a ha nf=>⟨ha,fun u z=>?_⟩) (by rw[Jt hl];exact j3.refl _)
  ·rcases jf e' with⟨rfl,_,_⟩ | ⟨_,e'⟩
   ·exact⟨_,_,_,e,z⟩
   ·exact⟨j,q,o,e',z⟩
  ·rw[j7 fun y=>nf (by rw[y];exact ft)];exact z
theorem Rel.share(R:Rel K H0 O0 Z U H O){ds:OD}(e:Z[i]?=some (.ow q ds)):∃O',Rel K H0 O0 (Z.set i (.cl ds.toD)) U H O'/\j3 (j4 H O) (j4 H O'):=by
 obtain⟨l,_,hs,q,lo,h0⟩:=R.ow i q ds e;have ss:j3 (j4 H O) (j4 H (O.filter (·≠l))):=jJ fun a h=>(List.mem_filter.mp h).1;have nin:l∉O.filter (·≠l):=fun z=>by simpa using (List.mem_filter.mp z).2
 refine⟨O.filter (·≠l),⟨by rw[List.length_set];exact R.len,fun a h=>List.mem_filter.mpr ⟨R.sub a h,?_⟩,fun a h=>R.fr a (List.mem_filter.mp h).1,R.al0,fun a h=>R.al a (List.mem_filter.mp h).1,R.keep,?_,?_,?_,?_,?_⟩,ss⟩
 ·have z:a≠l:=by
   rintro rfl;exact R.al0 a h h0
  simpa using z
 ·intro j d' e2;rcases jf e2 with⟨rfl,e',hi⟩ | ⟨ne,e'⟩
  ·cases e';exact⟨_,hs,(q.same (fun _ z=>z) ss).rep fun u z=>by rw[jg nin];exact z⟩
  ·obtain⟨v,a,b⟩:=R.cl j d' e';exact⟨v,a,b.same ss⟩
 ·intro j d' e2;rcases jf e2 with⟨rfl,e',hi⟩ | ⟨ne,e'⟩
  ·cases e'
  ·exact R.bo j d' e'
 ·intro j q' d' e2;rcases jf e2 with⟨rfl,e',hi⟩ | ⟨ne,e'⟩
  ·cases e'
  ·obtain⟨l',z,a,b,d,f⟩:=R.ow j q' d' e';refine⟨l',z,a,b.same (fun _ z=>z) ss,List.mem_filter.mpr ⟨d,?_⟩,f⟩;have z:l'≠l:=by
    rintro rfl;exact ne (R.dist j i _ _ _ _ _ e' e a hs)
   simpa using z
 ·intro j k q1 q2 ds1 es l' e1 e2 s1 s2;rcases jf e1 with⟨rfl,e',hi⟩ | ⟨ne,e1'⟩
  ·cases e'
  ·rcases jf e2 with⟨rfl,e',hi⟩ | ⟨ne2,e2'⟩
   ·cases e'
   ·exact R.dist j k _ _ _ _ l' e1' e2' s1 s2
 ·refine R.lo.up (fun j q x e=>⟨(Z4 (U:=U) (v:=none) (by intro _ _ z;cases z) e).1,rfl⟩) (fun a _ ⟨j,q,o,e',z⟩=>?_) (fun a ha nf=>⟨List.mem_filter.mpr ⟨ha,?_⟩,fun u z=>z⟩) ss
  ·rcases jf e' with⟨rfl,y,_⟩ | ⟨_,e'⟩
   ·cases y
   ·exact⟨j,q,o,e',z⟩
  ·have:a≠l:=fun y=>nf (by rw[y];exact⟨i,_,_,e,hs⟩);simpa using this
end
abbrev DE:=jb->Option D
abbrev DO:=jb->Option OD
noncomputable abbrev Fr:=uXa
def tE(K:Fr)(de:DE):TE:=fun U H Q=>∃H0 O0 Z O d,Rel K H0 O0 Z U H O/\de Z=some d/\∀v H',j3 H H'->j5 K (j4 H' O) d v->Q v H'
def tR(K:Fr)(de:DE):TE:=fun U H Q=>∃H0 O0 Z O d,Rel K H0 O0 Z U H O/\de Z=some d/\∀v H',j3 H H'->RB K O H' d v->Q v H'
def tF(K:Fr)(de:DO):TE:=fun U H Q=>∃H0 O0 Z O o,Rel K H0 O0 Z U H O/\de Z=some o/\∀l H',j3 H H'->H l=none->Jo K H' (j4 H' (l::O)) l o->Q (.ref l) H'
def tT(K:Fr)(dt:jb->Option Bool):TT:=fun U H Q=>∃H0 O0 Z O b,Rel K H0 O0 Z U H O/\dt Z=some b/\∀H',j3 H H'->Q b H'
def AK(K:Fr)(O:List Addr)(H:Hp):Bool->D->V->Prop
 | true,d,v=>j5 K (j4 H O) d v
 | false,d,v=>RB K O H d v
def Jh(K:Fr)(O:List Addr)(H:Hp):List Bool->List D->List V->Prop
 | [],[],[]=>True
 | k::ks,d::ds,v::vs=>AK K O H k d v/\Jh K O H ks ds vs
 | _,_,_=>False
theorem AK.same{K:Fr}{O:List Addr}{H H':Hp}(s:j3 H H'):∀{k:Bool} {d:D} {v:V},AK K O H k d v->AK K O H' k d v
 | true,_,_,h=>j5.same (ja s) h
 | false,_,_,h=>RB.same s h
theorem AK.rb{K:Fr}{O:List Addr}{H:Hp}:∀{k:Bool} {d:D} {v:V},AK K O H k d v->RB K O H d v
 | true,_,_,h=>.inl h
 | false,_,_,h=>h
theorem Jh.same{K:Fr}{O:List Addr}{H H':Hp}(s:j3 H H'):∀{ks:List Bool} {ds:List D} {vs:List V},Jh K O H ks ds vs->Jh K O H' ks ds vs
 | [],[],[],_=>trivial
 | _::_,_::_,_::_,h=>⟨AK.same s h.1,Jh.same s h.2⟩
 | [],[],_::_,h=>h.elim
 | [],_::_,_,h=>h.elim
 | _::_,[],_,h=>h.elim
 | _::_,_::_,[],h=>h.elim
noncomputable abbrev DA:=List (Bool×DE)
@[simp] noncomputable def J9:DA->jb->Option (List D)
 | [],_=>some []
 | p::ps,Z=>(p.2 Z).bind fun d=>(J9 ps Z).bind fun ds=>some (d::ds)
def Ji(K:Fr)(l:DA):TA:=fun U H Q=>∃H0 O0 Z O ds,Rel K H0 O0 Z U H O/\J9 l Z=some ds/\∀vs H',j3 H H'->Jh K O H' (l.map (·.1)) ds vs->Q vs H'
section
variable {X:Cx} {K:Fr} {e a b c d:Expr} {de da db dc dd:DE} {pos:Pos}
theorem jj(h:PE X e t)(f:∀U H Q,t' U H Q->t U H Q):PE X e t':=fun pins s U H Q I q=>h pins s U H Q I (f U H Q q)
theorem vA(h:PT X e t)(f:∀U H Q,t' U H Q->t U H Q):PT X e t':=fun pins s U H Q I q=>h pins s U H Q I (f U H Q q)
theorem qu(h:PW X e t)(f:∀U H Q,t' U H Q->t U H Q):PW X e t':=fun w pins s U H Q I q=>h w pins s U H Q I (f U H Q q)
theorem qv(h:PA X es t)(f:∀U H Q,t' U H Q->t U H Q):PA X es t':=fun p pins s U H Q I q=>h p pins s U H Q I (f U H Q q)
theorem E4(h:PE X e (tE K de)):PE X e (tR K de):=jj h fun U H Q ⟨H0,O0,Z,O,d,R,ed,q⟩=>⟨H0,O0,Z,O,d,R,ed,fun v H' s r=>q v H' s (.inl r)⟩
@[simp] def dL(df:DO)(Z:jb):Option D:=(df Z).bind fun l=>some l.toD
theorem j0{o:Option α}(h:o.bind f=some y):∃x,o=some x/\f x=some y:=by
 cases o with
 | none=>cases h
 | some x=>exact⟨x,rfl,h⟩
theorem E5(h:PE X e (tF K df)):PE X e (tE K (dL df)):=jj h fun U H Q xx=>by
 obtain⟨H0,O0,Z,O,d,R,ed,q⟩:=xx;obtain⟨ds,e1,e2⟩:=j0 ed;cases e2;exact⟨H0,O0,Z,O,ds,R,e1,fun l H' s hn r=>q _ _ s ((r.same (fun _ z=>z) (jJ fun a h=>wMa _ h)).rep fun u z=>by rw[jg (R.new hn)];exact z)⟩
@[simp] def dV(i:Nat)(Z:jb):Option D:=match Z[i]? with
 | some (.cl d)=>some d
 | some (.bo d)=>some d
 | some (.ow _ o)=>some o.toD
 | some (.lo _ h)=>some h.toD
 | _=>none
@[simp] noncomputable def dC(i:Nat)(Z:jb):Option D:=match Z[i]? with
 | some (.cl d)=>some d
 | _=>none
theorem cP(i:Nat)(h:PE X (.Name x pos) (Jr i)):PE X (.Name x pos) (tR K (dV i)):=jj h fun U H Q xx=>by
 obtain⟨H0,O0,Z,O,d,R,ed,q⟩:=xx;unfold dV at ed;split at ed
 ·cases ed;obtain⟨v,e1,r⟩:=R.cl i _ (by assumption);exact⟨v,e1,q v H (j3.refl H) (.inl r)⟩
 ·cases ed;obtain⟨v,e1,r⟩:=R.bo i _ (by assumption);refine⟨v,e1,q v H (j3.refl H) ?_⟩;rcases r with r | ⟨l,o,e2,e3,h1⟩ | ⟨l,ps,o,e2,e3,h1⟩
  ·exact .inl (r.same R.in0)
  ·exact .inr (.inl ⟨l,o,e2,e3,h1.same (R.keep l) R.in0⟩)
  ·exact .inr (.inr ⟨l,ps,o,e2,e3,h1.mono (fun a _ u z=>R.keep a u z) R.in0⟩)
 ·cases ed;obtain⟨l,_,e1,h1,_⟩:=R.ow i _ _ (by assumption);exact⟨_,e1,q _ H (j3.refl H) (.inr (.inl ⟨l,_,rfl,rfl,h1⟩))⟩
 ·cases ed;obtain⟨l,ps,e1,_,h1,_⟩:=R.lo i _ _ (by assumption);exact⟨_,e1,q _ H (j3.refl H) (.inr (.inr ⟨l,ps,_,rfl,rfl,h1⟩))⟩
 ·cases ed
theorem qw(i:Nat)(h:PE X (.Name x pos) (Jr i)):PE X (.Name x pos) (tE K (dC i)):=jj h fun U H Q xx=>by
 obtain⟨H0,O0,Z,O,d,R,ed,q⟩:=xx;unfold dC at ed;split at ed
 ·cases ed;obtain⟨v,e1,r⟩:=R.cl i _ (by assumption);exact⟨v,e1,q v H (j3.refl H) r⟩
 ·cases ed
@[simp] noncomputable def dK(d:D)(_:jb):Option D:=some d
theorem vB{v:V}{d:D}(h:PE X e (tC v))(r:∀H,j5 K H d v):PE X e (tE K (dK d)):=jj h fun U H Q xx=>by
 obtain⟨H0,O0,Z,O,d',R,ed,q⟩:=xx;cases ed;exact q v H (j3.refl H) (r _)
theorem cR{i j}:PE X (.Constant (.int i) j pos) (tE K (dK (.int i))):=vB Xy fun _=>by rw[j5]
theorem E6{i j}:PE X (.Constant (.bool i) j pos) (tE K (dK (.bl i))):=vB B_ fun _=>by rw[j5]
theorem cU{j}:PE X (.Constant .none j pos) (tE K (dK .non)):=vB Xz fun _=>by rw[j5]
theorem cX{i j}:PE X (.Constant (.str i) j pos) (tE K (dK (.str i))):=vB K4 fun _=>by rw[j5]
theorem aL{x:Str}{i:Int}(h:PE X (.Name x pos) (tC (.int i))):PE X (.Name x pos) (tE K (dK (.int i))):=vB h fun _=>by rw[j5]
@[simp] noncomputable def d2(f:D->D->Option D)(da db:DE)(Z:jb):Option D:=(da Z).bind fun x=>(db Z).bind fun y=>f x y
@[simp] noncomputable def d1(f:D->Option D)(da:DE)(Z:jb):Option D:=(da Z).bind f
def jH(K:Fr)(r:R2)(f:D->D->Option D):Prop:=∀(O:List Addr) (H:Hp) (a b d:D) (x y:V) (Q:VK),RB K O H a x->RB K O H b y->(∀p,H p=none->p∉O)->f a b=some d->(∀v H',j3 H H'->j5 K (j4 H' O) d v->Q v H')->r x y H Q
theorem vC(hf:jH K r f):∀U H Q,tE K (d2 f da db) U H Q->gw r (tR K da) (tR K db) U H Q:=fun U H Q xx=>by
 obtain⟨H0,O0,Z,O,d,R,ed,q⟩:=xx;obtain⟨x,ex,ed⟩:=j0 ed;obtain⟨y,ey,ed⟩:=j0 ed;exact⟨H0,O0,Z,O,x,R,ex,fun vx H1 s1 rx=>⟨H0,O0,Z,O,y,R.grow s1,ey,fun vy H2 s2 ry=>hf O H2 x y d vx vy Q (rx.same s2) ry (fun p hp=>(R.grow (s1.trans s2)).new hp) ed fun v H' s r=>q v H' ((s1.trans s2).trans s) r⟩⟩
theorem E7(ho:jw X (binaryOp op) r)(hf:jH K r f)(ha:PE X a (tR K da))(hb:PE X b (tR K db)):PE X (.BinOp a op b pos) (tE K (d2 f da db)):=jj (WZ ho ha hb) (vC hf)
theorem cY(ho:jw X (compareOp op) r)(hf:jH K r f)(ha:PE X a (tR K da))(hb:PE X b (tR K db))(hm:behindInMarks op b=false):PE X (.Compare a [op] [b] pos) (tE K (d2 f da db)):=jj (QI ho ha hb hm) (vC hf)
theorem GO(ho:zf X r)(hf:jH K r f)(ha:PE X a (tR K da))(hb:PE X b (tR K db))(hs:Zp b):PE X (.Subscript a b pos) (tE K (d2 f da db)):=jj (GH ho ha hb hs) (vC hf)
def aM(K:Fr)(r:R2)(f:D->D->Option OD):Prop:=∀(O:List Addr) (H:Hp) (a b:D) (ds:OD) (x y:V) (Q:VK),RB K O H a x->RB K O H b y->f a b=some ds->(∀l H',j3 H H'->H l=none->Jo K H' (j4 H' (l::O)) l ds->Q (.ref l) H')->r x y H Q
@[simp] noncomputable def Kr(f:D->D->Option OD)(da db:DE)(Z:jb):Option OD:=(da Z).bind fun x=>(db Z).bind fun y=>f x y
theorem E8(ho:jw X (binaryOp op) r)(hf:aM K r f)(ha:PE X a (tR K da))(hb:PE X b (tR K db)):PE X (.BinOp a op b pos) (tF K (Kr f da db)):=jj (WZ ho ha hb) fun U H Q xx=>by
 obtain⟨H0,O0,Z,O,d,R,ed,q⟩:=xx;obtain⟨x,ex,ed⟩:=j0 ed;obtain⟨y,ey,ed⟩:=j0 ed;exact⟨H0,O0,Z,O,x,R,ex,fun vx H1 s1 rx=>⟨H0,O0,Z,O,y,R.grow s1,ey,fun vy H2 s2 ry=>hf O H2 x y d vx vy Q (rx.same s2) ry ed fun l H' s hn r=>q l H' ((s1.trans s2).trans s) ((s1.trans s2).none hn) r⟩⟩
@[simp] noncomputable def fI(C:Int->Int->Bool)(g:Int->Int->D):D->D->Option D
 | .int i,.int j=>if C i j=true then some (g i j)else none
 | _,_=>none
noncomputable def vD:D->Option V
 | .int i=>some (.int i)
 | .bl i=>some (.bl i)
 | .str i=>some (.str i)
 | .non=>some .non
 | _=>none
theorem aN{K:Fr}{H:Hp}{d:D}{v:V}(h:vD d=some v):j5 K H d v:=by
 cases d <;> first | (cases h;rw[j5]) | cases h
theorem uP{C:Int->Int->Bool}{P:Int->Int->Prop}{g:Int->Int->D}{gv:Int->Int->V}(hP:∀i j,C i j=true->P i j)(hg:∀i j,vD (g i j)=some (gv i j)):jH K (rI P gv) (fI C g):=by
 intro O H a b d x y Q ha hb _ e q;unfold fI at e;split at e
 ·split at e
  ·cases e;exact⟨_,_,ha.int,hb.int,hP _ _ (by assumption),q _ H (j3.refl H) (aN (hg _ _))⟩
  ·cases e
 ·cases e
theorem vF{g:Int->Int->D}{gv:Int->Int->V}(hg:∀i j,vD (g i j)=some (gv i j)):jH K (Y4 gv) (fI (fun _ _=>true) g):=by
 intro O H a b d x y Q ha hb hn e q;obtain⟨i,j,e1,e2,_,q⟩:=uP (K:=K) (P:=fun _ _=>True) (fun _ _ _=>trivial) hg O H a b d x y Q ha hb hn e q;exact⟨i,j,e1,e2,q⟩
noncomputable abbrev wY:=fI (fun _ _=>true) fun i j=>.int (i - j)
noncomputable def GP(i j:Int):Bool:=Nat.blt i.natAbs 18446744073709551616||Nat.blt j.natAbs 18446744073709551616
abbrev qx:=fI GP fun i j=>.int (i * j)
noncomputable abbrev YQ:=fI (fun _ j=>decide (0 < j)) fun i j=>.int (i % j)
noncomputable abbrev GQ:=fI (fun _ j=>decide (0 < j)&&decide (j < 1073741824)) fun i j=>.int (i / j)
@[simp] noncomputable def aO(i j:Int):Bool:=decide (0<=j)&&(decide (j<=1000000)&&decide (i.natAbs < 2 ^ 64))
abbrev wZ:=fI aO fun i j=>.int (i ^ j.toNat)
noncomputable abbrev uQ:=fI (fun _ _=>true) fun i j=>.bl (decide (i < j))
noncomputable abbrev J_:=fI (fun _ _=>true) fun i j=>.bl (decide (i<=j))
noncomputable abbrev aP:=fI (fun _ _=>true) fun i j=>.bl (decide (j < i))
noncomputable abbrev Dr:=fI (fun _ _=>true) fun i j=>.bl (decide (j<=i))
theorem cZ:jH K (Y4 fun i j=>.int (i - j)) wY:=vF fun _ _=>rfl
theorem c_:jH K (rI ZO fun i j=>.int (i * j)) qx:=uP (fun i j h=>by
 unfold GP at h;rw[Bool.or_eq_true,Nat.blt_eq,Nat.blt_eq]at h;unfold ZO;have e:(2:Int) ^ 64=18446744073709551616:=by decide
 rw[e];rcases h with h | h
 ·exact .inl ⟨by omega,by omega⟩
 ·exact .inr ⟨by omega,by omega⟩) fun _ _=>rfl
theorem C0:jH K (rI (fun _ j=>0 < j) fun i j=>.int (i % j)) YQ:=uP (fun i j h=>by simpa using h) fun _ _=>rfl
theorem C2:jH K (rI wD fun i j=>.int (i / j)) GQ:=uP (fun i j h=>by simpa[wD]using h) fun _ _=>rfl
theorem C3:jH K (rI wE fun i j=>.int (i ^ j.toNat)) wZ:=uP (fun i j h=>by simpa[wE,aO]using h) fun _ _=>rfl
theorem E9:jH K (Y4 fun i j=>.bl (decide (i < j))) uQ:=vF fun _ _=>rfl
theorem Ea:jH K (Y4 fun i j=>.bl (decide (i<=j))) J_:=vF fun _ _=>rfl
theorem Eb:jH K (Y4 fun i j=>.bl (decide (j < i))) aP:=vF fun _ _=>rfl
theorem Ec:jH K (Y4 fun i j=>.bl (decide (j<=i))) Dr:=vF fun _ _=>rfl
noncomputable def Z5:D->Bool
 | .non=>true
 | _=>false
@[simp] theorem fe:Z5 .non=true:=rfl
@[simp] theorem fN(b:Bool):Z5 (.bl b)=false:=rfl
@[simp] theorem ff(b:Int):Z5 (.int b)=false:=rfl
@[simp] theorem fg(b:Str):Z5 (.str b)=false:=rfl
@[simp] theorem fh(b:List D):Z5 (.tup b)=false:=rfl
@[simp] theorem fj(b:List D):Z5 (.lst b)=false:=rfl
theorem qy{H:Hp}{d:D}{v:V}(h:j5 K H d v):decide (v=.non)=Z5 d:=by
 cases d <;> rw[j5]at h;all_goals first
  | (subst h;rfl)
  | (obtain⟨_,_,rfl,_⟩:=h;rfl)
  | (obtain⟨_,_,_,rfl,_⟩:=h;rfl)
  | (obtain⟨_,_,_,_,rfl,_⟩:=h;rfl)
  | (obtain⟨_,rfl,_⟩:=h;rfl)
def V5:D->D->Option D
 | d,.non=>some (.bl (Z5 d))
 | _,_=>none
@[simp] theorem Ed(d:D):V5 d .non=some (.bl (Z5 d)):=by cases d <;> rfl
def GR:D->D->Option D
 | d,.non=>some (.bl (!Z5 d))
 | _,_=>none
theorem C4:jH K (fun x y H Q=>y=.non/\Q (.bl (decide (x=.non))) H) V5:=by
 intro O H a b d x y Q ha hb _ e q;unfold V5 at e;split at e
 ·cases e;exact⟨hb.non,q _ H (j3.refl H) (by rw[j5,qy ha.full])⟩
 ·cases e
theorem aQ:jH K (fun x y H Q=>y=.non/\Q (.bl (!decide (x=.non))) H) GR:=by
 intro O H a b d x y Q ha hb _ e q;unfold GR at e;split at e
 ·cases e;exact⟨hb.non,q _ H (j3.refl H) (by rw[j5,qy ha.full])⟩
 ·cases e
@[simp] noncomputable def uR:D->D->Option D
 | .int i,.int j=>some (.bl (decide (i=j)))
 | .bl i,.bl j=>some (.bl (decide (i=j)))
 | .str i,.str j=>some (.bl (decide (i=j)))
 | _,_=>none
@[simp] def w_(a b:D):Option D:=(uR a b).bind fun r=>match r with | .bl c=>some (.bl (!c)) | _=>none
theorem zc(x y:Int):decide (V.int x=V.int y)=decide (x=y):=by simp
theorem zW(x y:Bool):decide (V.bl x=V.bl y)=decide (x=y):=by simp
theorem zd(x y:Str):decide (V.str x=V.str y)=decide (x=y):=by simp
theorem C5:jH K qc uR:=by
 intro O H a b d x y Q ha hb _ e q;unfold uR at e;split at e
 ·cases e;rw[ha.int,hb.int];exact⟨rfl,q _ H (j3.refl H) (by rw[j5,zc])⟩
 ·cases e;rw[ha.bl,hb.bl];exact⟨rfl,q _ H (j3.refl H) (by rw[j5,zW])⟩
 ·cases e;rw[ha.str,hb.str];exact⟨rfl,q _ H (j3.refl H) (by rw[j5,zd])⟩
 ·cases e
theorem C6:jH K qd w_:=by
 intro O H a b d x y Q ha hb _ e q;unfold w_ uR at e;obtain⟨r,e1,e2⟩:=j0 e;split at e1
 ·cases e1;cases e2;rw[ha.int,hb.int];exact⟨rfl,q _ H (j3.refl H) (by rw[j5,zc])⟩
 ·cases e1;cases e2;rw[ha.bl,hb.bl];exact⟨rfl,q _ H (j3.refl H) (by rw[j5,zW])⟩
 ·cases e1;cases e2;rw[ha.str,hb.str];exact⟨rfl,q _ H (j3.refl H) (by rw[j5,zd])⟩
 ·cases e1
def zM:D->D->Option D
 | .lst l,.int i=>atI l i
 | .tup l,.int i=>atI l i
 | _,_=>none
@[simp] theorem fk(l:List D)(i:Int):zM (.lst l) (.int i)=L2.atI l i:=rfl
@[simp] theorem fm(l:List D)(i:Int):zM (.tup l) (.int i)=L2.atI l i:=rfl
theorem j1.atI{H:Hp}{l:List D}{xs:List V}{i:Int}{d:D}(h:j1 K H l xs)(e:L2.atI l i=some d):∃v,L2.atI xs i=some v/\j5 K H d v:=by
 unfold L2.atI at e⊢;rw[h.len];obtain⟨j,e1,e2⟩:=j0 e;obtain⟨v,e3,r⟩:=h.get e2;exact⟨v,by rw[e1];exact e3,r⟩
theorem aR:jH K (Dl K) zM:=by
 intro O H a b d x y Q ha hb _ e q;unfold zM at e;split at e
 ·obtain⟨p,xs,rfl,h1,h2⟩:=ha.lst;obtain⟨v,e3,r⟩:=h2.atI e;exact .inl ⟨p,xs,_,v,rfl,hb.int,jr.of h1,e3,q v H (j3.refl H) r⟩
 ·obtain⟨p,xs,rfl,h1,h2⟩:=ha.tup;obtain⟨v,e3,r⟩:=h2.atI e;exact .inr (.inl ⟨p,xs,_,v,rfl,hb.int,h1,e3,q v H (j3.refl H) r⟩)
 ·cases e
@[simp] noncomputable def GS:D->D->Option OD
 | .lst l,.lst m=>if l.length+m.length<=sizeLine then some (.lst (l++m))else none
 | _,_=>none
theorem JE{O:List Addr}{H:Hp}{p:Addr}{ds:List D}{vs:List V}(hp:H p=none)(r:j1 K (j4 H O) ds vs):Jo K (upd H p (.lst vs)) (j4 (upd H p (.lst vs)) (p::O)) p (.lst ds):=⟨vs,jc,r.same (JS (jp hp _) hp)⟩
theorem C7:aM K aE GS:=by
 intro O H a b ds x y Q ha hb e q;unfold GS at e;split at e
 ·split at e
  ·cases e;obtain⟨p,xs,rfl,h1,h2⟩:=ha.lst;obtain⟨p',xs',rfl,h1',h2'⟩:=hb.lst;exact⟨p,p',xs,xs',rfl,rfl,h1,h1',by rw[h2.len,h2'.len];assumption,fun l hl=>q l _ (jp hl _) hl (JE hl (h2.app h2'))⟩
  ·cases e
 ·cases e
theorem Ju{O:List Addr}{H:Hp}{p:Addr}{ds:List D}{vs:List V}(hO:p∉O)(hp:H p=none)(r:j1 K (j4 H O) ds vs):j5 K (j4 (upd H p (.tup vs)) O) (.tup ds) (.ref p):=by
 rw[j5];refine⟨p,vs,rfl,J8.of ?_,r.same (ja (jp hp _))⟩;rw[jg hO,jc]
@[simp] noncomputable def zx:D->D->Option D
 | .int i,.int j=>some (.int (i+j))
 | .str i,.str j=>if i.length+j.length<=sizeLine then some (.str (i++j))else none
 | .tup l,.tup m=>if l.length+m.length<=sizeLine then some (.tup (l++m))else none
 | _,_=>none
set_option tactic.hygienic true in
theorem C8:jH K (fun x y H Q=>Y4 (fun i j=>.int (i+j)) x y H Q \/ (fun x y H Q=>GG K x y H Q \/ (fun x y H Q=>∃i j,x=.str i/\y=.str j/\i.length+j.length<=sizeLine/\Q (.str (i++j)) H) x y H Q) x y H Q) zx:=by
 intro O H a b d x y Q ha hb hn e q;unfold zx at e;split at e
 ·cases e;exact .inl ⟨_,_,ha.int,hb.int,q _ H (j3.refl H) (by rw[j5])⟩
 ·split at e
  ·cases e;exact .inr (.inr ⟨_,_,ha.str,hb.str,by assumption,q _ H (j3.refl H) (by rw[j5])⟩)
  ·cases e
 ·split at e
  ·rename_i hh;cases e;obtain⟨p,xs,rfl,h1,h2⟩:=ha.tup;obtain⟨p',xs',rfl,h1',h2'⟩:=hb.tup;have l1:=h2.len;have l2:=h2'.len;refine .inr (.inl ⟨p,p',xs,xs',rfl,rfl,h1,h1',by rw[l1,l2];exact hh,fun z=>?_,fun _ z=>?_,fun _ _ l hl=>q _ _ (jp hl _) (Ju (hn l hl) hl (h2.app h2'))⟩)
   ·refine q _ H (j3.refl H) ?_;have e0:∀m:List D,xs.length=m.length->xs=[]->m=[]:=fun m h z=>List.length_eq_zero_iff.mp (by rw[<-h,z];rfl);rw[e0 _ l1 z,List.nil_append];rcases hb with ha | ⟨_,o,_,z,_⟩ | ⟨_,_,_,_,z,_⟩
    ·exact ha
    ·cases o <;> cases z
    ·cases z
   refine q _ H (j3.refl H) ?_;have e0:∀m:List D,xs'.length=m.length->xs'=[]->m=[]:=fun m h z=>List.length_eq_zero_iff.mp (by rw[<-h,z];rfl);rw[e0 _ l2 z,uFa];rcases ha with ha | ⟨_,o,_,z,_⟩ | ⟨_,_,_,_,z,_⟩
   ·exact ha
   ·cases o <;> cases z
   ·cases z
  ·cases e
 ·cases e
end
section
variable {X:Cx} {K:Fr} {e a b c d:Expr} {de da db dc dd:DE} {pos:Pos}
@[simp] noncomputable def uS(z:D)(yes:Option D):Option D:=match z with
 | .bl true=>yes
 | .bl false=>some (.bl false)
 | _=>none
theorem YE{z d:D}{y:Option D}(h:uS z y=some d):∃k,z=.bl k/\((k=true/\y=some d) \/ (k=false/\d=.bl false)):=by
 unfold uS at h;split at h
 ·exact⟨true,rfl,.inl ⟨rfl,h⟩⟩
 ·exact⟨false,rfl,.inr ⟨rfl,(vFa h).symm⟩⟩
 ·cases h
@[simp] def JN(f f':D->D->Option D)(da db dc:DE)(Z:jb):Option D:=(da Z).bind fun x=>(db Z).bind fun y=>(f x y).bind fun z=>uS z ((dc Z).bind fun w=>f' y w)
theorem Ks{r r':R2}{f f':D->D->Option D}(hf:jH K r f)(hf':jH K r' f'):∀U H Q,tE K (JN f f' da db dc) U H Q->uw r r' (tR K da) (tR K db) (tR K dc) U H Q:=fun U H Q xx=>by
 obtain⟨H0,O0,Z,O,d,R,ed,q⟩:=xx;obtain⟨x,ex,ed⟩:=j0 ed;obtain⟨y,ey,ed⟩:=j0 ed;obtain⟨z,ez,ed⟩:=j0 ed;obtain⟨k,rfl,ek⟩:=YE ed;refine⟨H0,O0,Z,O,x,R,ex,fun vx H1 s1 rx=>⟨H0,O0,Z,O,y,R.grow s1,ey,fun vy H2 s2 ry=>hf O H2 x y _ vx vy _ (rx.same s2) ry (fun p hp=>(R.grow (s1.trans s2)).new hp) ez fun v H3 s3 rz=>?_⟩⟩;rw[j5]at rz;subst rz;refine⟨k,rfl,?_⟩;have s13:=(s1.trans s2).trans s3;rcases ek with⟨rfl,e2⟩ | ⟨rfl,rfl⟩
 ·obtain⟨w,ew,e3⟩:=j0 e2;exact yC ⟨H0,O0,Z,O,w,R.grow s13,ew,fun vw H4 s4 rw'=>hf' O H4 y w d vy vw Q ((ry.same s3).same s4) rw' (fun p hp=>(R.grow (s13.trans s4)).new hp) e3 fun v H' s r=>q v H' ((s13.trans s4).trans s) r⟩
 ·exact yB (q _ _ s13 (by rw[j5]))
theorem QZ(ho:jw X (compareOp op) r)(ho':jw X (compareOp op') r')(hf:jH K r f)(hf':jH K r' f')(ha:PE X a (tR K da))(hb:PE X b (tR K db))(hc:PE X c (tR K dc))(hm:lastMarks [op,op'] [b,c]=false:=by with_unfolding_all rfl):PE X (.Compare a [op,op'] [b,c] pos) (tE K (JN f f' da db dc)):=jj (wF ho ho' ha hb hc hm) (Ks hf hf')
@[simp] def Zr(f f' f'':D->D->Option D)(da db dc dd:DE)(Z:jb):Option D:=(da Z).bind fun x=>(db Z).bind fun y=>(f x y).bind fun z=>uS z ((dc Z).bind fun w=>(f' y w).bind fun z'=>uS z' ((dd Z).bind fun u=>f'' w u))
theorem W0{op op' op'':CmpOp}{r r' r'':R2}{f f' f'':D->D->Option D}(ho:jw X (compareOp op) r)(ho':jw X (compareOp op') r')(ho'':jw X (compareOp op'') r'')(hf:jH K r f)(hf':jH K r' f')(hf'':jH K r'' f'')(ha:PE X a (tR K da))(hb:PE X b (tR K db))(hc:PE X c (tR K dc))(hd:PE X d (tR K dd))(hm:lastMarks [op,op',op''] [b,c,d]=false:=by with_unfolding_all rfl):
  PE X (.Compare a [op,op',op''] [b,c,d] pos) (tE K (Zr f f' f'' da db dc dd)):=jj (Kn ho ho' ho'' ha hb hc hd hm) fun U H Q xx=>by
 obtain⟨H0,O0,Z,O,d,R,ed,q⟩:=xx;obtain⟨x,ex,ed⟩:=j0 ed;obtain⟨y,ey,ed⟩:=j0 ed;obtain⟨z,ez,ed⟩:=j0 ed;obtain⟨k,rfl,ek⟩:=YE ed;refine⟨H0,O0,Z,O,x,R,ex,fun vx H1 s1 rx=>⟨H0,O0,Z,O,y,R.grow s1,ey,fun vy H2 s2 ry=>hf O H2 x y _ vx vy _ (rx.same s2) ry (fun p hp=>(R.grow (s1.trans s2)).new hp) ez fun v H3 s3 rz=>?_⟩⟩;rw[j5]at rz;subst rz;refine⟨k,rfl,?_⟩;have s13:=(s1.trans s2).trans s3;rcases ek with⟨rfl,e2⟩ | ⟨rfl,rfl⟩
 ·obtain⟨w,ew,e3⟩:=j0 e2;obtain⟨z',ez',e3⟩:=j0 e3;obtain⟨k',rfl,ek'⟩:=YE e3;refine yC ⟨H0,O0,Z,O,w,R.grow s13,ew,fun vw H4 s4 rw'=>hf' O H4 y w _ vy vw _ ((ry.same s3).same s4) rw' (fun p hp=>(R.grow (s13.trans s4)).new hp) ez' fun v H5 s5 r=>?_⟩;rw[j5]at r;subst r;refine⟨k',rfl,?_⟩;have s15:=(s13.trans s4).trans s5;rcases ek' with⟨rfl,e4⟩ | ⟨rfl,rfl⟩
  ·obtain⟨u,eu,e5⟩:=j0 e4;exact yC ⟨H0,O0,Z,O,u,R.grow s15,eu,fun vu H6 s6 ru=>hf'' O H6 w u d vw vu Q ((rw'.same s5).same s6) ru (fun p hp=>(R.grow (s15.trans s6)).new hp) e5 fun v H' s r=>q v H' ((s15.trans s6).trans s) r⟩
  ·exact yB (q _ _ s15 (by rw[j5]))
 ·exact yB (q _ _ s13 (by rw[j5]))
@[simp] noncomputable def aS:D->Option Bool
 | .bl b=>some b
 | _=>none
noncomputable def zy:D->Option Bool
 | .bl b=>some b
 | .non=>some false
 | .int i=>some (i != 0)
 | .lst l=>some (!l.isEmpty)
 | .tup l=>some (!l.isEmpty)
 | _=>none
@[simp] theorem fo(b:Bool):zy (.bl b)=some b:=rfl
@[simp] theorem Ee:zy .non=some false:=rfl
@[simp] theorem Ef(l:List D):zy (.lst l)=some (!l.isEmpty):=rfl
@[simp] theorem Eg(l:List D):zy (.tup l)=some (!l.isEmpty):=rfl
@[simp] theorem Eh(i:Int):zy (.int i)=some (i != 0):=rfl
set_option tactic.hygienic true in
theorem aU{O:List Addr}{H:Hp}{d:D}{v:V}{k:Bool}(h:RB K O H d v)(e:zy d=some k):wH K v H k:=by
 unfold zy at e;split at e
 ·cases e;rw[h.bl];rfl
 ·cases e;rw[h.non];rfl
 ·cases e;rw[h.int];rfl
 ·cases e;obtain⟨p,xs,rfl,h1,h2⟩:=h.lst;refine .inl ⟨xs,jr.of h1,?_⟩;have:=h2.len;cases xs with
  | nil=>rw[List.length_eq_zero_iff.mp this.symm];rfl
  | cons x xs=>
   rename_i l;cases l with
   | nil=>cases this
   | cons y l=>rfl
 ·cases e;obtain⟨p,xs,rfl,h1,h2⟩:=h.tup;refine .inr (.inl ⟨xs,h1,?_⟩);have:=h2.len;cases xs with
  | nil=>rw[List.length_eq_zero_iff.mp this.symm];rfl
  | cons x xs=>
   rename_i l;cases l with
   | nil=>cases this
   | cons y l=>rfl
 ·cases e
abbrev DT:=jb->Option Bool
@[simp] def y_(de:DE)(Z:jb):Option Bool:=(de Z).bind zy
theorem qz(h:PE X e (tR K de))(hK:X.K=K:=by rfl)(he:∀whole,isTrue e X.env whole=(do let v<-whole;standAt e.pos;holding [v] (truthy v)):=by intro _;rfl):PT X e (tT K (y_ de)):=vA (wI h he) fun U H Q xx=>by
 obtain⟨H0,O0,Z,O,k,R,ed,q⟩:=xx;subst hK;obtain⟨d,e1,e2⟩:=j0 ed;exact⟨H0,O0,Z,O,d,R,e1,fun v H' s r=>⟨k,aU r e2,q H' s⟩⟩
@[simp] def yx(de:DE)(Z:jb):Option Bool:=(de Z).bind aS
theorem uT{d:D}{k:Bool}(h:aS d=some k):d=.bl k:=by
 unfold aS at h;split at h
 ·cases h;rfl
 ·cases h
theorem C9{op:CmpOp}{r:R2}{f:D->D->Option D}(ho:jw X (compareOp op) r)(hf:jH K r f)(ha:PE X a (tR K da))(hb:PE X b (tR K db))(hm:behindInMarks op b=false):PT X (.Compare a [op] [b] pos) (tT K (yx (d2 f da db))):=vA (gz ho ha hb hm) fun U H Q xx=>by
 obtain⟨H0,O0,Z,O,k,R,ed,q⟩:=xx;obtain⟨d,e1,e2⟩:=j0 ed;cases uT e2;exact vC hf U H _ ⟨H0,O0,Z,O,_,R,e1,fun v H' s r=>⟨k,by rw[j5]at r;exact r,q H' s⟩⟩
theorem Q_{op op':CmpOp}{r r':R2}{f f':D->D->Option D}(ho:jw X (compareOp op) r)(ho':jw X (compareOp op') r')(hf:jH K r f)(hf':jH K r' f')(ha:PE X a (tR K da))(hb:PE X b (tR K db))(hc:PE X c (tR K dc))(hm:lastMarks [op,op'] [b,c]=false:=by with_unfolding_all rfl):PT X (.Compare a [op,op'] [b,c] pos) (tT K (yx (JN f f' da db dc))):=vA (wG ho ho' ha hb hc hm) fun U H Q xx=>by
 obtain⟨H0,O0,Z,O,k,R,ed,q⟩:=xx;obtain⟨d,e1,e2⟩:=j0 ed;cases uT e2;have e1':=e1;obtain⟨x,ex,e1⟩:=j0 e1;obtain⟨y,ey,e1⟩:=j0 e1;obtain⟨z,ez,e1⟩:=j0 e1;obtain⟨k',rfl,ek⟩:=YE e1;refine⟨H0,O0,Z,O,x,R,ex,fun vx H1 s1 rx=>⟨H0,O0,Z,O,y,R.grow s1,ey,fun vy H2 s2 ry=>hf O H2 x y _ vx vy _ (rx.same s2) ry (fun p hp=>(R.grow (s1.trans s2)).new hp) ez fun v H3 s3 rz=>?_⟩⟩;rw[j5]at rz;subst rz;refine⟨k',rfl,?_⟩;have s13:=(s1.trans s2).trans s3;rcases ek with⟨rfl,e2⟩ | ⟨rfl,e0⟩
 ·obtain⟨w,ew,e3⟩:=j0 e2;exact yC ⟨H0,O0,Z,O,w,R.grow s13,ew,fun vw H4 s4 rw'=>hf' O H4 y w _ vy vw _ ((ry.same s3).same s4) rw' (fun p hp=>(R.grow (s13.trans s4)).new hp) e3 fun v H' s r=>⟨k,by rw[j5]at r;exact r,q H' ((s13.trans s4).trans s)⟩⟩
 ·cases e0;exact yB ⟨false,rfl,q _ s13⟩
@[simp] noncomputable def YF(dt:DT)(Z:jb):Option Bool:=(dt Z).bind fun k=>some (!k)
theorem Ca(h:PT X a (tT K dt)):PT X (.UnaryOp .Not a pos) (tT K (YF dt)):=vA (XC h) fun U H Q xx=>by
 obtain⟨H0,O0,Z,O,k,R,ed,q⟩:=xx;obtain⟨k',e1,e2⟩:=j0 ed;cases e2;exact⟨H0,O0,Z,O,k',R,e1,fun H' s=>q H' s⟩
@[simp] noncomputable def GT(dt du:DT)(Z:jb):Option Bool:=(dt Z).bind fun k=>if k=true then du Z else some false
@[simp] noncomputable def V6(dt du:DT)(Z:jb):Option Bool:=(dt Z).bind fun k=>if k=true then some true else du Z
theorem aV(h:PT X a (tT K dt)):PW X (.BoolOp .And [a] pos) (tT K dt):=QC h
theorem Cb(h:PT X a (tT K dt)):PW X (.BoolOp .Or [a] pos) (tT K dt):=XA h
theorem Cd{dt du:DT}{rest:List Expr}(h:PT X a (tT K dt))(h2:PW X (.BoolOp .And (b::rest) pos) (tT K du)):PW X (.BoolOp .And (a::b::rest) pos) (tT K (GT dt du)):=qu (XB h h2) fun U H Q xx=>by
 obtain⟨H0,O0,Z,O,k,R,ed,q⟩:=xx;obtain⟨k',e1,e2⟩:=j0 ed;refine⟨H0,O0,Z,O,k',R,e1,fun H' s=>?_⟩;cases k' with
 | true=>rw[if_pos rfl]at e2;exact yC ⟨H0,O0,Z,O,k,R.grow s,e2,fun H2 s2=>q H2 (s.trans s2)⟩
 | false=>rw[if_neg Bool.false_ne_true]at e2;cases e2;exact yB (q H' s)
theorem Ei{dt du:DT}{rest:List Expr}(h:PT X a (tT K dt))(h2:PW X (.BoolOp .Or (b::rest) pos) (tT K du)):PW X (.BoolOp .Or (a::b::rest) pos) (tT K (V6 dt du)):=qu (c0 h h2) fun U H Q xx=>by
 obtain⟨H0,O0,Z,O,k,R,ed,q⟩:=xx;obtain⟨k',e1,e2⟩:=j0 ed;refine⟨H0,O0,Z,O,k',R,e1,fun H' s=>?_⟩;cases k' with
 | true=>rw[if_pos rfl]at e2;cases e2;exact yC (q H' s)
 | false=>rw[if_neg Bool.false_ne_true]at e2;exact yB ⟨H0,O0,Z,O,k,R.grow s,e2,fun H2 s2=>q H2 (s.trans s2)⟩
theorem aW(h:PW X e (tT K dt)):PT X e (tT K dt):=h.pt
@[simp] noncomputable def yj(da db:DE)(Z:jb):Option D:=(da Z).bind fun x=>match x with
 | .bl true=>db Z
 | .bl false=>some (.bl false)
 | _=>none
@[simp] noncomputable def W3(da db:DE)(Z:jb):Option D:=(da Z).bind fun x=>match x with
 | .bl true=>some (.bl true)
 | .bl false=>db Z
 | _=>none
@[simp] noncomputable def qA(da:DE)(Z:jb):Option D:=(da Z).bind fun x=>match x with
 | .bl k=>some (.bl (!k))
 | _=>none
theorem qB{op}(h:PE X a (tE K da)):PE X (.BoolOp op [a] pos) (tE K da):=XD h
theorem Ce{rest:List Expr}(ha:PE X a (tR K da))(hb:PE X (.BoolOp .And (b::rest) pos) (tE K db)):PE X (.BoolOp .And (a::b::rest) pos) (tE K (yj da db)):=jj (XE ha hb) fun U H Q xx=>by
 obtain⟨H0,O0,Z,O,d,R,ed,q⟩:=xx;obtain⟨x,e1,e2⟩:=j0 ed;refine⟨H0,O0,Z,O,x,R,e1,fun v H' s r=>?_⟩;split at e2
 ·exact⟨true,r.bl,yC ⟨H0,O0,Z,O,d,R.grow s,e2,fun v H2 s2 r2=>q v H2 (s.trans s2) r2⟩⟩
 ·cases e2;exact⟨false,r.bl,yB (q _ _ s (by rw[j5]))⟩
 ·cases e2
theorem Ej{rest:List Expr}(ha:PE X a (tR K da))(hb:PE X (.BoolOp .Or (b::rest) pos) (tE K db)):PE X (.BoolOp .Or (a::b::rest) pos) (tE K (W3 da db)):=jj (cf ha hb) fun U H Q xx=>by
 obtain⟨H0,O0,Z,O,d,R,ed,q⟩:=xx;obtain⟨x,e1,e2⟩:=j0 ed;refine⟨H0,O0,Z,O,x,R,e1,fun v H' s r=>?_⟩;split at e2
 ·cases e2;exact⟨true,r.bl,yC (q _ _ s (by rw[j5]))⟩
 ·exact⟨false,r.bl,yB ⟨H0,O0,Z,O,d,R.grow s,e2,fun v H2 s2 r2=>q v H2 (s.trans s2) r2⟩⟩
 ·cases e2
theorem Cf(ha:PE X a (tR K da)):PE X (.UnaryOp .Not a pos) (tE K (qA da)):=jj (XF ha) fun U H Q xx=>by
 obtain⟨H0,O0,Z,O,d,R,ed,q⟩:=xx;obtain⟨x,e1,e2⟩:=j0 ed;refine⟨H0,O0,Z,O,x,R,e1,fun v H' s r=>?_⟩;split at e2
 ·cases e2;exact⟨_,r.bl,q _ _ s (by rw[j5])⟩
 ·cases e2
@[simp] noncomputable def aX(da:DE)(Z:jb):Option D:=(da Z).bind fun x=>match x with
 | .int i=>some (.int (-i))
 | _=>none
theorem Cg(ha:PE X a (tR K da)):PE X (.UnaryOp .USub a pos) (tE K (aX da)):=jj (cn ai ha) fun U H Q xx=>by
 obtain⟨H0,O0,Z,O,d,R,ed,q⟩:=xx;obtain⟨x,e1,e2⟩:=j0 ed;refine⟨H0,O0,Z,O,x,R,e1,fun v H' s r=>?_⟩;split at e2
 ·cases e2;exact⟨_,r.int,q _ _ s (by rw[j5])⟩
 ·cases e2
@[simp] noncomputable def aY(dt:DT)(da db:DE)(Z:jb):Option D:=(dt Z).bind fun k=>if k=true then da Z else db Z
theorem Ch(hc:PT X c (tT K dt))(ha:PE X a (tE K da))(hb:PE X b (tE K db)):PE X (.IfExp c a b pos) (tE K (aY dt da db)):=jj (wx hc ha hb) fun U H Q xx=>by
 obtain⟨H0,O0,Z,O,d,R,ed,q⟩:=xx;obtain⟨k,e1,e2⟩:=j0 ed;refine⟨H0,O0,Z,O,k,R,e1,fun H' s=>?_⟩;cases k with
 | true=>rw[if_pos rfl]at e2;exact yC ⟨H0,O0,Z,O,d,R.grow s,e2,fun v H2 s2 r2=>q v H2 (s.trans s2) r2⟩
 | false=>rw[if_neg Bool.false_ne_true]at e2;exact yB ⟨H0,O0,Z,O,d,R.grow s,e2,fun v H2 s2 r2=>q v H2 (s.trans s2) r2⟩
theorem Ci:PA X [] (Ji K []):=qv Jc fun U H Q xx=>by
 obtain⟨H0,O0,Z,O,ds,R,ed,q⟩:=xx;cases ed;exact q [] H (j3.refl H) trivial
theorem qC(ht:∀U H Q,(∃H0 O0 Z O d,Rel K H0 O0 Z U H O/\de Z=some d/\∀v H',j3 H H'->AK K O H' k d v->Q v H')->t U H Q)(h:PE X e t)(hr:PA X es (Ji K l))(hs:starEach (e::es) X.env=(false,eval e X.env)::starEach es X.env:=by rfl):PA X (e::es) (Ji K ((k,de)::l)):=qv (jB h hr hs) fun U H Q xx=>by
 obtain⟨H0,O0,Z,O,ds,R,ed,q⟩:=xx;obtain⟨d,e1,ed⟩:=j0 ed;obtain⟨ds',e2,ed⟩:=j0 ed;cases ed;exact ht _ _ _ ⟨H0,O0,Z,O,d,R,e1,fun v H1 s1 r1=>⟨H0,O0,Z,O,ds',R.grow s1,e2,fun vs H2 s2 r2=>q _ H2 (s1.trans s2) ⟨r1.same s2,r2⟩⟩⟩
theorem Ek(h:PE X e (tE K de))(hr:PA X es (Ji K l))(hs:starEach (e::es) X.env=(false,eval e X.env)::starEach es X.env:=by rfl):PA X (e::es) (Ji K ((true,de)::l)):=qC (fun U H Q z=>z) h hr hs
theorem El(h:PE X e (tR K de))(hr:PA X es (Ji K l))(hs:starEach (e::es) X.env=(false,eval e X.env)::starEach es X.env:=by rfl):PA X (e::es) (Ji K ((false,de)::l)):=qC (fun U H Q z=>z) h hr hs
theorem Z6:∀{l:DA} {Z:jb} {ds:List D},J9 l Z=some ds->ds.length=l.length
 | [],_,_,h=>by cases h;rfl
 | p::ps,Z,ds,h=>by
  obtain⟨d,e1,h⟩:=j0 h;obtain⟨ds',e2,h⟩:=j0 h;cases h;rw[vXa,vXa,Z6 e2]
theorem Jh.reps:∀{ks:List Bool} {ds:List D} {vs:List V},Jh K O H ks ds vs->ks.all id=true->j1 K (j4 H O) ds vs
 | [],[],[],_,_=>j1.nil
 | true::_,_::_,_::_,h,e=>j1.cons h.1 (Jh.reps h.2 (by simpa using e))
 | false::_,_::_,_::_,h,e=>by simp at e
 | [],[],_::_,h,_=>h.elim
 | [],_::_,_,h,_=>h.elim
 | _::_,[],_,h,_=>h.elim
 | _::_,_::_,[],h,_=>h.elim
theorem Jh.len:∀{ks:List Bool} {ds:List D} {vs:List V},Jh K O H ks ds vs->vs.length=ds.length/\ks.length=ds.length
 | [],[],[],_=>⟨rfl,rfl⟩
 | _::_,_::_,_::_,h=>by have:=Jh.len h.2;simp[this.1,this.2]
 | [],[],_::_,h=>h.elim
 | [],_::_,_,h=>h.elim
 | _::_,[],_,h=>h.elim
 | _::_,_::_,[],h=>h.elim
@[simp] def GU(l:DA)(Z:jb):Option D:=(J9 l Z).bind fun ds=>some (.tup ds)
theorem Cj{l:DA}{x1}(h:PA X es (Ji K l))(hk:(l.map (·.1)).all id=true:=by rfl)(hl:Nat.ble l.length sizeLine=true:=by rfl):PE X (.Tuple es x1 pos) (tE K (GU l)):=jj (au h) fun U H Q xx=>by
 obtain⟨H0,O0,Z,O,d,R,ed,q⟩:=xx;obtain⟨ds,e1,e2⟩:=j0 ed;cases e2;refine⟨H0,O0,Z,O,ds,R,e1,fun vs H1 s1 r=>⟨by rw[r.len.1,Z6 e1];exact Nat.le_of_ble_eq_true hl,fun p hp=>q _ _ (s1.trans (jp hp _)) (Ju ((R.grow s1).new hp) hp (r.reps hk))⟩⟩
@[simp] def ZS(l:DA)(Z:jb):Option OD:=(J9 l Z).bind fun ds=>some (.lst ds)
theorem Cl{l:DA}(h:PA X es (Ji K l))(hk:(l.map (·.1)).all id=true:=by rfl)(hl:Nat.ble l.length sizeLine=true:=by rfl):PE X (.List es pos) (tF K (ZS l)):=jj (av h) fun U H Q xx=>by
 obtain⟨H0,O0,Z,O,d,R,ed,q⟩:=xx;obtain⟨ds,e1,e2⟩:=j0 ed;cases e2;refine⟨H0,O0,Z,O,ds,R,e1,fun vs H1 s1 r=>⟨by rw[r.len.1,Z6 e1];exact Nat.le_of_ble_eq_true hl,fun p hp=>q _ _ (s1.trans (jp hp _)) (s1.none hp) (JE hp (r.reps hk))⟩⟩
abbrev VH:=jb->Option (Option Int)
noncomputable def vG(K:Fr)(p:VH):TO:=fun U H Q=>∃H0 O0 Z O o,Rel K H0 O0 Z U H O/\p Z=some o/\∀H',j3 H H'->Q o H'
@[simp] noncomputable def uU:D->Option (Option Int)
 | .int i=>some (some i)
 | _=>none
theorem Em:PO X none (vG K fun _=>some none):=fun pins s U H Q I xx=>by
 obtain⟨H0,O0,Z,O,o,R,ed,q⟩:=xx;cases ed;exact QM pins s U H Q I (q H (j3.refl H))
theorem En(h:PE X e (tR K de)):PO X (some e) (vG K fun Z=>(de Z).bind uU):=fun pins s U H Q I xx=>by
 obtain⟨H0,O0,Z,O,o,R,ed,q⟩:=xx;obtain⟨d,e1,e2⟩:=j0 ed;refine QN h pins s U H Q I ⟨H0,O0,Z,O,d,R,e1,fun v H' s r=>?_⟩;unfold uU at e2;split at e2
 ·cases e2;exact⟨_,r.int,q H' s⟩
 ·cases e2
def JT(xs:List α)(lo hi:Option Int):List α:=(xs.drop (HT.sIx xs.length 0 lo)).take (HT.sIx xs.length xs.length hi - HT.sIx xs.length 0 lo)
theorem j1.cut(h:j1 K H l xs)(lo hi:Option Int):j1 K H (JT l lo hi) (zY xs lo hi):=by
 unfold JT zY;rw[h.len];exact(h.drop _).take _
theorem j1.ints:∀ns:List Int,j1 K H (ns.map D.int) (ns.map V.int)
 | []=>j1.nil
 | n::ns=>j1.cons (by rw[j5]) (j1.ints ns)
def uc(d:D)(lo hi:Option Int):Option OD:=match d with
 | .lst l=>some (.lst (JT l lo hi))
 | .scr ns=>some (.lst (JT (ns.map D.int) lo hi))
 | _=>none
@[simp] theorem Ds(l:List D)(lo hi:Option Int):uc (.lst l) lo hi=some (.lst (JT l lo hi)):=rfl
@[simp] theorem Du(l:List Int)(lo hi:Option Int):uc (.scr l) lo hi=some (.lst (JT (l.map D.int) lo hi)):=rfl
@[simp] def ud(de:DE)(p q:VH)(Z:jb):Option OD:=(de Z).bind fun d=>(p Z).bind fun lo=>(q Z).bind fun hi=>uc d lo hi
theorem Cm{lo hi:Option Expr}{p q:VH}{p2:Pos}(he:PE X e (tR K de))(hl:PO X lo (vG K p))(hu:PO X hi (vG K q))(hK:X.K=K:=by rfl):PE X (.Subscript e (.Slice lo hi none p2) pos) (tF K (ud de p q)):=jj (ZP QQ he hl hu) fun U H Q xx=>by
 obtain⟨H0,O0,Z,O,d,R,ed,qq⟩:=xx;subst hK;obtain⟨x,e1,ed⟩:=j0 ed;obtain⟨l,e2,ed⟩:=j0 ed;obtain⟨u,e3,ed⟩:=j0 ed;refine⟨H0,O0,Z,O,x,R,e1,fun v H1 s1 r=>⟨H0,O0,Z,O,l,R.grow s1,e2,fun H2 s2=>⟨H0,O0,Z,O,u,R.grow (s1.trans s2),e3,fun H3 s3=>?_⟩⟩⟩;have s13:=(s1.trans s2).trans s3;have r3:=r.same (s2.trans s3);unfold uc at ed;split at ed
 ·cases ed;obtain⟨pp,xs,rfl,h1,h2⟩:=r3.lst;exact⟨pp,xs,rfl,jr.of h1,fun p hp=>qq p _ (s13.trans (jp hp _)) (s13.none hp) (JE hp (h2.cut l u))⟩
 ·cases ed;have r4:=r3.full;rw[j5]at r4;obtain⟨pp,rfl,h1⟩:=r4;exact⟨pp,_,rfl,h1,fun p hp=>qq p _ (s13.trans (jp hp _)) (s13.none hp) (JE hp ((j1.ints _).cut l u))⟩
 ·cases ed
def qD(d:D)(lo hi:Option Int):Option D:=match d with
 | .tup l=>if HT.sIx l.length 0 lo=0/\HT.sIx l.length l.length hi=l.length then none else some (.tup (JT l lo hi))
 | _=>none
@[simp] def qF(de:DE)(p q:VH)(Z:jb):Option D:=(de Z).bind fun d=>(p Z).bind fun lo=>(q Z).bind fun hi=>qD d lo hi
theorem Cn{lo hi:Option Expr}{p q:VH}{p2:Pos}(he:PE X e (tR K de))(hl:PO X lo (vG K p))(hu:PO X hi (vG K q))(hK:X.K=K:=by rfl):PE X (.Subscript e (.Slice lo hi none p2) pos) (tE K (qF de p q)):=jj (ZP aw he hl hu) fun U H Q xx=>by
 obtain⟨H0,O0,Z,O,d,R,ed,qq⟩:=xx;subst hK;obtain⟨x,e1,ed⟩:=j0 ed;obtain⟨l,e2,ed⟩:=j0 ed;obtain⟨u,e3,ed⟩:=j0 ed;refine⟨H0,O0,Z,O,x,R,e1,fun v H1 s1 r=>⟨H0,O0,Z,O,l,R.grow s1,e2,fun H2 s2=>⟨H0,O0,Z,O,u,R.grow (s1.trans s2),e3,fun H3 s3=>?_⟩⟩⟩;have s13:=(s1.trans s2).trans s3;have r3:=r.same (s2.trans s3);unfold qD at ed;split at ed
 ·split at ed
  ·cases ed
  ·cases ed;obtain⟨pp,xs,rfl,h1,h2⟩:=r3.tup;exact⟨pp,xs,rfl,h1,by rw[h2.len];assumption,fun p hp=>qq _ _ (s13.trans (jp hp _)) (Ju ((R.grow s13).new hp) hp (h2.cut l u))⟩
 ·cases ed
def Fn(K:Fr)(r:List V->Hp->VK->Prop)(f:List D->Option D):Prop:=∀(O:List Addr) (H:Hp) (ks:List Bool) (ds:List D) (vs:List V) (d:D) (Q:VK),Jh K O H ks ds vs->(∀p,H p=none->p∉O)->f ds=some d->(∀v H',j3 H H'->j5 K (j4 H' O) d v->Q v H')->r vs H Q
def qG(K:Fr)(r:List V->Hp->VK->Prop)(f:List D->Option OD):Prop:=∀(O:List Addr) (H:Hp) (ks:List Bool) (ds:List D) (vs:List V) (d:OD) (Q:VK),Jh K O H ks ds vs->f ds=some d->(∀l H',j3 H H'->H l=none->Jo K H' (j4 H' (l::O)) l d->Q (.ref l) H')->r vs H Q
@[simp] def jD(f:List D->Option D)(l:DA)(Z:jb):Option D:=(J9 l Z).bind f
@[simp] def zA(f:List D->Option OD)(l:DA)(Z:jb):Option OD:=(J9 l Z).bind f
theorem yU(hf:Fn K r f):∀U H Q,tE K (jD f l) U H Q->Kb r (Ji K l) U H Q:=fun U H Q xx=>by
 obtain⟨H0,O0,Z,O,d,R,ed,q⟩:=xx;obtain⟨ds,e1,e2⟩:=j0 ed;exact⟨H0,O0,Z,O,ds,R,e1,fun vs H1 s1 r1=>hf O H1 _ ds vs d Q r1 (fun p hp=>(R.grow s1).new hp) e2 fun v H' s r=>q v H' (s1.trans s) r⟩
theorem V7(hf:qG K r f):∀U H Q,tF K (zA f l) U H Q->Kb r (Ji K l) U H Q:=fun U H Q xx=>by
 obtain⟨H0,O0,Z,O,d,R,ed,q⟩:=xx;obtain⟨ds,e1,e2⟩:=j0 ed;exact⟨H0,O0,Z,O,ds,R,e1,fun vs H1 s1 r1=>hf O H1 _ ds vs d Q r1 e2 fun l H' s hn r=>q l H' (s1.trans s) (s1.none hn) r⟩
theorem yk{O:List Addr}{H:Hp}{ks:List Bool}{d:D}{vs:List V}(h:Jh K O H ks [d] vs):∃v,vs=[v]/\RB K O H d v:=by
 cases ks with
 | nil=>exact h.elim
 | cons k ks=>
  cases vs with
  | nil=>exact h.elim
  | cons v vs=>
   obtain⟨h1,h2⟩:=h;have:=Jh.len h2;have e:vs=[]:=List.length_eq_zero_iff.mp this.1;subst e;exact⟨v,rfl,AK.rb h1⟩
theorem Eo{O:List Addr}{H:Hp}{ks:List Bool}{d d':D}{vs:List V}(h:Jh K O H ks [d,d'] vs):∃v v',vs=[v,v']/\RB K O H d v/\RB K O H d' v':=by
 cases ks with
 | nil=>exact h.elim
 | cons k ks=>
  cases vs with
  | nil=>exact h.elim
  | cons v vs=>
   obtain⟨h1,h2⟩:=h;obtain⟨v',rfl,r⟩:=yk h2;exact⟨v,v',rfl,AK.rb h1,r⟩
@[simp] noncomputable def yc:List D->Option D
 | [.lst l]=>some (.int l.length)
 | [.tup l]=>some (.int l.length)
 | _=>none
theorem Co:Fn K (fun xs H Q=>∃p ys,xs=[.ref p]/\(jr K H p ys \/ J8 K H p ys)/\Q (.int ys.length) H) yc:=by
 intro O H ks ds vs d Q h hn e q;unfold yc at e;split at e
 ·cases e;obtain⟨v,rfl,r⟩:=yk h;obtain⟨p,xs,rfl,h1,h2⟩:=r.lst;exact⟨p,xs,rfl,.inl (jr.of h1),q _ H (j3.refl H) (by rw[j5,h2.len])⟩
 ·cases e;obtain⟨v,rfl,r⟩:=yk h;obtain⟨p,xs,rfl,h1,h2⟩:=r.tup;exact⟨p,xs,rfl,.inr h1,q _ H (j3.refl H) (by rw[j5,h2.len])⟩
 ·cases e
@[simp] noncomputable def GV:List D->Option OD
 | [.lst l]=>some (.lst l)
 | [.tup l]=>some (.lst l)
 | _=>none
theorem aZ:qG K (fun xs H Q=>∃p ys,xs=[.ref p]/\(jr K H p ys \/ J8 K H p ys)/\∀l,H l=none->Q (.ref l) (upd H l (.lst ys))) GV:=by
 intro O H ks ds vs d Q h e q;unfold GV at e;split at e
 ·cases e;obtain⟨v,rfl,r⟩:=yk h;obtain⟨p,xs,rfl,h1,h2⟩:=r.lst;exact⟨p,xs,rfl,.inl (jr.of h1),fun l hl=>q _ _ (jp hl _) hl (JE hl h2)⟩
 ·cases e;obtain⟨v,rfl,r⟩:=yk h;obtain⟨p,xs,rfl,h1,h2⟩:=r.tup;exact⟨p,xs,rfl,.inr h1,fun l hl=>q _ _ (jp hl _) hl (JE hl h2)⟩
 ·cases e
@[simp] noncomputable def Yn:List D->Option D
 | [.lst l]=>some (.tup l)
 | [.tup l]=>some (.tup l)
 | _=>none
theorem x8:Fn K (fun xs H Q=>∃p ys,xs=[.ref p]/\((jr K H p ys/\∀l,H l=none->Q (.ref l) (upd H l (.tup ys))) \/ (J8 K H p ys/\Q (.ref p) H))) Yn:=by
 intro O H ks ds vs d Q h hn e q;unfold Yn at e;split at e
 ·cases e;obtain⟨v,rfl,r⟩:=yk h;obtain⟨p,xs,rfl,h1,h2⟩:=r.lst;exact⟨p,xs,rfl,.inl ⟨jr.of h1,fun l hl=>q _ _ (jp hl _) (Ju (hn l hl) hl h2)⟩⟩
 ·cases e;obtain⟨v,rfl,r⟩:=yk h;have r0:=r;obtain⟨p,xs,rfl,h1,h2⟩:=r.tup;refine⟨p,xs,rfl,.inr ⟨h1,q _ H (j3.refl H) ?_⟩⟩;rcases r0 with r0 | ⟨_,o,_,z,_⟩ | ⟨_,_,_,_,z,_⟩
  ·exact r0
  ·cases o <;> cases z
  ·cases z
 ·cases e
@[simp] noncomputable def W4:List D->Option D
 | [.int i,.int j]=>some (.int (if j > i then j else i))
 | _=>none
theorem Cp:Fn K (fun xs H Q=>∃i j,xs=[.int i,.int j]/\Q (.int (if j > i then j else i)) H) W4:=by
 intro O H ks ds vs d Q h hn e q;unfold W4 at e;split at e
 ·cases e;obtain⟨v,v',rfl,r,r'⟩:=Eo h;exact⟨_,_,by rw[r.int,r'.int],q _ H (j3.refl H) (by rw[j5])⟩
 ·cases e
@[simp] noncomputable def ZT:List D->Option (List Bool)
 | []=>some []
 | .bl b::r=>(ZT r).bind fun bs=>some (b::bs)
 | _::_=>none
theorem Z7:∀{l:List D} {bs:List Bool} {xs:List V},ZT l=some bs->j1 K H l xs->xs=bs.map V.bl
 | [],bs,xs,e,h=>by cases e;rw[j1]at h;exact h
 | .bl b::r,bs,xs,e,h=>by
  obtain⟨bs',e1,e2⟩:=j0 e;cases e2;rw[j1]at h;obtain⟨v,vs,rfl,a,b'⟩:=h;rw[j5]at a;rw[a,Z7 e1 b'];rfl
 | .non::_,_,_,e,_=>by cases e
 | .int _::_,_,_,e,_=>by cases e
 | .str _::_,_,_,e,_=>by cases e
 | .tup _::_,_,_,e,_=>by cases e
 | .lst _::_,_,_,e,_=>by cases e
 | .ins _ _ _::_,_,_,e,_=>by cases e
 | .obj _ _ _ _ _::_,_,_,e,_=>by cases e
 | .dk _ _::_,_,_,e,_=>by cases e
 | .scr _::_,_,_,e,_=>by cases e
@[simp] def ZU:List D->Option D
 | [.lst l]=>(ZT l).bind fun bs=>some (.bl (bs.all id))
 | _=>none
theorem Cq:Fn K (fun xs H Q=>∃(p:Addr) (bs:List Bool),xs=[.ref p]/\jr K H p (bs.map V.bl)/\Q (.bl (bs.all id)) H) ZU:=by
 intro O H ks ds vs d Q h hn e q;unfold ZU at e;split at e
 ·obtain⟨bs,e1,e2⟩:=j0 e;cases e2;obtain⟨v,rfl,r⟩:=yk h;obtain⟨p,xs,rfl,h1,h2⟩:=r.lst;rw[Z7 e1 h2]at h1;exact⟨p,bs,rfl,jr.of h1,q _ H (j3.refl H) (by rw[j5])⟩
 ·cases e
noncomputable def uV(C:Addr)(f:Str):D->Option D
 | .ins C' ns ds=>if C'=C then(ns.zip ds).lookup f else none
 | .obj C' ns ds _ _=>if C'=C then(ns.zip ds).lookup f else none
 | _=>none
theorem YR{H:Hp}{f:Str}{d:D}:∀{ns:List Str} {ds:List D} {xs:List V},j1 K H ds xs->(ns.zip ds).lookup f=some d->∃v,(ns.zip xs).lookup f=some v/\j5 K H d v
 | [],_,_,_,e=>by cases e
 | _::_,[],_,_,e=>by cases e
 | n::ns,d'::ds,xs,h,e=>by
  rw[j1]at h;obtain⟨v,r,rfl,a,b⟩:=h;rw[List.zip_cons_cons,List.lookup_cons]at e⊢;cases hf:f==n with
  | true=>rw[hf]at e;cases e;exact⟨v,rfl,a⟩
  | false=>rw[hf]at e;exact YR b e
set_option tactic.hygienic true in
theorem qH(h:PE X e (tR K de))(c:Cls K C)(n:Jb K C f)(hb:attributeBase e f X.env (eval e X.env)=eval e X.env:=by rfl)(hK:X.K=K:=by rfl):PE X (.Attribute e f pos) (tE K (d1 (uV C f) de)):=jj (uz h hb) fun U H Q xx=>by
 obtain⟨H0,O0,Z,O,d,R,ed,q⟩:=xx;subst hK;obtain⟨x,e1,e2⟩:=j0 ed;refine⟨H0,O0,Z,O,x,R,e1,fun v H' s r=>?_⟩;unfold uV at e2;split at e2
 ·split at e2
  ·rename_i hC;subst hC;obtain⟨a,dx,xs,rfl,h1,hn,h2⟩:=r.ins;obtain⟨v,e3,r3⟩:=YR h2 e2;exact⟨a,_,dx,_,v,rfl,h1,c,n,e3,q v H' s r3⟩
  ·cases e2
 ·split at e2
  ·rename_i hC;subst hC;obtain⟨a,dx,xs,ps,rfl,h1,_,_,h2,_⟩:=r.obj;obtain⟨v,e3,r3⟩:=YR h2 e2;exact⟨a,_,dx,_,v,rfl,h1,c,n,by rw[List.lookup_append,e3];rfl,q v H' s r3⟩
  ·cases e2
 ·cases e2
end
def RP(K:Fr)(H0:Hp)(O0:FA)(H:Hp)(O:List Addr)(d:D)(v:V):Prop:=j5 K (j4 H O) d v \/ RB K O0.l H0 d v
def tP(K:Fr)(de:DE):TE:=fun U H Q=>∃H0 O0 Z O d,Rel K H0 O0 Z U H O/\de Z=some d/\∀v H',j3 H H'->RP K H0 O0 H' O d v->Q v H'
theorem RP.at{K:Fr}{H0 H H':Hp}{O0:FA}{O O':List Addr}{d:D}{v:V}(r:RP K H0 O0 H O d v)(s0:j3 H0 H')(s1:j3 (j4 H0 O0.l) (j4 H' O'))(s2:j3 (j4 H O) (j4 H' O')):RB K O' H' d v:=by
 rcases r with r | r | ⟨l,o,e1,e2,h1⟩ | ⟨l,ps,o,e1,e2,h1⟩
 ·exact .inl (r.same s2)
 ·exact .inl (r.same s1)
 ·exact .inr (.inl ⟨l,o,e1,e2,h1.same (s0 l) s1⟩)
 ·exact .inr (.inr ⟨l,ps,o,e1,e2,h1.mono (fun a _ u z=>s0 a u z) s1⟩)
def uW(K:Fr)(J:It)(H0:Hp)(O0:FA)(H:Hp)(O:List Addr)(items:List D):Prop:=∀(i:Nat) (H':Hp) (O':List Addr),j3 H0 H'->j3 (j4 H0 O0.l) (j4 H' O')->j3 (j4 H O) (j4 H' O')->(∀a∈O',H' a≠none)->
 (∀d,items[i]?=some d->J.go i H'/\∀x H'',J.yld i H' x H''->j3 H' H''/\j5 K (j4 H'' O') d x)/\(i=items.length->J.stop i H')
abbrev DI:=jb->Option (List D)
def yl(K:Fr)(di:DI):TI:=fun U H R=>∃H0 O0 Z O items,Rel K H0 O0 Z U H O/\di Z=some items/\∀J H',j3 H H'->uW K J H0 O0 H' O items->R J H'
section
variable {X:Cx} {K:Fr} {e a b c d tg:Expr} {de da db dc dd:DE} {pos:Pos}
theorem Ep(h:PE X e (tE K de)):PE X e (tP K de):=jj h fun U H Q ⟨H0,O0,Z,O,d,R,ed,q⟩=>⟨H0,O0,Z,O,d,R,ed,fun v H' s r=>q v H' s (.inl r)⟩
@[simp] noncomputable def dP(i:Nat)(Z:jb):Option D:=match Z[i]? with
 | some (.cl d)=>some d
 | some (.bo d)=>some d
 | _=>none
theorem Cr(i:Nat)(h:PE X (.Name x pos) (Jr i)):PE X (.Name x pos) (tP K (dP i)):=jj h fun U H Q xx=>by
 obtain⟨H0,O0,Z,O,d,R,ed,q⟩:=xx;unfold dP at ed;split at ed
 ·cases ed;obtain⟨v,e1,r⟩:=R.cl i _ (by assumption);exact⟨v,e1,q v H (j3.refl H) (.inl r)⟩
 ·cases ed;obtain⟨v,e1,r⟩:=R.bo i _ (by assumption);exact⟨v,e1,q v H (j3.refl H) (.inr r)⟩
 ·cases ed
theorem YG(h:PI X tg e wi)(f:∀U H R,wi' U H R->wi U H R):PI X tg e wi':=fun pins s U H R I q=>h pins s U H R I (f U H R q)
def Es(K:Fr)(tl:TE):TI:=fun U H R=>tl U H fun x H1=>∃a,x=.ref a/\(((∃xs,jr K H1 a xs)/\R (XU K a) H1) \/ ((∃xs,J8 K H1 a xs)/\R (XV K a) H1))
theorem a_(hl:PE X l tl):PI X tg l (Es X.K tl):=by
 intro pins s U H R I h;refine jm (hl pins s U H _ I h) fun v s1 xx=>?_;obtain⟨x,H1,I1,r1,q1⟩:=xx;obtain⟨a,e,q⟩:=q1;subst e;cases r1;rcases q with⟨⟨xs,hq⟩,q⟩ | ⟨⟨xs,hq⟩,q⟩
 ·obtain⟨its,rv,p,hz⟩:=I1.list hq;refine wpAny_pyIter_list p.isList ?_;refine⟨s1.heap.objs.size,[s1.heap.objs.size],_,_,H1,rfl,I1.kept (t':=s1.toks) fun b o e=>wIa _ e,K6 a _,⟨_,wJa _ rfl,rfl,rfl⟩,fun b hb=>?_,q⟩;have e:b=s1.heap.objs.size:=by simpa using hb
  subst e;exact I1.fpOk (wPa _) (I1.hok.fresh (wPa _))
 ·obtain⟨its,rv,p,hz⟩:=I1.tuple hq;refine wpAny_pyIter_tuple (show s1.heap.IsTuple a its.toArray from p) ?_;refine⟨s1.heap.objs.size,[s1.heap.objs.size],_,_,H1,rfl,I1.kept (t':=s1.toks) fun b o e=>wIa _ e,Gv a _,⟨_,wJa _ rfl,rfl,rfl⟩,fun b hb=>?_,q⟩;have e:b=s1.heap.objs.size:=by simpa using hb
  subst e;exact I1.fpOk (wPa _) (I1.hok.fresh (wPa _))
noncomputable def ym:D->Option (List D)
 | .lst l=>some l
 | .tup l=>some l
 | _=>none
@[simp] theorem Dw(l:List D):ym (.lst l)=some l:=rfl
@[simp] theorem Dx(l:List D):ym (.tup l)=some l:=rfl
@[simp] def YH(de:DE)(Z:jb):Option (List D):=(de Z).bind ym
theorem A0{H0 H:Hp}{O0:FA}{O:List Addr}{d:D}{v:V}{l:List D}(r:RP K H0 O0 H O d v)(e:ym d=some l)(s0:j3 H0 H)(s1:j3 (j4 H0 O0.l) (j4 H O)):
  ∃a,v=.ref a/\(((∃xs,jr K H a xs)/\uW K (XU K a) H0 O0 H O l) \/ ((∃xs,J8 K H a xs)/\uW K (XV K a) H0 O0 H O l)):=by
 unfold ym at e;split at e
 ·cases e;obtain⟨p,xs,rfl,h1,h2⟩:=(r.at s0 s1 (j3.refl _)).lst;refine⟨p,rfl,.inl ⟨⟨xs,jr.of h1⟩,fun i H' O' t0 t1 t2 _=>?_⟩⟩;obtain⟨p',ys,e',g1,g2⟩:=(r.at t0 t1 t2).lst;cases e';refine⟨fun d hd=>?_,fun hi=>⟨ys,jr.of g1,by rw[g2.len,hi];exact wPa _⟩⟩;obtain⟨x,hx,rx⟩:=g2.get hd;refine⟨⟨ys,x,jr.of g1,hx⟩,fun x' H'' y=>?_⟩;obtain⟨e1,y⟩:=y;have z:=y ys (jr.of g1);rw[hx]at z;cases z;rw[e1];exact⟨j3.refl _,rx⟩
 ·cases e;obtain⟨p,xs,rfl,h1,h2⟩:=(r.at s0 s1 (j3.refl _)).tup;refine⟨p,rfl,.inr ⟨⟨xs,h1⟩,fun i H' O' t0 t1 t2 _=>?_⟩⟩;obtain⟨p',ys,e',g1,g2⟩:=(r.at t0 t1 t2).tup;cases e';refine⟨fun d hd=>?_,fun hi=>⟨ys,g1,by rw[g2.len,hi];exact wPa _⟩⟩;obtain⟨x,hx,rx⟩:=g2.get hd;refine⟨⟨ys,x,g1,hx⟩,fun x' H'' y=>?_⟩;obtain⟨e1,y⟩:=y;have z:=y ys g1;rw[hx]at z;cases z;rw[e1];exact⟨j3.refl _,rx⟩
 ·cases e
theorem Cs(h:PE X e (tP K de))(hK:X.K=K:=by rfl):PI X tg e (yl K (YH de)):=YG (a_ h) fun U H R xx=>by
 obtain⟨H0,O0,Z,O,items,Re,ed,q⟩:=xx;subst hK;obtain⟨d,e1,e2⟩:=j0 ed;refine⟨H0,O0,Z,O,d,Re,e1,fun v H' s r=>?_⟩;have R':=Re.grow s;obtain⟨a,rfl,z⟩:=A0 r e2 R'.keep R'.in0;rcases z with⟨z1,z2⟩ | ⟨z1,z2⟩
 ·exact⟨a,rfl,.inl ⟨z1,q _ H' s z2⟩⟩
 ·exact⟨a,rfl,.inr ⟨z1,q _ H' s z2⟩⟩
noncomputable def ZV(lo:Int)(n:Nat):List D:=(List.range n).map fun(i:Nat)=>D.int (lo+(i:Int))
theorem A1{H0 H:Hp}{O0:FA}{O:List Addr}{lo:Int}{n:Nat}:uW K (WY lo n) H0 O0 H O (ZV lo n):=fun i H' O' _ _ _ _=>by
 refine⟨fun d hd=>?_,fun hi=>?_⟩
 ·unfold ZV at hd;rw[uAa]at hd;cases q:(List.range n)[i]? with
  | none=>rw[q]at hd;cases hd
  | some j=>
   rw[q]at hd;cases hd;obtain⟨h1,h2⟩:=uSa q;rw[List.getElem_range]at h2;subst h2;rw[List.length_range]at h1;refine⟨h1,fun x H'' y=>?_⟩;obtain⟨e1,e2⟩:=y;rw[e1,e2];exact⟨j3.refl _,by rw[j5]⟩
 ·unfold ZV at hi;rw[vYa,List.length_range]at hi;show n<=i;omega
noncomputable def zj(j:Int):Bool:=Nat.blt j.natAbs 4611686018427387904
theorem GW(h:zj j=true):-(2 ^ 62)<=j/\j < 2 ^ 62:=by
 unfold zj at h;rw[Nat.blt_eq]at h;have e:(2:Int) ^ 62=4611686018427387904:=by decide
 rw[e];omega
@[simp] def GX(de:DE)(Z:jb):Option (List D):=(de Z).bind fun d=>match d with
 | .int j=>if zj j=true then some (ZV 0 j.toNat)else none
 | _=>none
set_option tactic.hygienic true in
theorem A2(hg:Gl X "range")(hm:X.mg "range" = none)(h:PE X a (tR K da))(hs:starEach [a] X.env=[(false,eval a X.env)]:=by rfl):PI X tg (.Call (.Name "range" p) [a] [] pos) (yl K (GX da)):=YG (K7 hg hm (jB h Jc (by rw[hs];rfl)) hs) fun U H R xx=>by
 obtain⟨H0,O0,Z,O,items,Re,ed,q⟩:=xx;obtain⟨d,e1,e2⟩:=j0 ed;refine⟨H0,O0,Z,O,d,Re,e1,fun v H' s r=>?_⟩;split at e2
 ·split at e2
  ·cases e2;rename_i hj;have hj:=GW hj;exact⟨_,by rw[r.int],hj.1,hj.2,q _ H' s A1⟩
  ·cases e2
 ·cases e2
def Ct(K:Fr)(ta:TA):TI:=fun U H R=>ta U H fun vs H1=>∃k j a b xs ys,vs=[.ref a,.ref b]/\zK K k H1 a xs/\zK K j H1 b ys/\R (Dp K k j a b) H1
theorem x9(hg:Gl X "zip")(hm:X.mg "zip" = none)(ha:PA X [e1,e2] ta)(hs:starEach [e1,e2] X.env=[(false,eval e1 X.env),(false,eval e2 X.env)]:=by rfl)(hs2:starEach [e2] X.env=[(false,eval e2 X.env)]:=by rfl):
  PI X (.Tuple es x1 tp) (.Call (.Name "zip" p) [e1,e2] [] pos) (Ct X.K ta):=by
 intro pins s U H R I h;refine Call_ (yT I hg hm boot_zip (PyProof.Rows.callWith_type1 (jm (ha pos pins s U H _ I h) fun us s1 xx=>?_) (by rw[hs,hs2]) (by rw[hs2];rfl)));obtain⟨vs,H1,I1,r1,q1⟩:=xx;obtain⟨k,j,a,b,xs,ys,e,qa,qb,q⟩:=q1;subst e;cases r1 with
 | cons r rr=>
  cases rr with
  | cons r' rr=>
   cases rr;cases r;cases r';obtain⟨ia,ra,pa,_⟩:=I1.seqK qa;obtain⟨ib,rb,pb,_⟩:=I1.seqK qb;refine wR pa pb fun h' b1 b2 b3 b4 b5 bk=>?_;refine wpAny_pyIter_zip b1 ?_;have fr:∀m,Ja X pins H1 (s1.heap.objs.size+m):=fun m=>I1.fpOk (vKa _ _) (I1.hok.fresh (vKa _ _));refine⟨_,_,_,_,H1,rfl,I1.kept (t':=s1.toks) bk,wU (zipApart_new pa.lt pb.lt),⟨b1,b2,⟨_,_,b3⟩,b4,b5⟩,fun c hc=>?_,q⟩;simp only[List.mem_cons,List.not_mem_nil,or_false]at hc;rcases hc with rfl | rfl | rfl | rfl | rfl
   ·exact fr 4
   ·exact fr 2
   ·exact fr 3
   ·exact fr 0
   ·exact fr 1
theorem vH{O:List Addr}{H:Hp}{d:D}{v:V}{l:List D}(r:RB K O H d v)(e:ym d=some l):∃k a xs,v=.ref a/\zK K k H a xs/\j1 K (j4 H O) l xs/\(k=Sk.l↔∃m,d=D.lst m):=by
 unfold ym at e;split at e
 ·cases e;obtain⟨p,xs,rfl,h1,h2⟩:=r.lst;exact⟨.l,p,xs,rfl,jr.of h1,h2,Iff.intro (fun _=>⟨_,rfl⟩) (fun _=>rfl)⟩
 ·cases e;obtain⟨p,xs,rfl,h1,h2⟩:=r.tup;exact⟨.t,p,xs,rfl,h1,h2,Iff.intro (fun z=>nomatch z) (fun z=>by obtain⟨_,z⟩:=z;cases z)⟩
 ·cases e
theorem qI{k k':Sk}{d:D}(h:k=Sk.l↔∃m,d=D.lst m)(h':k'=Sk.l↔∃m,d=D.lst m):k=k':=by
 cases k <;> cases k' <;> first | rfl | (exact vDa (h'.mpr (h.mp rfl)) (by intro z;cases z)) | (exact vDa (h.mpr (h'.mp rfl)) (by intro z;cases z))
@[simp] def W5(da db:DE)(Z:jb):Option (List D):=(da Z).bind fun x=>(db Z).bind fun y=>(ym x).bind fun l=>(ym y).bind fun m=>some (List.zipWith (fun p q=>D.tup [p,q]) l m)
theorem GY{O:List Addr}{H:Hp}{p:Addr}{d d':D}{x y:V}(hO:p∉O)(hp:H p=none)(r:j5 K (j4 H O) d x)(r':j5 K (j4 H O) d' y):j5 K (j4 (upd H p (.tup [x,y])) O) (.tup [d,d']) (.ref p):=Ju hO hp (j1.cons r (j1.cons r' j1.nil))
set_option tactic.hygienic true in
theorem Cu{es:List Expr}{x1:Nat}{tp p:Pos}(hg:Gl X "zip")(hm:X.mg "zip" = none)(h:PE X a (tP K da))(h':PE X b (tP K db))(hs:starEach [a,b] X.env=[(false,eval a X.env),(false,eval b X.env)]:=by rfl)(hs2:starEach [b] X.env=[(false,eval b X.env)]:=by rfl)(hK:X.K=K:=by rfl):
  PI X (.Tuple es x1 tp) (.Call (.Name "zip" p) [a,b] [] pos) (yl K (W5 da db)):=YG (x9 hg hm (jB h (jB h' Jc (by rw[hs2];rfl)) (by rw[hs,hs2])) hs hs2) fun U H R xx=>by
 obtain⟨H0,O0,Z,O,items,Re,ed,q⟩:=xx;subst hK;obtain⟨x,e1,ed⟩:=j0 ed;obtain⟨y,e2,ed⟩:=j0 ed;obtain⟨l,e3,ed⟩:=j0 ed;obtain⟨m,e4,ed⟩:=j0 ed;cases ed;refine⟨H0,O0,Z,O,x,Re,e1,fun v H1 s1 r=>⟨H0,O0,Z,O,y,Re.grow s1,e2,fun v2 H2 s2 r2=>?_⟩⟩;have R1:=Re.grow s1;have R2:=R1.grow s2;have r':RP X.K H0 O0 H2 O x v:=by
  rcases r with r | r
  ·exact .inl (r.same (ja s2))
  ·exact .inr r
 obtain⟨k,p,xs,rfl,h1,h2,hk⟩:=vH (r'.at R2.keep R2.in0 (j3.refl _)) e3;obtain⟨j,p',ys,rfl,h1',h2',hj⟩:=vH (r2.at R2.keep R2.in0 (j3.refl _)) e4;refine⟨k,j,p,p',xs,ys,rfl,h1,h1',q _ H2 (s1.trans s2) fun i H' O' t0 t1 t2 ta=>?_⟩;obtain⟨k2,q2,us,ea,g1,g2,hk2⟩:=vH (r'.at t0 t1 t2) e3;cases ea;cases qI hk hk2;obtain⟨j2,q3,ws,eb,g1',g2',hj2⟩:=vH (r2.at t0 t1 t2) e4;cases eb;cases qI hj hj2;refine⟨fun d hd=>?_,fun hi=>⟨us,ws,g1,g1',?_⟩⟩
 ·rw[List.getElem?_zipWith]at hd;split at hd
  ·cases hd;rename_i dp dq hp hq;obtain⟨u,hu,ru⟩:=g2.get hp;obtain⟨w,hw,rw'⟩:=g2'.get hq;refine⟨⟨us,ws,u,w,g1,g1',hu,hw⟩,fun x' H'' yy=>?_⟩;obtain⟨pp,hpp,rfl,yy⟩:=yy;rw[yy _ _ _ _ g1 g1' hu hw];exact⟨jp hpp _,GY (fun z=>ta pp z hpp) hpp ru rw'⟩
  ·cases hd
 ·rw[List.length_zipWith]at hi;rw[g2.len,g2'.len];omega
noncomputable def YI:Nat->List D->List D
 | _,[]=>[]
 | n,d::ds=>.tup [.int n,d]::YI (n+1) ds
theorem VI:∀(n:Nat) (l:List D),(YI n l).length=l.length
 | _,[]=>rfl
 | n,d::ds=>by rw[YI,vXa,vXa,VI]
theorem VJ:∀(n:Nat) (l:List D) (i:Nat) (d:D),(YI n l)[i]?=some d->∃d',l[i]?=some d'/\d=.tup [.int ((n+i:Nat):Int),d']
 | _,[],_,_,h=>by simp[YI]at h
 | n,x::l,0,d,h=>by
  simp[YI]at h;exact⟨x,rfl,by rw[<-h];rfl⟩
 | n,x::l,i+1,d,h=>by
  simp only[YI,List.getElem?_cons_succ]at h;obtain⟨d',h1,h2⟩:=VJ (n+1) l i d h;refine⟨d',by simpa using h1,?_⟩;rw[h2];have:n+1+i=n+(i+1):=by omega
  rw[this]
noncomputable def vI:D->Option (List D)
 | .lst l=>some l
 | _=>none
@[simp] theorem Dy(l:List D):vI (.lst l)=some l:=rfl
@[simp] def qJ(de:DE)(Z:jb):Option (List D):=(de Z).bind fun d=>(vI d).bind fun l=>some (YI 0 l)
theorem A3{es:List Expr}{x1:Nat}{tp p:Pos}(hg:Gl X "enumerate")(hm:X.mg "enumerate" = none)(h:PE X a (tP K da))(hs:starEach [a] X.env=[(false,eval a X.env)]:=by rfl)(hK:X.K=K:=by rfl):
  PI X (.Tuple es x1 tp) (.Call (.Name "enumerate" p) [a] [] pos) (yl K (qJ da)):=YG (QY hg hm (jB h Jc (by rw[hs];rfl)) hs) fun U H R xx=>by
 obtain⟨H0,O0,Z,O,items,Re,ed,q⟩:=xx;subst hK;obtain⟨x,e1,ed⟩:=j0 ed;obtain⟨l,e3,ed⟩:=j0 ed;cases ed;refine⟨H0,O0,Z,O,x,Re,e1,fun v H1 s1 r=>?_⟩;have R1:=Re.grow s1;unfold vI at e3;split at e3
 ·cases e3;obtain⟨p,xs,rfl,h1,h2⟩:=(r.at R1.keep R1.in0 (j3.refl _)).lst;refine⟨p,xs,rfl,jr.of h1,q _ H1 s1 fun i H' O' t0 t1 t2 ta=>?_⟩;obtain⟨p',us,ea,g1,g2⟩:=(r.at t0 t1 t2).lst;cases ea;refine⟨fun d hd=>?_,fun hi=>⟨us,jr.of g1,by rw[g2.len,hi,VI];exact wPa _⟩⟩;obtain⟨d',hd',rfl⟩:=VJ 0 l i d hd;obtain⟨u,hu,ru⟩:=g2.get hd';refine⟨⟨us,u,jr.of g1,hu⟩,fun x' H'' yy=>?_⟩;obtain⟨pp,hpp,rfl,yy⟩:=yy;rw[yy _ _ (jr.of g1) hu];exact⟨jp hpp _,GY (fun z=>ta pp z hpp) hpp (by rw[j5,Nat.zero_add]) ru⟩
 ·cases e3
abbrev DG:=D->jb->Option jb
abbrev Kt:=List D->jb->Option jb
def tG(K:Fr)(k:Nat)(g:DG):TG:=fun v U H Q=>∃H0 O0 Z O d Z',Rel K H0 O0 Z U H O/\j5 K (j4 H O) d v/\g d Z=some Z'/\∀U',Rel K H0 O0 Z' U' H O->U'.drop k=U.drop k->Q U' H
def Ku(K:Fr)(k:Nat)(g:Kt):gu:=fun vs U H Q=>∃H0 O0 Z O ds Z',Rel K H0 O0 Z U H O/\j1 K (j4 H O) ds vs/\g ds Z=some Z'/\∀U',Rel K H0 O0 Z' U' H O->U'.drop k=U.drop k->Q U' H
theorem qK(h:PG X tg t)(f:∀v U H Q,t' v U H Q->t v U H Q):PG X tg t':=fun pins s U H v u Q I r q=>h pins s U H v u Q I r (f v U H Q q)
theorem Kv(h:zU X ts t)(f:∀v U H Q,t' v U H Q->t v U H Q):zU X ts t':=fun pins s U H v u Q I r q=>h pins s U H v u Q I r (f v U H Q q)
@[simp] noncomputable def gN(i:Nat)(d:D)(Z:jb):Option jb:=some (Z.set i (.cl d))
theorem A4(h:PG X (.Name x pos) (JX i))(hi:i < k:=by decide):PG X (.Name x pos) (tG K k (gN i)):=qK h fun v U H Q xx=>by
 obtain⟨H0,O0,Z,O,d,Z',R,r,e,q⟩:=xx;cases e;exact q _ (R.set r i) (List.drop_set_of_lt hi)
@[simp] noncomputable def gZ(ds:List D)(Z:jb):Option jb:=match ds with
 | []=>some Z
 | _=>none
@[simp] noncomputable def gC(g:DG)(gs:Kt)(ds:List D)(Z:jb):Option jb:=match ds with
 | d::r=>(g d Z).bind fun Z1=>gs r Z1
 | []=>none
theorem Cv:zU X [] (Ku K k gZ):=Kv QF fun v U H Q xx=>by
 obtain⟨H0,O0,Z,O,d,Z',R,r,e,q⟩:=xx;unfold gZ at e;split at e
 ·cases e;rw[j1]at r;exact⟨r,q _ R rfl⟩
 ·cases e
theorem A5(h1:PG X e (tG K k g))(h2:zU X es (Ku K k gs))(hs:(assignEach (e::es) X.env).map (·.2)=assign e X.env::(assignEach es X.env).map (·.2):=by rfl):zU X (e::es) (Ku K k (gC g gs)):=Kv (wy h1 h2 hs) fun v U H Q xx=>by
 obtain⟨H0,O0,Z,O,ds,Z',R,r,ed,q⟩:=xx;unfold gC at ed;split at ed
 ·obtain⟨Z1,e1,e2⟩:=j0 ed;rw[j1]at r;obtain⟨v1,vr,rfl,a,b⟩:=r;exact⟨v1,vr,rfl,H0,O0,Z,O,_,Z1,R,a,e1,fun U' R' k1=>⟨H0,O0,Z1,O,_,Z',R',b,e2,fun U2 R2 k2=>q U2 R2 (k2.trans k1)⟩⟩
 ·cases ed
@[simp] noncomputable def gT(n:Nat)(gs:Kt)(d:D)(Z:jb):Option jb:=match d with
 | .tup l=>if l.length=n then gs l Z else none
 | _=>none
theorem Cw(n:Nat)(hc:X.calm=true)(h:zU X es (Ku K kk gs))(hn:(assignEach es X.env).length=n:=by rfl)(hst:(assignEach es X.env).findIdx? (·.1)=none:=by rfl)(hK:X.K=K:=by rfl):PG X (.Tuple es k pos) (tG K kk (gT n gs)):=qK (XM hc h hn hst) fun v U H Q xx=>by
 obtain⟨H0,O0,Z,O,d,Z',R,r,ed,q⟩:=xx;subst hK;unfold gT at ed;split at ed
 ·split at ed
  ·obtain⟨a,xs,rfl,h1,h2⟩:=RB.tup (.inl r);exact⟨a,xs,rfl,h1,by rw[h2.len];assumption,H0,O0,Z,O,_,Z',R,h2,ed,q⟩
  ·cases ed
 ·cases ed
@[simp] noncomputable def yo(_:jb):Option Bool:=some true
theorem Et:yZ X [] (tT K yo):=fun pins s U H Q I xx=>by
 obtain⟨H0,O0,Z,O,b,R,ed,q⟩:=xx;cases ed;exact QS pins s U H Q I (q H (j3.refl H))
theorem Eu(h:PT X c (tT K dt)):yZ X [c] (tT K dt):=QT h
@[simp] noncomputable def ZW(k:Nat)(caps:List Nat)(Z:jb):jb:=List.replicate k .un++caps.map fun j=>(Z[j]?).getD .un
def yp(g:DG)(dc:DT)(de:DE):List D->jb->Option (List D)
 | [],_=>some []
 | d::ds,Z=>(g d Z).bind fun Z1=>(dc Z1).bind fun k=>if k=true then(de Z1).bind fun y=>(yp g dc de ds Z).bind fun ys=>some (y::ys)else yp g dc de ds Z
@[simp] def zN(k:Nat)(caps:List Nat)(di:DI)(g:DG)(dc:DT)(de:DE)(Z:jb):Option OD:=(di Z).bind fun items=>(yp g dc de items (ZW k caps Z)).bind fun ys=>if items.length<=sizeLine then some (.lst ys)else none
theorem W6(own:List Str)(caps:List (Str×Nat))(R:Rel K H0 O0 Z U H O)(hnd:(caps.map (·.2)).Nodup):Rel K H0 O0 (ZW own.length (caps.map (·.2)) Z) (YC own caps U) H O:=by
 have key:∀(i:Nat) (s:Sl),s≠.un->(ZW own.length (caps.map (·.2)) Z)[i]?=some s->∃m x j,i=own.length+m/\caps[m]?=some (x,j)/\Z[j]?=some s/\(YC own caps U)[i]?=some ((U[j]?).join):=fun i s hs e=>by
  unfold ZW at e;by_cases hi:i < own.length
  ·rw[uRa (by rw[List.length_replicate];exact hi),List.getElem?_replicate,if_pos hi]at e;cases e;exact vDa rfl hs
  ·rw[List.getElem?_append_right (by rw[List.length_replicate];omega),List.length_replicate,List.map_map,uAa]at e;cases q:caps[i - own.length]? with
   | none=>rw[q]at e;cases e
   | some p=>
    rw[q]at e;obtain⟨x,j⟩:=p;have e:(Z[j]?).getD .un=s:=vFa e;refine⟨i - own.length,x,j,by omega,q,?_,?_⟩
    ·cases z:Z[j]? with
     | none=>rw[z]at e;exact vDa e.symm hs
     | some s'=>rw[z]at e;rw[<-e];rfl
    ·show(own.map (fun _=>(none:Option V))++caps.map fun(p:Str×Nat)=>(U[p.2]?).join)[i]?=_;rw[List.getElem?_append_right (by rw[vYa];omega),vYa,uAa,q];rfl
 have jn:∀{o:Option (Option V)} {v:V},o.join=some v->o=some (some v):=fun {o v} z=>by
  cases o with
  | none=>cases z
  | some w=>cases w with
   | none=>cases z
   | some u=>cases z;rfl
 have mj:∀{m m' j:Nat} {x x':Str},caps[m]?=some (x,j)->caps[m']?=some (x',j)->m=m':=fun {m m' j x x'} c1 c2=>by
  have h1:(caps.map (·.2))[m]?=some j:=by rw[uAa,c1];rfl
  have h2:(caps.map (·.2))[m']?=some j:=by rw[uAa,c2];rfl
  have l1:=(uSa h1).1;exact(List.getElem?_inj l1 hnd).mp (h1.trans h2.symm)
 refine⟨?_,R.sub,R.fr,R.al0,R.al,R.keep,?_,?_,?_,?_,?_⟩
 ·show(own.map (fun _=>(none:Option V))++caps.map fun(p:Str×Nat)=>(U[p.2]?).join).length=_;unfold ZW;simp
 ·intro i d e;obtain⟨m,x,j,_,_,e2,e3⟩:=key i _ (by intro z;cases z) e;obtain⟨v,h1,h2⟩:=R.cl j d e2;exact⟨v,by rw[e3,h1];rfl,h2⟩
 ·intro i d e;obtain⟨m,x,j,_,_,e2,e3⟩:=key i _ (by intro z;cases z) e;obtain⟨v,h1,h2⟩:=R.bo j d e2;exact⟨v,by rw[e3,h1];rfl,h2⟩
 ·intro i q o e;obtain⟨m,x,j,_,_,e2,e3⟩:=key i _ (by intro z;cases z) e;obtain⟨l,z,h1,h2⟩:=R.ow j q o e2;exact⟨l,z,by rw[e3,h1];rfl,h2⟩
 ·intro i i' q q' ds es l e e' f f';obtain⟨m,x,j,rfl,c1,e2,e3⟩:=key i _ (by intro z;cases z) e;obtain⟨m',x',j',rfl,c2,e2',e3'⟩:=key i' _ (by intro z;cases z) e';rw[e3]at f;rw[e3']at f';have ej:=R.dist j j' q q' ds es l e2 e2' (jn (vFa f)) (jn (vFa f'));subst ej;rw[mj c1 c2]
 ·intro i qb hb e;obtain⟨m,x,j,rfl,c1,e2,e3⟩:=key i _ (by intro z;cases z) e;obtain⟨l,ps,h1,hp,h2,nd,f,u⟩:=R.lo j qb hb e2;refine⟨l,ps,by rw[e3,h1];rfl,hp,h2,nd,fun a ha=>⟨(f a ha).1,(f a ha).2.1,fun⟨k,q,o,y,z⟩=>(f a ha).2.2 ?_⟩,fun k qb' ms y=>?_⟩
  ·obtain⟨_,_,j',_,_,y2,y3⟩:=key k _ (by intro z;cases z) y;rw[y3]at z;exact⟨j',q,o,y2,jn (vFa z)⟩
  ·obtain⟨m',x',j',rfl,c2,y2,_⟩:=key k _ (by intro z;cases z) y;have:=u j' qb' ms y2;subst this;rw[mj c1 c2]
end
section
variable {X:Cx} {K:Fr} {e a b c d tg:Expr} {de da db dc dd:DE} {pos:Pos}
set_option tactic.hygienic true in
theorem uX{own:List Str}{caps:List (Str×Nat)}{di:DI}{g:DG}{dc:DT}{de:DE}(hnd:(caps.map (·.2)).Nodup):∀U H Q,tF K (zN own.length (caps.map (·.2)) di g dc de) U H Q->aG own caps (yl K di) (tG K own.length g) (tT K dc) (tE K de) U H Q:=fun U H Q xx=>by
 obtain⟨H0,O0,Z,O,o,R,ed,q⟩:=xx;obtain⟨items,e1,ed⟩:=j0 ed;obtain⟨ys,e2,ed⟩:=j0 ed;split at ed
 ·rename_i hz;cases ed;refine⟨H0,O0,Z,O,items,R,e1,fun J H1 s1 hJ=>?_⟩;have R1:=R.grow s1;have Rc:=W6 own caps R1 hnd;refine⟨fun i m vs H'=>∃ys1 ys2,yp g dc de (items.drop i) (ZW own.length (caps.map (·.2)) Z)=some ys2/\ys1++ys2=ys/\j3 H1 H'/\j1 K (j4 H' O) ys1 vs/\m=items.length - i/\i<=items.length/\ys1.length<=i,⟨items.length,[],ys,by simpa using e2,rfl,j3.refl _,j1.nil,rfl,Nat.zero_le _,wPa _⟩,?_⟩;rintro i m vs H' ⟨ys1,ys2,d1,d2,sH,rp,rfl,hi,hy⟩;have R2:=R1.grow sH;obtain⟨hgo,hstop⟩:=hJ i H' O R2.keep R2.in0 (ja sH) R2.al;by_cases hlt:i < items.length
  ·right;have hx:items[i]?=some items[i]:=by simp[hlt]
   have hd:items.drop i=items[i]::items.drop (i+1):=(List.getElem_cons_drop hlt).symm;rw[hd]at d1;obtain⟨g1,g2⟩:=hgo _ hx;refine⟨g1,by rw[rp.len];lia,fun vs' H4=>∃ys1 ys2,yp g dc de (items.drop (i+1)) (ZW own.length (caps.map (·.2)) Z)=some ys2/\ys1++ys2=ys/\j3 H1 H4/\j1 K (j4 H4 O) ys1 vs'/\ys1.length<=i+1,?_,fun x H'' y=>?_⟩
   ·rintro vs' H4 ⟨z1,z2,a1,a2,a3,a4,a5⟩;exact⟨items.length - (i+1),by lia,z1,z2,a1,a2,a3,a4,rfl,hlt,a5⟩
   ·obtain⟨sy,rx⟩:=g2 x H'' y;obtain⟨Z1,f1,f2⟩:=j0 d1;obtain⟨k,f3,f4⟩:=j0 f2;refine⟨H0,O0,_,O,_,Z1,Rc.grow (sH.trans sy),rx,f1,fun U2 R3 kd=>⟨kd,H0,O0,Z1,O,k,R3,f3,fun H3 s3=>?_⟩⟩;cases k with
    | true=>
     rw[if_pos rfl]at f4;obtain⟨y1,f5,f6⟩:=j0 f4;obtain⟨yr,f7,f8⟩:=j0 f6;cases f8;refine yC ⟨H0,O0,Z1,O,y1,R3.grow s3,f5,fun v H4 s4 rv=>?_⟩;exact⟨ys1++[y1],yr,f7,by rw[<-d2];simp,sH.trans (sy.trans (s3.trans s4)),(rp.same (ja (sy.trans (s3.trans s4)))).snoc rv,by simp;exact hy⟩
    | false=>
     rw[if_neg Bool.false_ne_true]at f4;exact yB ⟨ys1,ys2,f4,d2,sH.trans (sy.trans s3),rp.same (ja (sy.trans s3)),by lia⟩
  ·left;have ei:i=items.length:=by lia
   refine⟨hstop ei,by rw[rp.len];lia,fun Dd hD=>?_⟩;have e0:items.drop i=[]:=List.drop_of_length_le (by lia);rw[e0]at d1;have e3:ys2=[]:=by
    have d1:some []=some ys2:=d1;exact(vFa d1).symm
   rw[e3,uFa]at d2;subst d2;exact q Dd _ ((s1.trans sH).trans (jp hD _)) ((s1.trans sH).none hD) (JE hD rp)
 ·cases ed
theorem Ev{iter elt:Expr}{ifs:List Expr}{scope:Scope}{di:DI}{g:DG}{dc:DT}{de:DE}(own:List Str)(caps:List (Str×Nat))(S:CScope X scope)(hcap:Caps X scope caps)(hc:X.calm=true)(hi:PI X tg iter (yl K di))
  (hg:∀s3 H3 ex',PG (X.comp (cN own caps) scope s3 H3 ex') tg (tG K own.length g)) (ht:∀s3 H3 ex',yZ (X.comp (cN own caps) scope s3 H3 ex') ifs (tT K dc)) (he:∀s3 H3 ex',PE (X.comp (cN own caps) scope s3 H3 ex') elt (tE K de))
  (hnd:(caps.map (·.2)).Nodup:=by decide) (hs:∀x,foldedSetIterable iter X.env x=pure x:=by intro _;rfl):PE X (.ListComp elt [⟨tg,iter,ifs,0⟩] scope pos) (tF K (zN own.length (caps.map (·.2)) di g dc de)):=jj (cJ own caps S hcap hc hi hg ht he hs) (uX hnd)
def Y5(K:Fr)(ks:List Bool)(F:List D->Option D):Sp:=fun vs H Q _=>∃O ds d,(∀a∈O,H a≠none)/\Jh K O H ks ds vs/\F ds=some d/\∀v H',j3 H H'->j5 K (j4 H' O) d v->Q v H'
def gJ(K:Fr)(ks:List Bool)(F:List D->Option OD):Sp:=fun vs H Q _=>∃O ds o,(∀a∈O,H a≠none)/\Jh K O H ks ds vs/\F ds=some o/\∀l H',j3 H H'->H l=none->Jo K H' (j4 H' (l::O)) l o->Q (.ref l) H'
variable {k:Nat} {x m:Str} {ps:List Str} {p apos:Pos} {es:List Expr} {l:DA} {ks:List Bool}
theorem uY(G:FnI X.prog X.w X.K X.mg X.base k x ps (Y5 K ks F))(hr:Room k X.A)(ha:PA X (e::es) (Ji K l))(hk:l.map (·.1)=ks:=by rfl)(hg:Gl X x:=by rfl)(hdb:(x==("__debug__" : Str))=false:=by decide)
  (he:starEach (e::es) X.env=(false,eval e X.env)::starEach es X.env:=by rfl) (hpl:(backTo pos (starEach es X.env)).any (·.1)=false:=by rfl):PE X (.Call (.Name x p) (e::es) [] pos) (tE K (jD F l)):=jj (GN G hr ha hg hdb he hpl) fun U H Q xx=>by
 obtain⟨H0,O0,Z,O,d,R,ed,q⟩:=xx;subst hk;obtain⟨ds,e1,e2⟩:=j0 ed;refine⟨H0,O0,Z,O,ds,R,e1,fun vs H1 s1 r1=>?_⟩
 (try dsimp only)
 rw[uFa];exact⟨O,ds,d,(R.grow s1).al,r1,e2,fun v H' s r=>q v H' (s1.trans s) r⟩
theorem A6(G:FnI X.prog X.w X.K X.mg X.base k x ps (gJ K ks F))(hr:Room k X.A)(ha:PA X (e::es) (Ji K l))(hk:l.map (·.1)=ks:=by rfl)(hg:Gl X x:=by rfl)(hdb:(x==("__debug__" : Str))=false:=by decide)
  (he:starEach (e::es) X.env=(false,eval e X.env)::starEach es X.env:=by rfl) (hpl:(backTo pos (starEach es X.env)).any (·.1)=false:=by rfl):PE X (.Call (.Name x p) (e::es) [] pos) (tF K (zA F l)):=jj (GN G hr ha hg hdb he hpl) fun U H Q xx=>by
 obtain⟨H0,O0,Z,O,d,R,ed,q⟩:=xx;subst hk;obtain⟨ds,e1,e2⟩:=j0 ed;refine⟨H0,O0,Z,O,ds,R,e1,fun vs H1 s1 r1=>?_⟩
 (try dsimp only)
 rw[uFa];exact⟨O,ds,d,(R.grow s1).al,r1,e2,fun l H' s hn r=>q l H' (s1.trans s) (s1.none hn) r⟩
noncomputable def GZ(C:Addr)(m:Str)(F:List D->Option D):D->Option D:=fun d=>match d with
 | .ins C' ns ds=>if C'=C/\m∉ns then F [d]else none
 | .obj C' ns ds ms es=>if C'=C/\m∉ns++ms then F [d]else none
 | _=>none
theorem yM:∀{ns:List Str} {xs:List α},m∉ns->(ns.zip xs).lookup m=none
 | [],_,_=>rfl
 | _::_,[],_=>rfl
 | n::ns,x::xs,h=>by
  rw[List.zip_cons_cons,List.lookup_cons];have e:(m==n)=false:=by
   rw[beq_eq_false_iff_ne];exact fun z=>h (by rw[z];exact wNa)
  rw[e];exact yM fun z=>h (wMa _ z)
set_option tactic.hygienic true in
theorem xa(he:PE X a (tR K da))(c:Cls K C)(M:MtI X.prog X.w X.K X.mg X.base k C m ps (Y5 K [false] F))(hr:Room k X.A)
  (ht:eval (.Call (.Attribute a m apos) [] [] pos) X.env=(do
   let ov<-eval a X.env
   standAt apos.atName
   let (f,first)<-holding [ov] (getMethod ov m pl)
   callWith pos f first (backTo pos (starEach [] X.env)) (backToKw pos (keywordEach [] X.env))):=by rfl) (hK:X.K=K:=by rfl):
  PE X (.Call (.Attribute a m apos) [] [] pos) (tE K (d1 (GZ C m F) da)):=by
 subst hK;refine jj (aI he c M hr ht) fun U H Q xx=>?_;obtain⟨H0,O0,Z,O,d,R,ed,q⟩:=xx;obtain⟨x,e1,e2⟩:=j0 ed;refine⟨H0,O0,Z,O,x,R,e1,fun v H1 s1 r=>?_⟩;unfold GZ at e2;split at e2
 ·split at e2
  ·rename_i hh;obtain⟨rfl,hm⟩:=hh;have r0:=r;obtain⟨pa,dx,xs,rfl,h1,hn,h2⟩:=r.ins;exact⟨pa,dx,_,rfl,h1,yM hm,O,[_],d,(R.grow s1).al,⟨r0,trivial⟩,e2,fun v H' s r=>q v H' (s1.trans s) r⟩
  ·cases e2
 ·split at e2
  ·rename_i hh;obtain⟨rfl,hm⟩:=hh;have r0:=r;obtain⟨pa,dx,xs,ys,rfl,h1,_⟩:=r.obj;rw[List.mem_append,not_or]at hm;exact⟨pa,dx,_,rfl,h1,by rw[List.lookup_append,yM hm.1,yM hm.2];rfl,O,[_],d,(R.grow s1).al,⟨r0,trivial⟩,e2,fun v H' s r=>q v H' (s1.trans s) r⟩
  ·cases e2
 ·cases e2
def qL(K:Fr)(C:Addr)(ks:List Bool)(F:Addr->List D->Option OD):Sp:=fun vs H Q _=>∃O ds p dx vs' o,vs=.ref p::vs'/\(∀a∈O,H a≠none)/\H p=some (.ins C dx [])/\p∉O/\Jh K O (j4 H [p]) ks ds vs'/\F p ds=some o/\∀H',j3 (j4 H [p]) H'->Jo K H' (j4 H' (p::O)) p o->Q .non H'
@[simp] def G_(F:List D->Option OD)(l:DA)(Z:jb):Option OD:=(J9 l Z).bind F
theorem A7(M:MkI X.prog X.w X.K X.mg X.base k C x ps (qL K C ks F))(hF:∀p ds o,F1 ds=some o->F p ds=some o)(hr:Room (k+1) X.A)(ha:PA X (e::es) (Ji K l))(hk:l.map (·.1)=ks:=by rfl)(hg:Gl X x:=by rfl)(hdb:(x==("__debug__" : Str))=false:=by decide)
  (he:starEach (e::es) X.env=(false,eval e X.env)::starEach es X.env:=by rfl) (hpl:(backTo pos (starEach es X.env)).any (·.1)=false:=by rfl):PE X (.Call (.Name x p) (e::es) [] pos) (tF K (G_ F1 l)):=jj (cK M hr ha hg hdb he hpl) fun U H Q xx=>by
 obtain⟨H0,O0,Z,O,o,R,ed,q⟩:=xx;subst hk;obtain⟨ds,e1,e2⟩:=j0 ed;refine⟨H0,O0,Z,O,ds,R,e1,fun vs H1 s1 r1=>fun y dy ny ndy hne=>?_⟩
 (try dsimp only)
 rw[uFa];have R1:=R.grow s1;have sB:j3 H1 (j4 (upd (upd H1 dy (.own y)) y (.ins C dy [])) [y]):=fun c u z=>by
  rw[jg (by intro w;simp at w;exact jo z ny w),j7 (jo z ny),j7 (jo z ndy)];exact z
 refine⟨O,ds,y,dy,vs,o,rfl,fun c hc z=>?_,jc,R1.new ny,r1.same sB,hF y ds o e2,fun H' s ow=>⟨rfl,q y H' (s1.trans (sB.trans s)) (s1.none ny) ow⟩⟩;refine R1.al c hc ?_;by_cases h1:c=y
 ·rw[h1];exact ny
 ·rw[j7 h1]at z;by_cases h2:c=dy
  ·rw[h2];exact ndy
  ·rw[j7 h2]at z;exact z
noncomputable abbrev Xp:=Str×List (Str×V)
inductive Rs where
 | nx (Z:jb) | rt (d:D) | rf (o:OD) | bk (Z:jb) | ct (Z:jb) | xc (p:Xp) (Z:jb) | rh (d:D) (Z:jb)
abbrev DS:=jb->Option Rs
def Fin(K:Fr)(Px:Xp->Hp->Prop)(H0:Hp)(O0:FA)(H:Hp)(O:List Addr)(E:Ends):Rs->Prop
 | .nx Z=>∀U' H' O',Rel K H0 O0 Z U' H' O'->j3 (j4 H O) (j4 H' O')->E.nx U' H'
 | .bk Z=>∀U' H' O',Rel K H0 O0 Z U' H' O'->j3 (j4 H O) (j4 H' O')->E.bk U' H'
 | .ct Z=>∀U' H' O',Rel K H0 O0 Z U' H' O'->j3 (j4 H O) (j4 H' O')->E.ct U' H'
 | .rt d=>∀v H',j3 H0 H'->j5 K (j4 H' O0.l) d v->E.rt v H'
 | .rf o=>∀l H',j3 H0 H'->H0 l=none->Jo K H' (j4 H' (l::O0.l)) l o->E.rt (.ref l) H'
 | .xc p Z=>∀U' H' O',Rel K H0 O0 Z U' H' O'->Px p H'
 | .rh d Z=>∀v U' H' O',Rel K H0 O0 Z U' H' O'->j5 K (j4 H' O') d v->E.rt v H'
theorem Fin.mono{H0 H H1:Hp}{O0:FA}{O O1:List Addr}{E:Ends}{r:Rs}(s:j3 (j4 H O) (j4 H1 O1))(h:Fin K Px H0 O0 H O E r):Fin K Px H0 O0 H1 O1 E r:=by
 cases r with
 | nx Z=>exact fun U' H' O' R t=>h U' H' O' R (s.trans t)
 | bk Z=>exact fun U' H' O' R t=>h U' H' O' R (s.trans t)
 | ct Z=>exact fun U' H' O' R t=>h U' H' O' R (s.trans t)
 | rt d=>exact h
 | rf o=>exact h
 | xc p Z=>exact h
 | rh d Z=>exact h
def tS(K:Fr)(Px:Xp->Hp->Prop)(ds:DS):TS:=fun E U H=>∃H0 O0 Z O r,Rel K H0 O0 Z U H O/\ds Z=some r/\Fin K Px H0 O0 H O E r
variable {st:Stmt} {rest:List Stmt} {s1 s2:DS}
theorem jy{t t':TS}(h:PS X st t)(f:∀D U H,t' D U H->t D U H):PS X st t':=fun pins s U H D I q=>h pins s U H D I (f D U H q)
theorem Z8{t t':TS}(h:jG X rest t)(f:∀D U H,t' D U H->t D U H):jG X rest t':=fun pins s U H D I q=>h pins s U H D I (f D U H q)
@[simp] noncomputable def jq(Z:jb):Option Rs:=some (.nx Z)
theorem A8:jG X [] (tS K Px jq):=Z8 gr fun D U H xx=>by
 obtain⟨H0,O0,Z,O,r,R,ed,f⟩:=xx;cases ed;exact f U H O R (j3.refl _)
@[simp] noncomputable def jF(s1 s2:DS)(Z:jb):Option Rs:=(s1 Z).bind fun r=>match r with
 | .nx Z1=>s2 Z1
 | r=>some r
theorem xb(h1:PS X st (tS K Px s1))(h2:jG X rest (tS K Px s2)):jG X (st::rest) (tS K Px (jF s1 s2)):=Z8 (zp h1 h2) fun D U H xx=>by
 obtain⟨H0,O0,Z,O,r,R,ed,f⟩:=xx;obtain⟨r1,e1,e2⟩:=j0 ed;refine⟨H0,O0,Z,O,r1,R,e1,?_⟩;cases r1 with
 | nx Z1=>exact fun U' H' O' R' t=>⟨H0,O0,Z1,O',r,R',e2,f.mono t⟩
 | bk Z1=>cases e2;exact f
 | ct Z1=>cases e2;exact f
 | rt d=>cases e2;exact f
 | rf o=>cases e2;exact f
 | xc p Z=>cases e2;exact f
 | rh d Z=>cases e2;exact f
theorem A9(h1:PS X st (tS K Px s1)):jG X [st] (tS K Px s1):=z9 h1
@[simp] noncomputable def j_(_:jb):Option Rs:=none
theorem W7:jG X rest (tS K Px j_):=Z8 K5 fun D U H ⟨H0,O0,Z,O,r,R,ed,f⟩=>by cases ed
@[simp] def uZ(i:Nat)(s:DS)(Z:jb):Option Rs:=match Z[i]? with
 | some (.ow _ o)=>s (Z.set i (.cl o.toD))
 | _=>none
theorem W8(i:Nat)(h:jG X rest (tS K Px s1)):jG X rest (tS K Px (uZ i s1)):=Z8 h fun D U H xx=>by
 obtain⟨H0,O0,Z,O,r,R,ed,f⟩:=xx;unfold uZ at ed;split at ed
 ·obtain⟨O',R',ss⟩:=R.share (by assumption);exact⟨H0,O0,_,O',r,R',ed,f.mono ss⟩
 ·cases ed
@[simp] noncomputable def JR(dt:DT)(s1 s2:DS)(Z:jb):Option Rs:=(dt Z).bind fun k=>if k=true then s1 Z else s2 Z
theorem Ew(hc:PT X c (tT K dt))(ha:jG X sa (tS K Px s1))(hb:jG X sb (tS K Px s2)):PS X (.If c sa sb pos) (tS K Px (JR dt s1 s2)):=jy (WV hc ha hb) fun D U H xx=>by
 obtain⟨H0,O0,Z,O,r,R,ed,f⟩:=xx;obtain⟨k,e1,e2⟩:=j0 ed;refine⟨H0,O0,Z,O,k,R,e1,fun H' s=>?_⟩;cases k with
 | true=>rw[if_pos rfl]at e2;exact yC ⟨H0,O0,Z,O,r,R.grow s,e2,f.mono (ja s)⟩
 | false=>rw[if_neg Bool.false_ne_true]at e2;exact yB ⟨H0,O0,Z,O,r,R.grow s,e2,f.mono (ja s)⟩
@[simp] def yd(i:Nat)(de:DE)(Z:jb):Option Rs:=(de Z).bind fun d=>some (.nx (Z.set i (.cl d)))
theorem Aa:∀D U H,tS K Px (yd i de) D U H->JQ (tE K de) (JX i) D U H:=fun D U H xx=>by
 obtain⟨H0,O0,Z,O,r,R,ed,f⟩:=xx;obtain⟨d,e1,e2⟩:=j0 ed;cases e2;exact⟨H0,O0,Z,O,d,R,e1,fun v H' s q=>f _ H' O ((R.grow s).set q i) (ja s)⟩
theorem qM(h:PS X st (JQ (tE K de) (JX i))):PS X st (tS K Px (yd i de)):=jy h Aa
@[simp] noncomputable def ZX(i:Nat)(df:DO)(Z:jb):Option Rs:=(df Z).bind fun o=>some (.nx (Z.set i (.ow none o)))
theorem Ab:∀D U H,tS K Px (ZX i df) D U H->JQ (tF K df) (JX i) D U H:=fun D U H xx=>by
 obtain⟨H0,O0,Z,O,r,R,ed,f⟩:=xx;obtain⟨d,e1,e2⟩:=j0 ed;cases e2;exact⟨H0,O0,Z,O,d,R,e1,fun l H' s hn q=>f _ H' (l::O) (R.own s hn q i) (JS s hn)⟩
theorem qN(h:PS X st (JQ (tF K df) (JX i))):PS X st (tS K Px (ZX i df)):=jy h Ab
theorem ZY(h:PS X st (JQ te g))(f:∀U H Q,te' U H Q->te U H Q):PS X st (JQ te' g):=jy h fun D U H q=>f U H _ q
theorem W9:∀U H Q,tE K (dL df) U H Q->tF K df U H Q:=fun U H Q xx=>by
 obtain⟨H0,O0,Z,O,d,R,ed,q⟩:=xx;obtain⟨ds,e1,e2⟩:=j0 ed;cases e2;exact⟨H0,O0,Z,O,ds,R,e1,fun l H' s hn r=>q _ _ s ((r.same (fun _ z=>z) (jJ fun a h=>wMa _ h)).rep fun u z=>by rw[jg (R.new hn)];exact z)⟩
@[simp] def u_(de:DE)(g:DG)(Z:jb):Option Rs:=(de Z).bind fun d=>(g d Z).bind fun Z'=>some (.nx Z')
theorem Cy(h:PS X st (JQ (tE K de) (tG K kk g))):PS X st (tS K Px (u_ de g)):=jy h fun D U H xx=>by
 obtain⟨H0,O0,Z,O,r,R,ed,f⟩:=xx;obtain⟨d,e1,ed⟩:=j0 ed;obtain⟨Z',e2,ed⟩:=j0 ed;cases ed;exact⟨H0,O0,Z,O,d,R,e1,fun v H' s q=>⟨H0,O0,Z,O,d,Z',R.grow s,q,e2,fun U' R' _=>f U' H' O R' (ja s)⟩⟩
@[simp] def Wa(i:Nat)(h:Int->Int->Int)(de:DE)(Z:jb):Option Rs:=(dC i Z).bind fun x=>(de Z).bind fun y=>match x,y with
 | .int p,.int q=>some (.nx (Z.set i (.cl (.int (h p q)))))
 | _,_=>none
theorem qO(h:PS X st (wz i (tR K de) (XO g))):PS X st (tS K Px (Wa i g de)):=jy h fun D U H xx=>by
 obtain⟨H0,O0,Z,O,r,R,ed,f⟩:=xx;obtain⟨x,e1,ed⟩:=j0 ed;obtain⟨y,e2,ed⟩:=j0 ed;split at ed
 ·cases ed;unfold dC at e1;split at e1
  ·cases e1;obtain⟨v,h1,h2⟩:=R.cl i _ (by assumption);rw[j5]at h2;subst h2;exact⟨_,h1,H0,O0,Z,O,_,R,e2,fun v H' s q=>⟨_,_,rfl,q.int,f _ H' O ((R.grow s).set (by rw[j5]) i) (ja s)⟩⟩
  ·cases e1
 ·cases ed
@[simp] def ue(de:DE)(Z:jb):Option Rs:=(de Z).bind fun _=>some (.nx Z)
theorem Kw(h:PS X st (zq (tR K de))):PS X st (tS K Px (ue de)):=jy h fun D U H xx=>by
 obtain⟨H0,O0,Z,O,r,R,ed,f⟩:=xx;obtain⟨d,e1,e2⟩:=j0 ed;cases e2;exact⟨H0,O0,Z,O,d,R,e1,fun v H' s q=>f _ H' O (R.grow s) (ja s)⟩
@[simp] def Zs(i:Nat)(de:DE)(Z:jb):Option Rs:=match Z[i]? with
 | some (.ow q (.lst ds))=>(de Z).bind fun d=>if ds.length < sizeLine then some (.nx (Z.set i (.ow q (.lst (ds++[d])))))else none
 | _=>none
set_option tactic.hygienic true in
theorem Wb(h:PS X st (zq (gD K "list" Zq (Jr i) (Y8 (tE K de) zr)))):PS X st (tS K Px (Zs i de)):=jy h fun D U H xx=>by
 obtain⟨H0,O0,Z,O,r,R,ed,f⟩:=xx;unfold Zs at ed;split at ed
 ·rename_i q ds hi;obtain⟨d,e1,e2⟩:=j0 ed;split at e2
  ·rename_i hz;cases e2;obtain⟨l,hq,hs,⟨vs,hl,rp⟩,lo,h0⟩:=R.ow i _ _ hi;refine⟨_,hs,.inl ⟨rfl,_,jr.of hl⟩,H0,O0,Z,O,d,R,e1,fun v H' s rv=>?_⟩;have R':=R.grow s;have rp':=rp.same (ja s);refine⟨l,vs,v,rfl,rfl,s _ _ hl,by rw[rp.len];exact hz,f _ _ O (R'.change hi hq hs lo h0 ⟨_,jc,rp'.snoc rv⟩) ?_⟩;rw[Jt lo];exact ja s
  ·cases e2
 ·cases ed
@[simp] def k6(i:Nat)(dx de:DE)(Z:jb):Option Rs:=match Z[i]? with
 | some (.ow q (.lst ds))=>(de Z).bind fun d=>(dx Z).bind fun j=>match j with
  | .int j=>(VB ds.length j).bind fun n=>some (.nx (Z.set i (.ow q (.lst (ds.set n d)))))
  | _=>none
 | _=>none
set_option tactic.hygienic true in
theorem Ad(h:PS X st (JQ (tE K de) (Gu (Jr i) (tR K dx) qh))):PS X st (tS K Px (k6 i dx de)):=jy h fun D U H xx=>by
 obtain⟨H0,O0,Z,O,r,R,ed,f⟩:=xx;unfold k6 at ed;split at ed
 ·rename_i q ds hi;obtain⟨d,e1,ed⟩:=j0 ed;obtain⟨j,e2,ed⟩:=j0 ed;split at ed
  ·obtain⟨n,e3,ed⟩:=j0 ed;cases ed;obtain⟨l,hq,hs,⟨vs,hl,rp⟩,lo,h0⟩:=R.ow i _ _ hi;refine⟨H0,O0,Z,O,d,R,e1,fun v H1 s1 rv=>⟨_,hs,H0,O0,Z,O,_,R.grow s1,e2,fun w H2 s2 rw'=>?_⟩⟩;have s12:=s1.trans s2;have R':=R.grow s12;have rp':=rp.same (ja s12);refine⟨l,vs,_,n,rfl,rw'.int,s12 _ _ hl,by rw[rp.len];exact e3,f _ _ O (R'.change hi hq hs lo h0 ⟨_,jc,rp'.set (rv.same (ja s2)) n⟩) ?_⟩;rw[Jt lo];exact ja s12
  ·cases ed
 ·cases ed
@[simp] def Je(de:DE)(Z:jb):Option Rs:=(de Z).bind fun d=>some (.rt d)
theorem qP(h:PE X e (tE K de)):PS X (.Return (some e) pos) (tS K Px (Je de)):=jy (zT h) fun D U H xx=>by
 obtain⟨H0,O0,Z,O,r,R,ed,f⟩:=xx;obtain⟨d,e1,e2⟩:=j0 ed;cases e2;exact⟨H0,O0,Z,O,d,R,e1,fun v H' s q=>f v H' (R.keep.trans s) (q.same (jJ R.sub))⟩
@[simp] noncomputable def k8(df:DO)(Z:jb):Option Rs:=(df Z).bind fun o=>some (.rf o)
theorem Ae(h:PE X e (tF K df)):PS X (.Return (some e) pos) (tS K Px (k8 df)):=jy (zT h) fun D U H xx=>by
 obtain⟨H0,O0,Z,O,r,R,ed,f⟩:=xx;obtain⟨d,e1,e2⟩:=j0 ed;cases e2;refine⟨H0,O0,Z,O,d,R,e1,fun l H' s hn q=>f l H' (R.keep.trans s) (R.keep.none hn) (q.same (fun _ z=>z) (jJ fun a h=>?_))⟩;rcases uTa h with rfl | h
 ·exact wNa
 ·exact wMa _ (R.sub a h)
@[simp] noncomputable def ka(i:Nat)(Z:jb):Option Rs:=match Z[i]? with
 | some (.ow _ o)=>some (.rf o)
 | _=>none
theorem Af(h:PE X (.Name x pos') (Jr i)):PS X (.Return (some (.Name x pos')) pos) (tS K Px (ka i)):=jy (zT h) fun D U H xx=>by
 obtain⟨H0,O0,Z,O,r,R,ed,f⟩:=xx;unfold ka at ed;split at ed
 ·cases ed;obtain⟨l,_,hs,ow,lo,h0⟩:=R.ow i _ _ (by assumption);refine⟨_,hs,f l H R.keep h0 (ow.same (fun _ z=>z) (jJ fun a h=>?_))⟩;rcases uTa h with rfl | h
  ·exact lo
  ·exact R.sub a h
 ·cases ed
theorem Ag:PS X (.Return none pos) (tS K Px (Je (dK .non))):=jy QD fun D U H xx=>by
 obtain⟨H0,O0,Z,O,r,R,ed,f⟩:=xx;cases ed;exact f .non H R.keep (by rw[j5])
noncomputable def YJ(g:DG)(s:DS):List D->DS
 | [],Z=>some (.nx Z)
 | d::ds,Z=>(g d Z).bind fun Z1=>(s Z1).bind fun r=>match r with
  | .nx Z2=>YJ g s ds Z2
  | .ct Z2=>YJ g s ds Z2
  | .bk Z2=>some (.nx Z2)
  | .rt d=>some (.rt d)
  | .rf o=>some (.rf o)
  | .xc p Z=>some (.xc p Z)
  | .rh d Z=>some (.rh d Z)
@[simp] def U4(di:DI)(g:DG)(s:DS)(Z:jb):Option Rs:=(di Z).bind fun items=>YJ g s items Z
theorem Cz(hp:PassesOwn (model X.prog X.w) X.A X.env X.xe)(hc:X.calm=true)(hi:PI X tg iter (yl K di))(hg:PG X tg (tG K kk g))(hb:jG X body (tS K Px s1))(hs:∀x,foldedSetIterable iter X.env x=pure x:=by intro _;rfl):PS X (.For tg iter body [] pos) (tS K Px (U4 di g s1)):=jy (XW hp hc hi hg hb hs) fun D U H xx=>by
 obtain⟨H0,O0,Z,O,r,R,ed,f⟩:=xx;obtain⟨items,e1,ed⟩:=j0 ed;refine⟨H0,O0,Z,O,items,R,e1,fun J H1 s1' hJ=>?_⟩;have R1:=R.grow s1';have f1:=f.mono (ja s1');refine⟨fun i m U' H'=>∃Z' O',Rel K H0 O0 Z' U' H' O'/\YJ g s1 (items.drop i) Z'=some r/\j3 (j4 H1 O) (j4 H' O')/\m=items.length - i/\i<=items.length,⟨items.length,Z,O,R1,by simpa using ed,j3.refl _,rfl,Nat.zero_le _⟩,?_⟩;rintro i m U' H' ⟨Z',O',R',d1,sd,rfl,hi'⟩;obtain⟨hgo,hstop⟩:=hJ i H' O' R'.keep R'.in0 sd R'.al;by_cases hlt:i < items.length
 ·right;have hx:items[i]?=some items[i]:=by simp[hlt]
  have hd:items.drop i=items[i]::items.drop (i+1):=(List.getElem_cons_drop hlt).symm;rw[hd]at d1;obtain⟨g1,g2⟩:=hgo _ hx;refine⟨g1,fun U2 H2=>∃Z2 O2,Rel K H0 O0 Z2 U2 H2 O2/\YJ g s1 (items.drop (i+1)) Z2=some r/\j3 (j4 H1 O) (j4 H2 O2),?_,fun x H'' y=>?_⟩
  ·rintro U2 H2 ⟨Z2,O2,a1,a2,a3⟩;exact⟨items.length - (i+1),by lia,Z2,O2,a1,a2,a3,rfl,hlt⟩
  ·obtain⟨sy,rx⟩:=g2 x H'' y;obtain⟨Z1,f3,f4⟩:=j0 d1;obtain⟨r1,f5,f6⟩:=j0 f4;refine⟨H0,O0,Z',O',_,Z1,R'.grow sy,rx,f3,fun U2 R3 _=>⟨H0,O0,Z1,O',r1,R3,f5,?_⟩⟩;have t1:=sd.trans (ja sy);cases r1 with
   | nx Z2=>exact fun U3 H3 O3 R4 t=>⟨Z2,O3,R4,f6,t1.trans t⟩
   | ct Z2=>exact fun U3 H3 O3 R4 t=>⟨Z2,O3,R4,f6,t1.trans t⟩
   | bk Z2=>cases f6;exact fun U3 H3 O3 R4 t=>f1 U3 H3 O3 R4 (t1.trans t)
   | rt d=>cases f6;exact f1
   | rf o=>cases f6;exact f1
   | xc p Z=>cases f6;exact f1
   | rh d Z=>cases f6;exact f1
 ·left;have ei:i=items.length:=by lia
  refine⟨hstop ei,?_⟩;have e0:items.drop i=[]:=List.drop_of_length_le (by lia);rw[e0]at d1;have d1:some (Rs.nx Z')=some r:=d1;cases d1;exact f1 U' H' O' R' sd
noncomputable def ZG(dt:DT)(s:DS):Nat->DS
 | 0,_=>none
 | n+1,Z=>(dt Z).bind fun k=>if k=true then(s Z).bind fun r=>match r with
  | .nx Z2=>ZG dt s n Z2
  | .ct Z2=>ZG dt s n Z2
  | .bk Z2=>some (.nx Z2)
  | .rt d=>some (.rt d)
  | .rf o=>some (.rf o)
  | .xc p Z=>some (.xc p Z)
  | .rh d Z=>some (.rh d Z)else some (.nx Z)
theorem xg(n:Nat)(hp:PassesOwn (model X.prog X.w) X.A X.env X.xe)(hc:PT X c (tT K dt))(hb:jG X body (tS K Px s1)):PS X (.While c body [] pos) (tS K Px (ZG dt s1 n)):=jy (wA hp hc hb) fun D U H xx=>by
 obtain⟨H0,O0,Z,O,r,R,ed,f⟩:=xx;refine⟨fun m U' H'=>∃Z' O',Rel K H0 O0 Z' U' H' O'/\ZG dt s1 m Z'=some r/\j3 (j4 H O) (j4 H' O'),⟨n,Z,O,R,ed,j3.refl _⟩,?_⟩;rintro m U' H' ⟨Z',O',R',d1,sd⟩;cases m with
 | zero=>cases d1
 | succ m=>
  obtain⟨k,e1,e2⟩:=j0 d1;refine⟨H0,O0,Z',O',k,R',e1,fun H2 s2=>?_⟩;have t1:=sd.trans (ja s2);cases k with
  | true=>
   rw[if_pos rfl]at e2;obtain⟨r1,f5,f6⟩:=j0 e2;refine yC ⟨fun U3 H3=>∃Z3 O3,Rel K H0 O0 Z3 U3 H3 O3/\ZG dt s1 m Z3=some r/\j3 (j4 H O) (j4 H3 O3),?_,H0,O0,Z',O',r1,R'.grow s2,f5,?_⟩
   ·rintro U3 H3 ⟨Z3,O3,a1,a2,a3⟩;exact⟨m,Nat.lt_succ_self m,Z3,O3,a1,a2,a3⟩
   ·cases r1 with
    | nx Z2=>exact fun U3 H3 O3 R4 t=>⟨Z2,O3,R4,f6,t1.trans t⟩
    | ct Z2=>exact fun U3 H3 O3 R4 t=>⟨Z2,O3,R4,f6,t1.trans t⟩
    | bk Z2=>cases f6;exact fun U3 H3 O3 R4 t=>f U3 H3 O3 R4 (t1.trans t)
    | rt d=>cases f6;exact f
    | rf o=>cases f6;exact f
    | xc p Z=>cases f6;exact f
    | rh d Z=>cases f6;exact f
  | false=>
   rw[if_neg Bool.false_ne_true]at e2;cases e2;exact yB (f U' H2 O' (R'.grow s2) t1)
theorem xh{iter elt:Expr}{ifs:List Expr}{scope:Scope}{di:DI}{g:DG}{dc:DT}{de:DE}(own:List Str)(caps:List (Str×Nat)){i:Nat}{x:Str}{pos' spos:Pos}(hN:X.N.Nodup)(hix:X.N[i]?=some x)(hx:ZC X.env.scope x)(S:CScope X scope)(hcap:Caps X scope caps)(hc:X.calm=true)(hi:PI X tg iter (yl K di))
  (hg:∀s3 H3 ex',PG (X.comp (cN own caps) scope s3 H3 ex') tg (tG K own.length g)) (ht:∀s3 H3 ex',yZ (X.comp (cN own caps) scope s3 H3 ex') ifs (tT K dc)) (he:∀s3 H3 ex',PE (X.comp (cN own caps) scope s3 H3 ex') elt (tE K de)) (hnd:(caps.map (·.2)).Nodup:=by decide)
  (hs:∀x,foldedSetIterable iter X.env x=pure x:=by intro _;rfl)
  (hsw:swapsWith (.ListComp elt [⟨tg,iter,ifs,0⟩] scope pos) (some (.Name x pos')) spos.line X.env=pure true:=by rfl) (hf:X.fn x=true \/ X.env.scope.names.lookup x=some .local:=by first | exact .inl rfl | exact .inr rfl | assumption):
  PS X (.Assign [.Name x pos'] (.ListComp elt [⟨tg,iter,ifs,0⟩] scope pos) spos) (tS K Px (ZX i (zN own.length (caps.map (·.2)) di g dc de))):=
 qN (ZY (uK own caps hN hix hx S hcap hc hi hg ht he hs hsw hf) (uX hnd))
theorem xi{iter elt:Expr}{ifs:List Expr}{scope:Scope}{di:DI}{g:DG}{dc:DT}{de:DE}(own:List Str)(caps:List (Str×Nat)){i:Nat}{x:Str}{pos' spos:Pos}(hN:X.N.Nodup)(hix:X.N[i]?=some x)(hx:ZC X.env.scope x)(S:CScope X scope)(hcap:Caps X scope caps)(hc:X.calm=true)(hi:PI X tg iter (yl K di))
  (hg:∀s3 H3 ex',PG (X.comp (cN own caps) scope s3 H3 ex') tg (tG K own.length g)) (ht:∀s3 H3 ex',yZ (X.comp (cN own caps) scope s3 H3 ex') ifs (tT K dc)) (he:∀s3 H3 ex',PE (X.comp (cN own caps) scope s3 H3 ex') elt (tE K de)) (hnd:(caps.map (·.2)).Nodup:=by decide)
  (hs:∀x,foldedSetIterable iter X.env x=pure x:=by intro _;rfl)
  (hsw:swapsWith (.ListComp elt [⟨tg,iter,ifs,0⟩] scope pos) (some (.Name x pos')) spos.line X.env=pure true:=by rfl) (hf:X.fn x=true \/ X.env.scope.names.lookup x=some .local:=by first | exact .inl rfl | exact .inr rfl | assumption):
  PS X (.Assign [.Name x pos'] (.ListComp elt [⟨tg,iter,ifs,0⟩] scope pos) spos) (tS K Px (yd i (dL (zN own.length (caps.map (·.2)) di g dc de)))):=
 qM (ZY (ZY (uK own caps hN hix hx S hcap hc hi hg ht he hs hsw hf) (uX hnd)) W9)
end
theorem vJ(v:Value)(n:Nat):List.foldl (fun x1 x2=>x1++x2) #[] (List.replicate n #[v])=(List.replicate n v).toArray:=by
 have f:∀(n:Nat) (a:Array Value),List.foldl (fun x1 x2=>x1++x2) a (List.replicate n #[v])=a++(List.replicate n v).toArray:=fun n=>by
  induction n with
  | zero=>intro a;simp
  | succ n ih=>intro a;rw[List.replicate_succ,List.foldl_cons,ih];apply Array.ext';simp[List.replicate_succ]
 rw[f];simp
theorem u8(l:Addr)(v:Value)(n:Nat)(dd:Option Addr)(sl:Array (Option Value))(x:Int)(u:Tok)(h1:1 < x)(h2:x<=1000):
  Meets (Builtin.«tuple.__mul__» ⟨[.ref l,.int x u],[]⟩) (fun _ R s=>s.heap.get? l=some { cls:=.type "tuple",dict:=dd,data:=.seq #[v] n,slots:=sl }/\R (.ok (.ret (Value.ref s.heap.objs.size))) { s with heap:=s.heap.push { cls:=Value.type "tuple",data:=Data.seq (List.foldl (fun x1 x2=>x1++x2) #[] (List.replicate x.toNat #[v])) },toks:=s.toks }):=
 .of_wp fun prog w A R s h=>by
  obtain⟨hp,g,d,tk,os⟩:=s;obtain⟨hl,h⟩:=h
  wp_walk
  refine wpAny_ite_false (by simp;lia) ?_
  wp_walk
  refine wpAny_ite_false (by simp;lia) ?_
  wp_walk
  refine wpAny_ite_false (by simp;lia) ?_
  wp_walk
  rw[if_neg (by simp;lia)]
  wp_walk
  refine wpAny_ite_false (by simp[Builtin.Tuple.tupleTooMany,sizeLine];lia) ?_
  wp_walk
  have hz:(List.foldl (fun x1 x2=>x1++x2) #[] (List.replicate x.toNat #[v])).size<=sizeLine:=by
   rw[vJ];simp[sizeLine];lia
  first | exact⟨_,rfl,h⟩ | (refine wpAny_ite_false (vBa (Nat.not_lt.mpr hz)) ?_;wp_walk;exact⟨_,rfl,h⟩)
theorem u9(l:Addr)(v:Value)(n:Nat)(dd:Option Addr)(sl:Array (Option Value))(u:Tok):
  Meets (Builtin.«tuple.__mul__» ⟨[.ref l,.int 1 u],[]⟩) (fun _ R s=>s.heap.get? l=some { cls:=.type "tuple",dict:=dd,data:=.seq #[v] n,slots:=sl }/\R (.ok (.ret (Value.ref l))) { s with heap:=s.heap,toks:=s.toks }):=
 .of_wp fun prog w A R s h=>by
  obtain⟨hp,g,d,tk,os⟩:=s;obtain⟨hl,h⟩:=h
  wp_walk
  first | exact⟨_,rfl,h⟩ | (refine wpAny_ite_false (by simp) ?_;wp_walk;refine wpAny_ite_true (by simp) ?_;wp_walk;exact⟨_,rfl,h⟩)
theorem V8(l:Addr)(v:Value)(n:Nat)(dd:Option Addr)(sl:Array (Option Value))(u:Tok):
  Meets (Builtin.«tuple.__mul__» ⟨[.ref l,.int 0 u],[]⟩) (fun _ R s=>s.heap.get? l=some { cls:=.type "tuple",dict:=dd,data:=.seq #[v] n,slots:=sl }/\R (.ok (.ret (Value.ref s.heap.objs.size))) { s with heap:=s.heap.push { cls:=Value.type "tuple",data:=Data.seq #[] },toks:=s.toks }):=
 .of_wp fun prog w A R s h=>by
  obtain⟨hp,g,d,tk,os⟩:=s;obtain⟨hl,h⟩:=h
  wp_walk
  first | exact⟨_,rfl,h⟩ | (refine wpAny_ite_false (by simp) ?_;wp_walk;refine wpAny_ite_false (by simp) ?_;wp_walk;refine wpAny_ite_true (by simp) ?_;wp_walk;exact⟨_,rfl,h⟩)
theorem ZZ:fillsNumberSlot (.type "tuple") "mul" = pure false:=
 PySem.fillsNumberSlot_seq (id := "tuple.__mul__") (r:=some (.builtin "tuple.__rmul__")) F.slot_tuple_mul.lookup (by decide +kernel) F.slot_tuple_rmul.lookup (by decide +kernel)
theorem U5:seqRepeat? (.type "tuple")=pure (some (.builtin "tuple.__mul__")):=by
 unfold seqRepeat?;rw[PySem.seqSlot_of (T := "tuple") (name := "__mul__") (id := "tuple.__mul__") F.slot_tuple_mul.lookup (by decide +kernel),PySem.seqSlot_of (T := "tuple") (name := "__rmul__") (id := "tuple.__rmul__") F.slot_tuple_rmul.lookup (by decide +kernel)];rfl
theorem V9(a:Int)(t:Tok)(l:Addr)(items:Array Value)(n:Nat)(dd:Option Addr)(sl:Array (Option Value)):
  Meets (Builtin.«int.__rmul__» ⟨[.int a t,.ref l],[]⟩) (fun _ R s=>s.heap.get? l=some { cls:=.type "tuple",dict:=dd,data:=.seq items n,slots:=sl }/\R (.ok (.ret Value.notImplemented)) s):=
 .of_wp fun prog w A R s h=>by obtain⟨hp,g,d,tk,os⟩:=s;obtain⟨hl,h⟩:=h;wp_walk;exact⟨_,rfl,h⟩
section
variable {X:Cx} {K:Fr}
def kb(K:Fr):R2:=fun x y H Q=>∃l k z,x=.ref l/\y=.int k/\J8 K H l [z]/\0<=k/\k<=1000/\(k=1->Q (.ref l) H)/\(k≠1->∀p,H p=none->Q (.ref p) (upd H p (.tup (List.replicate k.toNat z))))
theorem U8(r:je z v):∀n:Nat,jd (List.replicate n z) (List.replicate n v)
 | 0=>.nil
 | n+1=>by rw[List.replicate_succ,List.replicate_succ];exact .cons r (U8 r n)
theorem xj:jw X (binaryOp .Mult) (kb X.K):=by
 intro pins s U H x y v u Q I rx ry h;obtain⟨l,k,z,rfl,rfl,hq,h1,h2,q1,q2⟩:=h;cases rx;obtain⟨t,rfl⟩:=ry;obtain⟨its,r,⟨⟨cls,dd,data,sl⟩,ho,hc,n,hd⟩,hz⟩:=I.tuple hq;simp only at hc hd;subst hc hd;obtain⟨w,rfl,rw'⟩:∃w,its=[w]/\je z w:=by
  cases r with
  | cons a b=>cases b;exact⟨_,rfl,a⟩
 refine wpAny_binaryOp_repeat_ref (T := "tuple") (U := "int") (by decide) ⟨_,ho,rfl⟩ (fun s'=>typeIs_int s' k t) ZZ F.fills_int_mul F.slot_int_rmul U5 F.slot_int_index.lookup
  (call_meets F.slot_int_rmul (typeIs_int s k t) F.entry_int_rmul (F.args_int_rmul_2 _ _) (V9 k t l _ n dd sl) ⟨ho,rfl,⟨_,ho,rfl⟩,?_⟩)
 by_cases e1:k=1
 ·subst e1;exact call_meets F.slot_tuple_mul ⟨_,ho,rfl⟩ F.entry_tuple_mul (F.args_tuple_mul_2 _ _) (u9 l w n dd sl t) ⟨ho,.ref l,H,I,rfl,q1 rfl⟩
 ·by_cases e0:k=0
  ·subst e0;refine call_meets F.slot_tuple_mul ⟨_,ho,rfl⟩ F.entry_tuple_mul (F.args_tuple_mul_2 _ _) (V8 l w n dd sl t) ⟨ho,.ref s.heap.objs.size,_,I.laid (t':=s.toks) (o:=.tup (List.replicate (0:Int).toNat z)) (fun b ob q=>wIa _ q) (wPa _) ?_,rfl,q2 e1 _ (I.hok.fresh (wPa _))⟩;exact⟨Nat.zero_le _,[],.nil,IsTup.new _ _⟩
  ·refine call_meets F.slot_tuple_mul ⟨_,ho,rfl⟩ F.entry_tuple_mul (F.args_tuple_mul_2 _ _) (u8 l w n dd sl k t (by lia) h2) ⟨ho,?_⟩;rw[vJ];refine⟨.ref s.heap.objs.size,_,I.laid (t':=s.toks) (o:=.tup (List.replicate k.toNat z)) (fun b ob q=>wIa _ q) (wPa _) ?_,rfl,q2 e1 _ (I.hok.fresh (wPa _))⟩;exact⟨by rw[List.length_replicate];exact cL (by lia),_,U8 rw' _,IsTup.new _ _⟩
@[simp] def Z_:D->D->Option D
 | .int i,.int j=>qx (.int i) (.int j)
 | .tup [z],.int k=>if 0<=k/\k<=1000 then some (.tup (List.replicate k.toNat z))else none
 | _,_=>none
theorem U9{H:Hp}{d:D}{v:V}(h:j5 K H d v):∀n:Nat,j1 K H (List.replicate n d) (List.replicate n v)
 | 0=>j1.nil
 | n+1=>by rw[List.replicate_succ,List.replicate_succ];exact j1.cons h (U9 h n)
set_option tactic.hygienic true in
theorem Ah:jH K (fun x y H Q=>rI ZO (fun i j=>.int (i * j)) x y H Q \/ kb K x y H Q) Z_:=by
 intro O H a b d x y Q ha hb hn e q;unfold Z_ at e;split at e
 ·exact .inl (c_ O H _ _ d x y Q ha hb hn e q)
 ·split at e
  ·rename_i hk;cases e;right;obtain⟨p,xs,rfl,h1,h2⟩:=ha.tup;obtain⟨v,rfl,rv⟩:∃v,xs=[v]/\j5 K (j4 H O) _ v:=by
    rw[j1]at h2;obtain⟨v,r,rfl,a1,b1⟩:=h2;rw[j1]at b1;subst b1;exact⟨v,rfl,a1⟩
   refine⟨p,_,v,rfl,hb.int,h1,hk.1,hk.2,fun e1=>?_,fun _ p hp=>q _ _ (jp hp _) (Ju (hn p hp) hp (U9 rv _))⟩;refine q _ H (j3.refl H) ?_;subst e1;rcases ha with ha | ⟨_,o,_,z,_⟩ | ⟨_,_,_,_,z,_⟩
   ·exact ha
   ·cases o <;> cases z
   ·cases z
  ·cases e
 ·cases e
theorem xk:jw X (binaryOp .Mult) (fun x y H Q=>rI ZO (fun i j=>.int (i * j)) x y H Q \/ kb X.K x y H Q):=ad.or xj
theorem xl:jw X (binaryOp .Add) (fun x y H Q=>Y4 (fun i j=>.int (i+j)) x y H Q \/ (fun x y H Q=>GG X.K x y H Q \/ (fun x y H Q=>∃i j,x=.str i/\y=.str j/\i.length+j.length<=sizeLine/\Q (.str (i++j)) H) x y H Q) x y H Q):=XZ.or (QO.or Gz)
end
mutual
noncomputable def zO:D->D->Option Bool
 | .tup l,.tup m=>(Yo l m).bind fun b=>some (b&&l.length==m.length)
 | .lst l,.lst m=>if l.length=m.length then Yo l m else some false
 | .non,.non=>some true
 | .non,.tup _=>some false
 | .tup _,.non=>some false
 | .int a,.int b=>some (a==b)
 | .bl a,.bl b=>some (a==b)
 | .str a,.str b=>some (a==b)
 | _,_=>none
noncomputable def Yo:List D->List D->Option Bool
 | [],_=>some true
 | _::_,[]=>some true
 | a::l,b::m=>(zO a b).bind fun x=>(Yo l m).bind fun y=>some (x&&y)
end
mutual
@[simp] noncomputable def dep:D->Nat
 | .tup l=>zB l+1
 | .lst l=>zB l+1
 | _=>0
@[simp] noncomputable def zB:List D->Nat
 | []=>0
 | d::ds=>max (dep d) (zB ds)
end
theorem D.ind{P:D->Prop}(h:∀d,(∀l,d=.tup l->∀x∈l,P x)->(∀l,d=.lst l->∀x∈l,P x)->P d)(d:D):P d:=
 h d (fun l e x hx=>D.ind h x) (fun l e x hx=>D.ind h x)
termination_by sizeOf d
decreasing_by
 all_goals (subst e;have:=List.sizeOf_lt_of_mem hx;simp;lia)
theorem v3:∀{l:List D} {d:D},d∈l->dep d<=zB l
 | e::l,d,h=>by
  rw[zB];rcases uTa h with rfl | h
  ·exact Nat.le_max_left _ _
  ·exact wSa (v3 h) (Nat.le_max_right _ _)
section
variable {X:Cx} {K:Fr}
open PySem.SeqAt
theorem in1_units{A:Around}:A.in1.units=A.units+1:=rfl
variable {pins:List (Addr×Obj)} {U:L2.St} {H:Hp} {s:Shared}
theorem vK(ih:∀d∈l,∀{d':D} {x:V} {r:Bool},j5 K H d x->j5 K H d' x->zO d d'=some r->r=true):∀{m:List D} {xs:List V} {r:Bool},j1 K H l xs->j1 K H m xs->Yo l m=some r->r=true:=by
 induction l with
 | nil=>intro m xs r _ _ e;rw[Yo]at e;cases e;rfl
 | cons a l il=>
  intro m xs r h1 h2 e;cases m with
  | nil=>rw[Yo]at e;cases e;rfl
  | cons b m=>
   rw[Yo]at e;obtain⟨x,e1,e⟩:=j0 e;obtain⟨y,e2,e⟩:=j0 e;cases e;rw[j1]at h1 h2;obtain⟨v,t,rfl,a1,b1⟩:=h1;obtain⟨v',t',e',a2,b2⟩:=h2;cases e';rw[ih a List.mem_cons_self a1 a2 e1,il (fun d hd=>ih d (List.mem_cons_of_mem _ hd)) b1 b2 e2];rfl
theorem VL(I:Inv X pins U H s)(d:D):∀{d':D} {x:V} {r:Bool},j5 X.K H d x->j5 X.K H d' x->zO d d'=some r->r=true:=by
 induction d using D.ind with
 | h d i1 i2=>
  intro d' x r h1 h2 e;unfold zO at e;split at e
  ·obtain⟨b,e1,e2⟩:=j0 e;cases e2;rw[j5]at h1 h2;obtain⟨a,xs,rfl,qa,ra⟩:=h1;obtain⟨b',ys,e',qb,rb⟩:=h2;cases e';have exy:=I.tuple_inj qa qb;subst exy;rw[vK (fun d hd=>i1 _ rfl d hd) ra rb e1,<-ra.len,<-rb.len,beq_self_eq_true];rfl
  ·rw[j5]at h1 h2;obtain⟨a,xs,rfl,qa,ra⟩:=h1;obtain⟨b',ys,e',qb,rb⟩:=h2;cases e';rw[qa]at qb;cases qb;rw[if_pos (by rw[<-ra.len,<-rb.len])]at e;exact vK (fun d hd=>i2 _ rfl d hd) ra rb e
  ·cases e;rfl
  ·rw[j5]at h1;rw[j5]at h2;obtain⟨b',ys,e',qb,rb⟩:=h2;rw[h1]at e';cases e'
  ·rw[j5]at h1;rw[j5]at h2;obtain⟨b',ys,e',qb,rb⟩:=h1;rw[h2]at e';cases e'
  ·cases e;rw[j5]at h1 h2;rw[h1]at h2;cases h2;simp
  ·cases e;rw[j5]at h1 h2;rw[h1]at h2;cases h2;simp
  ·cases e;rw[j5]at h1 h2;rw[h1]at h2;cases h2;simp
  ·cases e
theorem uf{l:List D}(ih:∀d∈l,∀{d':D} {x y:V} {u v:Value} {A:Around} {r:Bool},zO d d'=some r->j5 K H d x->j5 K H d' y->je x u->je y v->A.units+dep d < cLine->EqAt A s u v r):∀{m:List D} {xs ys:List V} {us vs:List Value} {A:Around} {r:Bool},Yo l m=some r->j1 K H l xs->j1 K H m ys->jd xs us->jd ys vs->A.units+zB l < cLine->
  ∃e:Nat->Bool,(∀(j:Nat) (h1:j < us.length) (h2:j < vs.length),EqAt A s us[j] vs[j] (e j))/\(List.range (min l.length m.length)).all e=r:=by
 induction l with
 | nil=>
  intro m xs ys us vs A r e h1 h2 v1 v2 hu;rw[Yo]at e;cases e;rw[j1]at h1;subst h1;cases v1;exact⟨fun _=>true,fun j h1 _=>vDa h1 (by simp),by simp⟩
 | cons a l il=>
  intro m xs ys us vs A r e h1 h2 v1 v2 hu;cases m with
  | nil=>
   rw[Yo]at e;cases e;rw[j1]at h2;subst h2;cases v2;exact⟨fun _=>true,fun j _ h2=>vDa h2 (by simp),by simp⟩
  | cons b m=>
   rw[Yo]at e;obtain⟨x,e1,e⟩:=j0 e;obtain⟨y,e2,e⟩:=j0 e;cases e;rw[j1]at h1 h2;obtain⟨v,t,rfl,a1,b1⟩:=h1;obtain⟨v',t',rfl,a2,b2⟩:=h2;rw[zB]at hu;cases v1 with
   | cons r1 rr1=>
    cases v2 with
    | cons r2 rr2=>
     obtain⟨e',q1,q2⟩:=il (fun d hd=>ih d (wMa _ hd)) e2 b1 b2 rr1 rr2 (A:=A) (by lia);refine⟨fun j=>match j with | 0=>x | j+1=>e' j,fun j h1 h2=>?_,?_⟩
     ·cases j with
      | zero=>exact ih a wNa e1 a1 a2 r1 r2 (by lia)
      | succ j=>exact q1 j (by simpa using h1) (by simpa using h2)
     ·rw[vXa,vXa,Nat.succ_min_succ,List.range_succ_eq_map,List.all_cons,List.all_map];rw[<-q2];rfl
set_option tactic.hygienic true in
theorem Ai(I:Inv X pins U H s)(d:D):∀{d':D} {x y:V} {u v:Value} {A:Around} {r:Bool},zO d d'=some r->j5 X.K H d x->j5 X.K H d' y->je x u->je y v->A.units+dep d < cLine->EqAt A s u v r:=by
 induction d using D.ind with
 | h d i1 i2=>
  intro d' x y u v A r e hx hy rx ry hu;have e0:=e;unfold zO at e;split at e
  ·obtain⟨b,e1,e2⟩:=j0 e;cases e2;have hx0:=hx;have hy0:=hy;rw[j5]at hx hy;obtain⟨a,xs,rfl,qa,ra⟩:=hx;obtain⟨b',ys,rfl,qb,rb⟩:=hy;cases rx;cases ry;rw[dep]at hu;by_cases hab:a=b'
   ·subst hab;have:=VL I _ hx0 hy0 e0;rw[this];exact EqAt.same _
   ·obtain⟨ia,va,pa,_⟩:=I.tuple qa;obtain⟨ib,vb,pb,_⟩:=I.tuple qb;have la:=(List.size_toArray (as:=ia)).trans (va.length.symm.trans ra.len);have lb:=(List.size_toArray (as:=ib)).trans (vb.length.symm.trans rb.len);obtain⟨e',h1,h2⟩:=uf (fun d hd=>i1 _ rfl d hd) e1 ra rb va vb (A:=A.in1) (by rw[in1_units];lia);have key:=RcAt.tuples (A:=A) (s:=s) (l:=a) (b:=b') (items:=ia.toArray) (items2:=ib.toArray) (e:=e') pa pb (by lia) (fun j h1' h2'=>by simpa using h1 j (by simpa using h1') (by simpa using h2'));rw[la,lb,h2]at key;exact EqAt.of_refs hab key
  ·have hx0:=hx;have hy0:=hy;rw[j5]at hx hy;obtain⟨a,xs,rfl,qa,ra⟩:=hx;obtain⟨b',ys,rfl,qb,rb⟩:=hy;cases rx;cases ry;rw[dep]at hu;by_cases hab:a=b'
   ·subst hab;have:=VL I _ hx0 hy0 e0;rw[this];exact EqAt.same _
   ·obtain⟨ia,va,pa,_⟩:=I.list (jr.of qa);obtain⟨ib,vb,pb,_⟩:=I.list (jr.of qb);have la:=(List.size_toArray (as:=ia)).trans (va.length.symm.trans ra.len);have lb:=(List.size_toArray (as:=ib)).trans (vb.length.symm.trans rb.len);split at e
    ·rename_i ell;obtain⟨e',h1,h2⟩:=uf (fun d hd=>i2 _ rfl d hd) e ra rb va vb (A:=A.in1) (by rw[in1_units];lia);have key:=RcAt.lists (A:=A) (s:=s) (l:=a) (b:=b') (items:=ia.toArray) (items2:=ib.toArray) (e:=e') pa.isList pb.isList (by rw[la,lb,ell]) (by lia) (fun j h1' h2'=>by simpa using h1 j (by simpa using h1') (by simpa using h2'));rw[la]at key;rw[<-ell,Nat.min_self]at h2;rw[h2]at key;exact EqAt.of_refs hab key
    ·rename_i ell;cases e;exact EqAt.of_refs hab (RcAt.lists_lengths pa.isList pb.isList (by rw[la,lb];simpa using ell) (by lia))
  ·cases e;rw[j5]at hx hy;subst hx hy;cases rx;cases ry;exact EqAt.same _
  ·cases e;rw[j5]at hx;rw[j5]at hy;subst hx;cases rx;obtain⟨b',ys,rfl,qb,rb⟩:=hy;cases ry;obtain⟨ib,vb,pb,_⟩:=I.tuple qb;exact EqAt.none_tuple pb (by lia)
  ·cases e;rw[j5]at hx;rw[j5]at hy;subst hy;cases ry;obtain⟨b',ys,rfl,qb,rb⟩:=hx;cases rx;obtain⟨ib,vb,pb,_⟩:=I.tuple qb;exact EqAt.tuple_none pb (by lia)
  ·cases e;rw[j5]at hx hy;subst hx hy;obtain⟨t,rfl⟩:=rx;obtain⟨t',rfl⟩:=ry;exact EqAt.int_int _ _ _ _
  ·cases e;rw[j5]at hx hy;subst hx hy;cases rx;cases ry;exact EqAt.bool_bool _ _
  ·cases e;rw[j5]at hx hy;subst hx hy;obtain⟨t,rfl⟩:=rx;obtain⟨t',rfl⟩:=ry;exact EqAt.str_str _ _ _ _
  ·cases e
@[simp] noncomputable def Va:D->D->Bool
 | .lst _,.lst _=>true
 | .tup _,.tup _=>true
 | _,_=>false
def v4(K:Fr)(neg:Bool):R2:=fun x y H Q=>∃d d' r,j5 K H d x/\j5 K H d' y/\Va d d'=true/\zO d d'=some r/\dep d<=20/\Q (.bl (if neg then !r else r)) H
set_option tactic.hygienic true in
theorem Aj(I:Inv X pins U H s)(e:zO d d'=some r)(q:Va d d'=true)(hx:j5 X.K H d x)(hy:j5 X.K H d' y)(rx:je x u)(ry:je y v)(hu:A.units+dep d < cLine):RcAt A s u v r/\RcNeAt A s u v (!r):=by
 unfold Va at q;split at q
 ·rw[j5]at hx hy;obtain⟨a,xs,rfl,qa,ra⟩:=hx;obtain⟨b',ys,rfl,qb,rb⟩:=hy;cases rx;cases ry;rw[dep]at hu;rw[zO]at e;obtain⟨ia,va,pa,_⟩:=I.list (jr.of qa);obtain⟨ib,vb,pb,_⟩:=I.list (jr.of qb);have la:=(List.size_toArray (as:=ia)).trans (va.length.symm.trans ra.len);have lb:=(List.size_toArray (as:=ib)).trans (vb.length.symm.trans rb.len);split at e
  ·rename_i ell;obtain⟨e',h1,h2⟩:=uf (fun d _=>Ai I d) e ra rb va vb (A:=A.in1) (by rw[in1_units];lia);have key:=RcAt.lists (A:=A) (s:=s) (l:=a) (b:=b') (items:=ia.toArray) (items2:=ib.toArray) (e:=e') pa.isList pb.isList (by rw[la,lb,ell]) (by lia) (fun j h1' h2'=>by simpa using h1 j (by simpa using h1') (by simpa using h2'));have key2:=RcNeAt.lists (A:=A) (s:=s) (l:=a) (b:=b') (items:=ia.toArray) (items2:=ib.toArray) (e:=e') pa.isList pb.isList (by rw[la,lb,ell]) (by lia) (fun j h1' h2'=>by simpa using h1 j (by simpa using h1') (by simpa using h2'));rw[la]at key key2;rw[<-ell,Nat.min_self]at h2;rw[h2]at key key2;exact⟨key,key2⟩
  ·rename_i ell;cases e;exact⟨RcAt.lists_lengths pa.isList pb.isList (by rw[la,lb];simpa using ell) (by lia),RcNeAt.lists_lengths pa.isList pb.isList (by rw[la,lb];simpa using ell) (by lia)⟩
 ·rw[j5]at hx hy;obtain⟨a,xs,rfl,qa,ra⟩:=hx;obtain⟨b',ys,rfl,qb,rb⟩:=hy;cases rx;cases ry;rw[dep]at hu;rw[zO]at e;obtain⟨b,e1,e2⟩:=j0 e;cases e2;obtain⟨ia,va,pa,_⟩:=I.tuple qa;obtain⟨ib,vb,pb,_⟩:=I.tuple qb;have la:=(List.size_toArray (as:=ia)).trans (va.length.symm.trans ra.len);have lb:=(List.size_toArray (as:=ib)).trans (vb.length.symm.trans rb.len);obtain⟨e',h1,h2⟩:=uf (fun d _=>Ai I d) e1 ra rb va vb (A:=A.in1) (by rw[in1_units];lia);have key:=RcAt.tuples (A:=A) (s:=s) (l:=a) (b:=b') (items:=ia.toArray) (items2:=ib.toArray) (e:=e') pa pb (by lia) (fun j h1' h2'=>by simpa using h1 j (by simpa using h1') (by simpa using h2'));have key2:=RcNeAt.tuples (A:=A) (s:=s) (l:=a) (b:=b') (items:=ia.toArray) (items2:=ib.toArray) (e:=e') pa pb (by lia) (fun j h1' h2'=>by simpa using h1 j (by simpa using h1') (by simpa using h2'));rw[la,lb,h2]at key key2;exact⟨key,key2⟩
 ·cases q
theorem Ak(hr:Room k X.A):jw X (compareOp .Eq) (v4 X.K false):=by
 intro pins s U H x y v u Q I rx ry h;obtain⟨d,d',r,hx,hy,q,e,hd,qq⟩:=h;have hu:=hr.units;exact(Aj (A:=X.A) I e q hx hy rx ry (by lia)).1 X.prog X.w X.xe _ ⟨.bl r,H,I,rfl,qq⟩
theorem Am(hr:Room k X.A):jw X (compareOp .NotEq) (v4 X.K true):=by
 intro pins s U H x y v u Q I rx ry h;obtain⟨d,d',r,hx,hy,q,e,hd,qq⟩:=h;have hu:=hr.units;exact(Aj (A:=X.A) I e q hx hy rx ry (by lia)).2 X.prog X.w X.xe _ ⟨.bl (!r),H,I,rfl,qq⟩
@[simp] def kf(neg:Bool):D->D->Option D:=fun a b=>if Va a b=true/\dep a<=20 then(zO a b).bind fun r=>some (.bl (if neg then !r else r))else none
set_option tactic.hygienic true in
theorem qQ{neg:Bool}:jH K (v4 K neg) (kf neg):=by
 intro O H a b d x y Q ha hb hn e q;unfold kf at e;split at e
 ·rename_i hh;obtain⟨r,e1,e2⟩:=j0 e;cases e2;exact⟨a,b,r,ha.full,hb.full,hh.1,e1,hh.2,q _ H (j3.refl H) (by rw[j5])⟩
 ·cases e
@[simp] def Ua(a b:D):Option D:=if Va a b=true then kf false a b else uR a b
@[simp] def ZH(a b:D):Option D:=if Va a b=true then kf true a b else w_ a b
theorem Ex:jH K (fun x y H Q=>qc x y H Q \/ v4 K false x y H Q) Ua:=by
 intro O H a b d x y Q ha hb hn e q;unfold Ua at e;split at e
 ·exact .inr (qQ O H a b d x y Q ha hb hn e q)
 ·exact .inl (C5 O H a b d x y Q ha hb hn e q)
theorem Ey:jH K (fun x y H Q=>qd x y H Q \/ v4 K true x y H Q) ZH:=by
 intro O H a b d x y Q ha hb hn e q;unfold ZH at e;split at e
 ·exact .inr (qQ O H a b d x y Q ha hb hn e q)
 ·exact .inl (C6 O H a b d x y Q ha hb hn e q)
theorem An(hr:Room k X.A):jw X (compareOp .Eq) (fun x y H Q=>qc x y H Q \/ v4 X.K false x y H Q):=cq.or (Ak hr)
theorem Ao(hr:Room k X.A):jw X (compareOp .NotEq) (fun x y H Q=>qd x y H Q \/ v4 X.K true x y H Q):=cr.or (Am hr)
@[simp] noncomputable def qR:D->Option V
 | .non=>some .non
 | .bl b=>some (.bl b)
 | .int i=>some (.int i)
 | .str s=>some (.str s)
 | _=>none
@[simp] def kg:List D->Option (List V)
 | []=>some []
 | d::ds=>(qR d).bind fun v=>(kg ds).bind fun vs=>some (v::vs)
theorem Kx(e:qR d=some v)(h:j5 K H d w):w=v/\yK v=true:=by
 unfold qR at e;split at e <;> first | (cases e;rw[j5]at h;exact⟨h,rfl⟩) | cases e
theorem Vb:∀{l:List D} {vs xs:List V},kg l=some vs->j1 K H l xs->xs=vs/\vs.all yK=true
 | [],vs,xs,e,h=>by cases e;rw[j1]at h;exact⟨h,rfl⟩
 | d::l,vs,xs,e,h=>by
  rw[kg]at e;obtain⟨v,e1,e⟩:=j0 e;obtain⟨r,e2,e⟩:=j0 e;cases e;rw[j1]at h;obtain⟨w,t,rfl,a,b⟩:=h;obtain⟨h1,h2⟩:=Kx e1 a;obtain⟨h3,h4⟩:=Vb e2 b;exact⟨by rw[h1,h3],by rw[List.all_cons,h2,h4];rfl⟩
@[simp] def qS(neg:Bool):D->D->Option D:=fun a b=>(qR a).bind fun v=>(ym b).bind fun l=>(kg l).bind fun vs=>some (.bl (if neg then !qi v vs else qi v vs))
theorem Ap:jH K (aB K neg) (qS neg):=by
 intro O H a b d x y Q ha hb hn e q;unfold qS at e;obtain⟨v,e1,e⟩:=j0 e;obtain⟨l,e2,e⟩:=j0 e;obtain⟨vs,e3,e⟩:=j0 e;cases e;obtain⟨h1,h2⟩:=Kx e1 ha.full;subst h1;unfold ym at e2;split at e2
 ·cases e2;obtain⟨p,xs,rfl,g1,g2⟩:=hb.lst;obtain⟨h3,h4⟩:=Vb e3 g2;subst h3;exact⟨p,xs,rfl,.inl (jr.of g1),h2,h4,q _ H (j3.refl H) (by rw[j5])⟩
 ·cases e2;obtain⟨p,xs,rfl,g1,g2⟩:=hb.tup;obtain⟨h3,h4⟩:=Vb e3 g2;subst h3;exact⟨p,xs,rfl,.inr g1,h2,h4,q _ H (j3.refl H) (by rw[j5])⟩
 ·cases e2
@[simp] noncomputable def qT:D->Option Kd
 | .int _=>some .i
 | .bl _=>some .b
 | .str _=>some .s
 | .lst _=>some .l
 | .tup _=>some .t
 | _=>none
theorem qU(e:qT d=some k)(h:RB K O H d v):wW K H v k:=by
 unfold qT at e;split at e
 ·cases e;rw[h.int];trivial
 ·cases e;rw[h.bl];trivial
 ·cases e;rw[h.str];trivial
 ·cases e;obtain⟨p,xs,rfl,g1,g2⟩:=h.lst;exact⟨xs,jr.of g1⟩
 ·cases e;obtain⟨p,xs,rfl,g1,g2⟩:=h.tup;exact⟨xs,g1⟩
 ·cases e
@[simp] def Y0(T:String):D->Option D:=fun d=>(qT d).bind fun k=>(VF k T).bind fun b=>some (.bl b)
theorem CA(h:PE X (.Call (.Name "isinstance" p) [e,e2] [] pos) (Kb (aH X.K) (Y8 (tR K de) (Y8 (tC (.ty T)) zr))))(hK:X.K=K:=by rfl):PE X (.Call (.Name "isinstance" p) [e,e2] [] pos) (tE K (d1 (Y0 T) de)):=jj h fun U H Q ⟨H0,O0,Z,O,d,R,ed,q⟩=>by
 subst hK;obtain⟨x,e1,e2⟩:=j0 ed;obtain⟨k,e3,e2⟩:=j0 e2;obtain⟨b,e4,e2⟩:=j0 e2;cases e2;exact⟨H0,O0,Z,O,x,R,e1,fun v H' s r=>⟨v,T,k,b,rfl,qU e3 r,e4,q _ H' s (by rw[j5])⟩⟩
end
@[simp] noncomputable def YK(f:Str)(d:D):List Str->List D->List Str×List D
 | g::ns,x::xs=>if g=f then(g::ns,d::xs)else((g::(YK f d ns xs).1),x::(YK f d ns xs).2)
 | _,_=>([f],[d])
section
variable {X:Cx} {K:Fr}
theorem Ub{H:Hp}{f:Str}{d:D}{v:V}(r:j5 K H d v):∀{ns:List Str} {ds:List D} {vs:List V},ns.length=vs.length->j1 K H ds vs->∃vs',jX f v (ns.zip vs)=(YK f d ns ds).1.zip vs'/\(YK f d ns ds).1.length=vs'.length/\j1 K H (YK f d ns ds).2 vs'
 | [],ds,vs,h,rp=>by
  have e:vs=[]:=List.length_eq_zero_iff.mp h.symm;subst e;have e:ds=[]:=by have:=rp.len;exact List.length_eq_zero_iff.mp this.symm
  subst e;exact⟨[v],rfl,rfl,j1.cons r j1.nil⟩
 | g::ns,[],vs,h,rp=>by rw[j1]at rp;subst rp;cases h
 | g::ns,x::ds,vs,h,rp=>by
  rw[j1]at rp;obtain⟨w,t,rfl,a,b⟩:=rp;rw[YK];by_cases e:g=f
  ·rw[if_pos e];refine⟨v::t,?_,by simpa using h,j1.cons r b⟩;show(if g=f then(g,v)::ns.zip t else _)=_;rw[if_pos e];rfl
  ·rw[if_neg e];obtain⟨vs',q1,q2,q3⟩:=Ub (f:=f) r (ns:=ns) (ds:=ds) (vs:=t) (by simpa using h) b;refine⟨w::vs',?_,by simpa using q2,j1.cons a q3⟩;show(if g=f then _ else(g,w)::jX f v (ns.zip t))=_;rw[if_neg e,q1];rfl
variable {e o:Expr} {de:DE} {pos pos':Pos} {st:Stmt}
@[simp] def YL(i:Nat)(C:Addr)(f:Str)(de:DE)(Z:jb):Option Rs:=match Z[i]? with
 | some (.ow q (.ins C' ns ds))=>if C'=C/\ns.length < 1000 then(de Z).bind fun d=>some (.nx (Z.set i (.ow q (.ins C' (YK f d ns ds).1 (YK f d ns ds).2))))else none
 | _=>none
set_option tactic.hygienic true in
theorem Aq{i:Nat}{C:Addr}{f:Str}(h:PS X st (GC X.K (Jr i) (tE K de) f))(c:Cls K C)(n:Jb K C f)(hK:X.K=K:=by rfl):PS X st (tS K Px (YL i C f de)):=jy h fun D U H xx=>by
 obtain⟨H0,O0,Z,O,r,R,ed,fi⟩:=xx;subst hK;unfold YL at ed;split at ed
 ·rename_i q C' ns ds hi;split at ed
  ·rename_i hh;obtain⟨rfl,hlen⟩:=hh;obtain⟨d,e1,e2⟩:=j0 ed;cases e2;obtain⟨l,hq,hs,⟨dx,vs,hl,hn,rp⟩,lo,h0⟩:=R.ow i _ _ hi;refine⟨H0,O0,Z,O,d,R,e1,fun v H1 s1 rv=>⟨_,hs,l,_,dx,_,rfl,s1 _ _ hl,c,n,?_,?_⟩⟩
   ·rw[List.length_zip,<-hn,Nat.min_self];exact hlen
   have R':=R.grow s1;obtain⟨vs',p1,p2,p3⟩:=Ub (f:=f) rv hn (rp.same (ja s1));refine fi _ _ O (R'.change hi hq hs lo h0 ⟨dx,vs',by rw[jc,p1],p2,p3⟩) ?_;rw[Jt lo];exact ja s1
  ·cases ed
 ·cases ed
@[simp] noncomputable def yq(ks:List Bool)(ds:List D)(n:Nat):jb:=List.zipWith (fun k d=>if k=true then Sl.cl d else Sl.bo d) ks ds++List.replicate n .un
theorem Jh.get{O:List Addr}{H:Hp}:∀{ks:List Bool} {ds:List D} {vs:List V} {i:Nat} {d:D},Jh K O H ks ds vs->ds[i]?=some d->∃k v,ks[i]?=some k/\vs[i]?=some v/\AK K O H k d v
 | [],[],[],_,_,_,e=>by simp at e
 | k::_,d::_,v::_,0,_,h,e=>by simp at e;subst e;exact⟨k,v,rfl,rfl,h.1⟩
 | k::_,d::_,v::_,i+1,d',h,e=>by
  obtain⟨k',v',h1,h2,h3⟩:=Jh.get (i:=i) h.2 (by simpa using e);exact⟨k',v',by simpa using h1,by simpa using h2,h3⟩
 | [],[],_::_,_,_,h,_=>h.elim
 | [],_::_,_,_,_,h,_=>h.elim
 | _::_,[],_,_,_,h,_=>h.elim
 | _::_,_::_,[],_,_,h,_=>h.elim
theorem Jv{O:List Addr}{H:Hp}{ks:List Bool}{ds:List D}{vs:List V}{n i:Nat}{s:Sl}(h:Jh K O H ks ds vs)(hs:s≠.un)(e:(yq ks ds n)[i]?=some s):∃k d v,vs[i]?=some v/\AK K O H k d v/\s=(if k=true then Sl.cl d else Sl.bo d):=by
 unfold yq at e;have hl:=h.len;by_cases hi:i < ds.length
 ·rw[uRa (by rw[List.length_zipWith];lia),List.getElem?_zipWith]at e;have hd:ds[i]?=some ds[i]:=by simp[hi]
  obtain⟨k,v,h1,h2,h3⟩:=h.get hd;rw[h1,hd]at e;cases e;exact⟨k,_,v,h2,h3,rfl⟩
 ·rw[List.getElem?_append_right (by rw[List.length_zipWith];lia),List.getElem?_replicate]at e;split at e
  ·cases e;exact vDa rfl hs
  ·cases e
theorem Uc{O:List Addr}{H:Hp}{ks:List Bool}{ds:List D}{vs:List V}{n:Nat}(h:Jh K O H ks ds vs)(al:∀a∈O,H a≠none):Rel K H ⟨O,0⟩ (yq ks ds n) (vs.map some++List.replicate n none) H O:=by
 have hl:=h.len;have at':∀{i:Nat} {v:V},vs[i]?=some v->(vs.map some++List.replicate n none)[i]?=some (some v):=fun {i v} e=>by
  have:=(uSa e).1;rw[uRa (by rw[vYa];exact this),uAa,e];rfl
 refine⟨?_,fun a h=>h,fun a h=>.inl h,al,al,j3.refl _,?_,?_,?_,?_,?_⟩
 ·unfold yq;rw[vZa,vZa,vYa,List.length_replicate,List.length_replicate,List.length_zipWith]
  lia
 ·intro i d e;obtain⟨k,d',v,h1,h2,h3⟩:=Jv h (by intro z;cases z) e;cases k with
  | true=>cases h3;exact⟨v,at' h1,h2⟩
  | false=>cases h3
 ·intro i d e;obtain⟨k,d',v,h1,h2,h3⟩:=Jv h (by intro z;cases z) e;cases k with
  | true=>cases h3
  | false=>cases h3;exact⟨v,at' h1,h2⟩
 ·intro i q o e;obtain⟨k,d',v,h1,h2,h3⟩:=Jv h (by intro z;cases z) e;cases k <;> cases h3
 ·intro i j q q' o o' l e;obtain⟨k,d',v,h1,h2,h3⟩:=Jv h (by intro z;cases z) e;cases k <;> cases h3
 ·intro i qb hb e;obtain⟨k,d',v,h1,h2,h3⟩:=Jv h (by intro z;cases z) e;cases k <;> cases h3
@[simp] def Y6(ks:List Bool)(n:Nat)(body:DS):List D->Option D:=fun ds=>(body (yq ks ds n)).bind fun r=>match r with
 | .rt d=>some d
 | .rf o=>some o.toD
 | .nx _=>some .non
 | _=>none
@[simp] def qV(ks:List Bool)(n:Nat)(body:DS):List D->Option OD:=fun ds=>(body (yq ks ds n)).bind fun r=>match r with
 | .rf o=>some o
 | _=>none
@[simp] def Ky(C:Addr)(ks:List Bool)(n:Nat)(body:DS):Addr->List D->Option OD:=fun p ds=>(body (.ow (some p) (.ins C [] [])::yq ks ds n)).bind fun r=>match r with
 | .nx Z=>(match (Z[0]?:Option Sl)with
  | some (Sl.ow q o)=>if q=some p then some o else none
  | _=>none)
 | _=>none
variable {P:Program} {w:World} {mg:Str->Option Value} {base:Heap} {x qual:Str} {f:Addr} {fd:FuncData} {N ps:List Str} {k n:Nat} {ks:List Bool} {body:DS}
theorem Ez(F:Fun K x qual st f fd)(S:FnScope N ps (defScope st))(hk:ks.length=ps.length)(hn:N.length - ps.length=n)
  (hb:∀(cdv:Value) (A:Around) (outer:List Env) (s:Shared) (H:Hp) (E:XK),Room k (A.deeper (envOfC qual (defScope st) s.heap.objs.size f cdv))->jG (jS Jx P w K mg base N qual (defScope st) f cdv A outer s H E).nox (defBody st) (tS K Px body)):
  FnOk P w K mg base Jx (k+1) f fd ps (Y5 K ks (Y6 ks n body)):=by
 refine F.ok S (fun vs H Q E h=>?_) fun cdv A outer s H vs Q E hr h=>?_
 ·obtain⟨O,ds,d,_,ak,_⟩:=h;have:=ak.len
  lia
 ·obtain⟨O,ds,d,al,ak,e,q⟩:=h;refine⟨_,hb cdv A outer s H E hr,?_⟩;obtain⟨r,e1,e2⟩:=j0 e;have hl:N.length - vs.length=n:=by have:=ak.len;lia
  unfold L2.JY;rw[hl];refine⟨H,⟨O,0⟩,_,O,r,Uc ak al,e1,?_⟩;cases r with
  | rt d'=>cases e2;exact fun v H' s r=>q v H' s r
  | rf o=>
   cases e2;exact fun l H' s hl ow=>q _ H' s ((ow.same (fun _ z=>z) (jJ fun a h=>wMa _ h)).rep fun u z=>by rw[jg (fun y=>al l y hl)];exact z)
  | nx Z=>cases e2;exact fun U' H' O' R' _=>q _ H' R'.keep (by rw[j5])
  | bk Z=>cases e2
  | ct Z=>cases e2
  | xc p Z=>cases e2
  | rh d Z=>cases e2
theorem EA(F:Fun K x qual st f fd)(S:FnScope N ps (defScope st))(hk:ks.length=ps.length)(hn:N.length - ps.length=n)
  (hb:∀(cdv:Value) (A:Around) (outer:List Env) (s:Shared) (H:Hp) (E:XK),Room k (A.deeper (envOfC qual (defScope st) s.heap.objs.size f cdv))->jG (jS Jx P w K mg base N qual (defScope st) f cdv A outer s H E).nox (defBody st) (tS K Px body)):
  FnOk P w K mg base Jx (k+1) f fd ps (gJ K ks (qV ks n body)):=by
 refine F.ok S (fun vs H Q E h=>?_) fun cdv A outer s H vs Q E hr h=>?_
 ·obtain⟨O,ds,d,_,ak,_⟩:=h;have:=ak.len
  lia
 ·obtain⟨O,ds,d,al,ak,e,q⟩:=h;refine⟨_,hb cdv A outer s H E hr,?_⟩;obtain⟨r,e1,e2⟩:=j0 e;have hl:N.length - vs.length=n:=by have:=ak.len;lia
  unfold L2.JY;rw[hl];refine⟨H,⟨O,0⟩,_,O,r,Uc ak al,e1,?_⟩;cases r with
  | rt d'=>cases e2
  | rf o=>cases e2;exact q
  | nx Z=>cases e2
  | bk Z=>cases e2
  | ct Z=>cases e2
  | xc p Z=>cases e2
  | rh d Z=>cases e2
set_option tactic.hygienic true in
theorem EB{C:Addr}(F:Fun K x qual st f fd)(S:FnScope N ps (defScope st))(hk:ks.length+1=ps.length)(hn:N.length - ps.length=n)
  (hb:∀(cdv:Value) (A:Around) (outer:List Env) (s:Shared) (H:Hp) (E:XK),Room k (A.deeper (envOfC qual (defScope st) s.heap.objs.size f cdv))->jG (jS Jx P w K mg base N qual (defScope st) f cdv A outer s H E).nox (defBody st) (tS K Px body)):
  FnOk P w K mg base Jx (k+1) f fd ps (qL K C ks (Ky C ks n body)):=by
 refine F.ok S (fun vs H Q E h=>?_) fun cdv A outer s H vs Q E hr h=>?_
 ·obtain⟨O,ds,p,dx,vs',o,rfl,_,_,_,ak,_⟩:=h;have:=ak.len;rw[vXa]
  lia
 ·obtain⟨O,ds,p,dx,vs',o,rfl,al,hp,hpO,ak,e,q⟩:=h;refine⟨_,hb cdv A outer s H E hr,?_⟩;obtain⟨r,e1,e2⟩:=j0 e;have hl:N.length - (V.ref p::vs').length=n:=by have:=ak.len;rw[vXa];lia
  unfold L2.JY;rw[hl];have al':∀a∈O,j4 H [p] a≠none:=fun a ha=>by
   rw[jg (by intro z;simp at z;exact hpO (z▸ha))];exact al a ha
  have R0:=Uc (n:=n) ak al';have np:j4 H [p] p=none:=zi wNa;have sH:j3 (j4 H [p]) H:=J0;have sd:j3 (j4 (j4 H [p]) O) (j4 H (p::O)):=fun b u z=>by
   obtain⟨z1,z2⟩:=jt z;obtain⟨z3,z4⟩:=jt z2;rw[jg (by intro y;rcases List.mem_cons.mp y with y | y;exact z3 (by rw[y];exact List.mem_cons_self);exact z1 y)];exact z4
  have R:Rel K (j4 H [p]) ⟨O,0⟩ (.ow (some p) (.ins C [] [])::yq ks ds n) (List.map some (V.ref p::vs')++List.replicate n none) H (p::O):=by
   refine⟨?_,fun a h=>wMa _ h,?_,al',?_,sH,?_,?_,?_,?_,?_⟩
   ·have:=R0.len;rw[vXa,vWa,List.cons_append,vXa,this]
   ·intro a ha;rcases uTa ha with rfl | ha
    ·exact .inr np
    ·exact .inl ha
   ·intro a ha;rcases uTa ha with rfl | ha
    ·rw[hp];exact fun z=>nomatch z
    ·exact al a ha
   ·intro i d e;cases i with
    | zero=>cases e
    | succ i=>
     obtain⟨v,h1,h2⟩:=R0.cl i d e;exact⟨v,h1,h2.same sd⟩
   ·intro i d e;cases i with
    | zero=>cases e
    | succ i=>exact R0.bo i d e
   ·intro i q' o' e;cases i with
    | zero=>
     cases e;exact⟨p,(fun p' z=>vFa z),rfl,⟨dx,[],hp,rfl,j1.nil⟩,wNa,np⟩
    | succ i=>
     obtain⟨k',d',v,_,_,h3⟩:=Jv ak (by intro z;cases z) e;cases k' <;> cases h3
   ·intro i j q1 q2 o1 o2 l e e';have z:∀(i:Nat) (q':Option Addr) (o':OD),(Sl.ow (some p) (.ins C [] [])::yq ks ds n)[i]?=some (.ow q' o')->i=0:=fun i q' o' e=>by
     cases i with
     | zero=>rfl
     | succ i=>
      obtain⟨k',d',v,_,_,h3⟩:=Jv ak (by intro z;cases z) e;cases k' <;> cases h3
    intro _ _;rw[z i _ _ e,z j _ _ e']
   ·intro i qb hb e;cases i with
    | zero=>cases e
    | succ i=>
     obtain⟨k',d',v,_,_,h3⟩:=Jv ak (by intro z;cases z) e;cases k' <;> cases h3
  refine⟨j4 H [p],⟨O,0⟩,_,p::O,r,R,e1,?_⟩;cases r with
  | nx Z=>
   intro U' H' O' R' _;have e2:(match (Z[0]?:Option Sl)with
    | some (Sl.ow q o)=>if q=some p then some o else none
    | _=>none)=some o:=e2
   split at e2
   ·rename_i qq o' h0;split at e2
    ·rename_i hq;cases e2;subst hq;obtain⟨l,hl2,_,ow,lo,_⟩:=R'.ow 0 _ _ h0;have el:=hl2 p rfl;subst el;refine q H' R'.keep (ow.same (fun _ z=>z) (jJ fun a ha=>?_));rcases uTa ha with rfl | ha
     ·exact lo
     ·exact R'.sub a ha
    ·cases e2
   ·cases e2
  | rt d'=>cases e2
  | rf o=>cases e2
  | bk Z=>cases e2
  | ct Z=>cases e2
  | xc p Z=>cases e2
  | rh d Z=>cases e2
end
end DS
namespace L2
open PySem PySem.Spec PyProof.Rows
def Jq(h:Heap)(d:Addr)(es:Array DictEntry)(ep:Nat):Prop:=∃o,h.get? d=some o/\o.ExactDict/\o.data=.dict es ep
theorem Jq.ty{s:Shared}(m:Jq s.heap d es ep):s.TypeIs (.ref d) "dict" := let ⟨o,g,c,_⟩:=m;⟨o,g,c.1⟩
theorem Jq.at(m:Jq h d es ep)(e:∀o,h.get? d=some o->h'.get? d=some o):Jq h' d es ep:=let ⟨o,g,c⟩:=m;⟨o,e _ g,c⟩
section
theorem Ud(hd:(d==sysModules)=false)(m:Jq s.heap d es ep)
  (q:Q (.ref s.heap.objs.size) { s with heap:=s.heap.push { cls:=.type "dict_keyiterator",data:=.fields #[.ref d,.int 0 0,.int es.size 0,.int ep 0] } }):wpAny (model prog w) A (pyIter (.ref d)) Q E s:=by
 have ty:=m.ty;obtain⟨o,g,c,dt⟩:=m;refine wpAny_pyIter_slot ty F.slot_dict_iter (wpAny_call_entry F.slot_dict_iter ty F.entry_dict_iter (wAa (wAa (wpAny_notOrdered_dict ty ?_))) (F.args_dict_iter_1 _));refine(show wpAny _ _ (pure (Value.ref d)) _ _ s from wBa (show wpAny _ _ (Builtin.Dict.showsAll d >>= _) _ _ s from ?_));unfold Builtin.Dict.showsAll;rw[if_neg (by rw[hd];decide)];refine wAa (wBa (wAa (wpAny_dictEntries g dt (wAa (wpAny_dictEpoch g dt (wAa (vTa (wBa ⟨_,rfl, "dict_keyiterator",_,⟨_,wJa _ rfl,rfl⟩,F.slot_dict_keyiterator_next.lookup,?_⟩))))))));simpa[rawInt]using q
theorem Ue(k:s.heap.IsKeyIter it d i es.size ep)(m:Jq s.heap d es ep)(x:es[i]?=some e)
  (q:∀h',h'.IsKeyIter it d (i+1) es.size ep->Heap.SameBut it s.heap h'->Q (some e.key) { s with heap:=h' }):wpAny (model prog w) A (pyNext (.ref it)) Q E s:=by
 have ty:=k.typeIs;obtain⟨o,g,c,dt⟩:=k;obtain⟨od,gd,_,dd⟩:=m;have own:Builtin.Dict_items.ownsTuple "dict_keyiterator" = false:=by decide
 unfold pyNext;refine wAa (wpAny_attempt (wpAny_callSpecial?_slot (name:=Str.ofString "__next__") ty F.slot_dict_keyiterator_next (wpAny_call_entry F.slot_dict_keyiterator_next ty F.entry_dict_keyiterator_next (wAa (wBa (wAa (wAa ?_)))) (F.args_dict_keyiterator_next_1 _))));refine wAa (wpAny_typeNameOfWhole_keyiter ty (wBa (wAa (wpAny_fieldsOf g dt ?_))));simp only[own,Bool.false_eq_true,if_false];refine(show wpAny _ _ (if (Value.ref d==Value.none)=true then _ else _) _ _ s from ?_);rw[if_neg (fun z:(Value.ref d==Value.none)=true=>by cases z)];refine wAa (wBa (wAa (wpAny_dictEntries gd dd ?_)));rw[if_neg (by simp)];refine wAa (wBa (wAa (wpAny_dictEpoch gd dd ?_)));rw[if_neg (by simp)];refine wBa ?_;simp only[show¬((i:Int) < 0) by lia,if_false,Int.toNat_natCast,x];refine wAa (wAa (wpAny_typeNameOfWhole_keyiter ty (wBa (wAa (wpAny_isOneOf_keyiter ty ?_)))));refine(show wpAny _ _ (setField (.ref it) 1 (rawInt ((i:Int)+1)) >>= _) _ _ s from wAa (wpAny_setField g dt (by simp) ?_));have k':(s.heap.update it (Obj.mapFields (·.setIfInBounds 1 (rawInt ((i:Int)+1))))).IsKeyIter it d (i+1) es.size ep:=
  ⟨_,vUa _ g (Obj.isFreed_of_fields (Obj.data_mapFields dt _)),(Obj.cls_mapFields ..).trans c,by rw[Obj.data_mapFields dt];simp[rawInt]⟩
 refine wAa (wDa (wAa (wpAny_isOneOf_keyiter (s:={ s with heap:=s.heap.update it (Obj.mapFields (·.setIfInBounds 1 (rawInt ((i:Int)+1)))) }) k'.typeIs ?_)));exact(show wpAny _ _ (pure e.key) _ _ _ from wBa (wBa ⟨_,rfl,wBa (q _ k' (Heap.SameBut.update ..))⟩))
theorem gK(hh:A.handled=none)(k:s.heap.IsKeyIter it d i es.size ep)(m:Jq s.heap d es ep)(x:es.size<=i)
  (q:∀h',Heap.ExtBut it s.heap h'->Q none { s with heap:=h' }):wpAny (model prog w) A (pyNext (.ref it)) Q E s:=by
 have ty:=k.typeIs;obtain⟨o,g,c,dt⟩:=k;obtain⟨od,gd,_,dd⟩:=m;have own:Builtin.Dict_items.ownsTuple "dict_keyiterator" = false:=by decide
 unfold pyNext;refine wAa (wpAny_attempt (wpAny_callSpecial?_slot (name:=Str.ofString "__next__") ty F.slot_dict_keyiterator_next (wpAny_call_entry F.slot_dict_keyiterator_next ty F.entry_dict_keyiterator_next (wAa (wBa (wAa (wAa ?_)))) (F.args_dict_keyiterator_next_1 _))));refine wAa (wpAny_typeNameOfWhole_keyiter ty (wBa (wAa (wpAny_fieldsOf g dt ?_))));simp only[own,Bool.false_eq_true,if_false];refine(show wpAny _ _ (if (Value.ref d==Value.none)=true then _ else _) _ _ s from ?_);rw[if_neg (fun z:(Value.ref d==Value.none)=true=>by cases z)];refine wAa (wBa (wAa (wpAny_dictEntries gd dd ?_)));rw[if_neg (by simp)];refine wAa (wBa (wAa (wpAny_dictEpoch gd dd ?_)));rw[if_neg (by simp)];refine wBa ?_;simp only[show¬((i:Int) < 0) by lia,if_false,Int.toNat_natCast,Array.getElem?_eq_none x];refine wAa (wAa (wpAny_typeNameOfWhole_keyiter ty (wBa ?_)));refine(show wpAny _ _ (setField (.ref it) 0 .none >>= _) _ _ s from wAa (wpAny_setField g dt (by simp) (show wpAny _ _ (newExc (.type "StopIteration") [] >>= _) _ _ _ from wAa ?_)));simp only[newExc,newTuple];refine wAa (vTa (wAa (m:=firstArgMember _ _) (wpAny_of_eq (a:=Value.none) (by first | rfl | (simp only[firstArgMember];rfl)) (vTa ?_ (by size_fits)))) (by size_fits));simp only[raiseNew];refine wAa (wpAny_handled ?_);rw[show A.in1.handled=none from hh];refine wAa (wBa (wpAny_throw (wAa ?_)));exact wpAny_isInstance (T := "StopIteration") (b:=true) ⟨_,wJa _ rfl,rfl⟩ isSubtype_stop (wBa (q _ (((Heap.SameBut.update ..).extBut.push _).push _)))
theorem VM(hd:(d==sysModules)=false)(m:Jq s.heap d es ep)(q:Q (.ref s.heap.objs.size) { s with heap:=s.heap.push { cls:=.type "dict_items",data:=.fields #[.ref d] } }):
  wpAny (model prog w) A (call (.builtin "dict.items") [.ref d]) Q E s:=by
 have ty:=m.ty;refine wpAny_call_entry F.slot_dict_items ty F.entry_dict_items (wAa (wAa (wpAny_notOrdered_dict ty ?_))) (F.args_dict_items_1 _);refine(show wpAny _ _ (pure d) _ _ s from wBa (show wpAny _ _ (Builtin.Dict.showsAll d >>= _) _ _ s from ?_));unfold Builtin.Dict.showsAll;rw[if_neg (by rw[hd];decide)];exact wAa (wBa (wAa (vTa (wBa ⟨_,rfl,q⟩))))
theorem VN(hv:s.heap.IsItemsView v d)(m:Jq s.heap d es ep)
  (q:Q (.ref s.heap.objs.size) { s with heap:=s.heap.push { cls:=.type "dict_itemiterator",data:=.fields #[.none,.bool false,.ref d,.int 0 0,.int es.size 0,.int ep 0,.none,.none] } }):wpAny (model prog w) A (pyIter (.ref v)) Q E s:=by
 have ty:=hv.typeIs;obtain⟨ov,gv,cv,dv⟩:=hv;obtain⟨o,g,c,dt⟩:=m;have own:Builtin.Dict_items.ownsTuple "dict_itemiterator" = true:=by decide
 refine wpAny_pyIter_slot ty F.slot_dict_items_iter (wpAny_call_entry F.slot_dict_items_iter ty F.entry_dict_items_iter (wAa (wBa (wAa ?_))) (F.args_dict_items_iter_1 _));refine wAa (wpAny_field gv dv (x:=.ref d) rfl (wBa (wAa (wAa (wpAny_dictEntries g dt (wAa (wpAny_dictEpoch g dt ?_)))))));simp only[own,if_true];refine vTa (wBa ⟨_,rfl, "dict_itemiterator",_,⟨_,wJa _ rfl,rfl⟩,F.slot_dict_itemiterator_next.lookup,?_⟩) ?_
 ·simpa[rawInt,Builtin.Dict_items.ownedTupleFields]using q
 ·simp only[sizeOk,Builtin.Dict_items.ownedTupleFields,List.size_toArray,List.length_append,List.length_cons,List.length_nil,sizeLine_eq]
  lia
theorem VO(k:IsItemIter s.heap it d i es.size ep ok ov)(m:Jq s.heap d es ep)(x:es[i]?=some e)
  (q:∀h',IsItemIterOut h' it d (i+1) es.size ep e.key e.val s.heap.objs.size->h'.get? s.heap.objs.size=some { cls:=.type "tuple",data:=.seq #[e.key,e.val] }->h'.objs.size=s.heap.objs.size+1->
   (∀b o,b≠it->s.heap.get? b=some o->h'.get? b=some o)->Q (some (.ref s.heap.objs.size)) { s with heap:=h' }):wpAny (model prog w) A (pyNext (.ref it)) Q E s:=by
 obtain⟨hp,gg,dr,tk,os⟩:=s;have ty:Shared.TypeIs ⟨hp,gg,dr,tk,os⟩ (.ref it) "dict_itemiterator" := ⟨_,k,rfl⟩
 obtain⟨od,gd,_,dd⟩:=m;have own:Builtin.Dict_items.ownsTuple "dict_itemiterator" = true:=by decide
 unfold pyNext;refine wAa (wpAny_attempt (wpAny_callSpecial?_slot (name:=Str.ofString "__next__") ty F.slot_dict_itemiterator_next (wpAny_call_entry F.slot_dict_itemiterator_next ty F.entry_dict_itemiterator_next (wAa (wBa (wAa (wAa ?_)))) (F.args_dict_itemiterator_next_1 _))));refine wAa (wpAny_typeNameOfWhole_itemiter ty (wBa (wAa (wpAny_fieldsOf k rfl ?_))));simp only[own,if_true];refine(show wpAny _ _ (if (Value.ref d==Value.none)=true then _ else _) _ _ ⟨hp,gg,dr,tk,os⟩ from ?_);rw[if_neg (fun z:(Value.ref d==Value.none)=true=>by cases z)];refine wAa (wBa (wAa (wpAny_dictEntries gd dd ?_)));rw[if_neg (by simp)];refine wAa (wBa (wAa (wpAny_dictEpoch gd dd ?_)));rw[if_neg (by simp)];refine wBa ?_;simp only[show¬((i:Int) < 0) by lia,if_false,Int.toNat_natCast,x];refine wAa (wAa (wpAny_typeNameOfWhole_itemiter ty (wBa (wAa (wpAny_isOneOf_itemiter ty ?_)))));refine(show wpAny _ _ (setField (.ref it) 3 (rawInt ((i:Int)+1)) >>= _) _ _ ⟨hp,gg,dr,tk,os⟩ from wAa (wpAny_setField_rec k (by simp) fun h1 e1 s1=>?_))
 replace s1:Heap.SameBut it hp h1:=s1
 have e1:IsItemIter h1 it d (i+1) es.size ep ok ov:=by
  have z:((i+1:Nat):Int)=(i:Int)+1:=by lia
  unfold IsItemIter;rw[z];simpa[rawInt]using e1
 have ty1:Shared.TypeIs ⟨h1,gg,dr,tk,os⟩ (.ref it) "dict_itemiterator" := ⟨_,e1,rfl⟩
 refine wAa (wDa (wAa (wpAny_isOneOf_itemiter ty1 (wAa (wpAny_isOneOf_itemiter ty1 ?_)))));refine(show wpAny _ _ (Builtin.Dict_items.pairFromOwner (.ref it) 6 e.key e.val) _ _ ⟨h1,gg,dr,tk,os⟩ from ?_);unfold Builtin.Dict_items.pairFromOwner;refine wAa (wpAny_newTuple ?_);have e2:IsItemIter (h1.push { cls:=.type "tuple",data:=.seq #[e.key,e.val] }) it d (i+1) es.size ep ok ov:=wIa _ e1;generalize hh2:h1.push { cls:=.type "tuple",data:=.seq #[e.key,e.val] }=h2 at e2;have z1:h1.objs.size=hp.objs.size:=s1.1;have lt:it < hp.objs.size:=wLa k;have t2:h2.get? hp.objs.size=some { cls:=.type "tuple",data:=.seq #[e.key,e.val] }:=by rw[<-hh2,<-z1];exact wJa _ rfl
 have z2:h2.objs.size=hp.objs.size+1:=by rw[<-hh2,uPa,z1]
 have k2:∀b o,b≠it->hp.get? b=some o->h2.get? b=some o:=fun b o hb e=>by rw[<-hh2];exact wIa _ (s1.extBut b o hb e)
 refine(show wpAny _ _ (Builtin.Dict_items.ownedTupleIsFree (.ref it) >>= _) _ _ ⟨h2,gg,dr,tk,os⟩ from ?_);rw[z1];clear hh2 s1 ty1 z1;refine wAa (wAa (wpAny_field e2 rfl (x:=.none) rfl (wBa ?_)));simp only[if_true];refine wAa (wpAny_field e2 rfl (x:=ok) rfl (wAa (wpAny_field e2 rfl (x:=ov) rfl (wAa (wpAny_setField_rec e2 (by simp) fun h3 e3 s3=>?_)))))
 replace s3:Heap.SameBut it h2 h3:=s3
 replace e3:IsItemIter h3 it d (i+1) es.size ep e.key ov:=e3
 refine wAa (wpAny_setField_rec e3 (by simp) fun h4 e4 s4=>?_)
 replace s4:Heap.SameBut it h3 h4:=s4
 replace e4:IsItemIter h4 it d (i+1) es.size ep e.key e.val:=e4
 refine wAa (wpAny_setField_rec e4 (by simp) fun h5 e5 s5=>?_)
 replace s5:Heap.SameBut it h4 h5:=s5
 replace e5:IsItemIterOut h5 it d (i+1) es.size ep e.key e.val hp.objs.size:=e5
 refine wAa (wpAny_setField_rec e5 (by simp) fun h6 e6 s6=>?_)
 replace s6:Heap.SameBut it h5 h6:=s6
 replace e6:IsItemIterOut h6 it d (i+1) es.size ep e.key e.val hp.objs.size:=e6
 have kk:∀b o,b≠it->h2.get? b=some o->h6.get? b=some o:=fun b o hb z=>s6.extBut b o hb (s5.extBut b o hb (s4.extBut b o hb (s3.extBut b o hb z)));refine wAa (wpAny_letGo (wBa (wBa ⟨_,rfl,wBa (q h6 e6 (kk _ _ (Nat.ne_of_gt lt) t2) ?_ fun b o hb z=>kk b o hb (k2 b o hb z))⟩)));exact(show h6.objs.size=hp.objs.size+1 by rw[s6.1,s5.1,s4.1,s3.1,z2])
theorem Uf(hh:A.handled=none)(k:IsItemIter s.heap it d i es.size ep ok ov)(m:Jq s.heap d es ep)(x:es.size<=i)
  (q:∀h',Heap.ExtBut it s.heap h'->Q none { s with heap:=h' }):wpAny (model prog w) A (pyNext (.ref it)) Q E s:=by
 have ty:s.TypeIs (.ref it) "dict_itemiterator" := ⟨_,k,rfl⟩
 obtain⟨od,gd,_,dd⟩:=m;have own:Builtin.Dict_items.ownsTuple "dict_itemiterator" = true:=by decide
 unfold pyNext;refine wAa (wpAny_attempt (wpAny_callSpecial?_slot (name:=Str.ofString "__next__") ty F.slot_dict_itemiterator_next (wpAny_call_entry F.slot_dict_itemiterator_next ty F.entry_dict_itemiterator_next (wAa (wBa (wAa (wAa ?_)))) (F.args_dict_itemiterator_next_1 _))));refine wAa (wpAny_typeNameOfWhole_itemiter ty (wBa (wAa (wpAny_fieldsOf k rfl ?_))));simp only[own,if_true];refine(show wpAny _ _ (if (Value.ref d==Value.none)=true then _ else _) _ _ s from ?_);rw[if_neg (fun z:(Value.ref d==Value.none)=true=>by cases z)];refine wAa (wBa (wAa (wpAny_dictEntries gd dd ?_)));rw[if_neg (by simp)];refine wAa (wBa (wAa (wpAny_dictEpoch gd dd ?_)));rw[if_neg (by simp)];refine wBa ?_;simp only[show¬((i:Int) < 0) by lia,if_false,Int.toNat_natCast,Array.getElem?_eq_none x];refine wAa (wAa (wpAny_typeNameOfWhole_itemiter ty (wBa ?_)));refine(show wpAny _ _ (setField (.ref it) 2 .none >>= _) _ _ s from wAa (wpAny_setField k rfl (by simp) (show wpAny _ _ (newExc (.type "StopIteration") [] >>= _) _ _ _ from wAa ?_)));simp only[newExc,newTuple];refine wAa (vTa (wAa (m:=firstArgMember _ _) (wpAny_of_eq (a:=Value.none) (by first | rfl | (simp only[firstArgMember];rfl)) (vTa ?_ (by size_fits)))) (by size_fits));simp only[raiseNew];refine wAa (wpAny_handled ?_);rw[show A.in1.handled=none from hh];refine wAa (wBa (wpAny_throw (wAa ?_)));exact wpAny_isInstance (T := "StopIteration") (b:=true) ⟨_,wJa _ rfl,rfl⟩ isSubtype_stop (wBa (q _ (((Heap.SameBut.update ..).extBut.push _).push _)))
end
section
theorem Wc(m:Jq s.heap d es ep)(q:Q false s):wpAny (model prog w) A (Builtin.List.listLengthHint (.ref d)) Q E s:=by
 have ty:=m.ty;unfold Builtin.List.listLengthHint;refine wAa (wpAny_specialOf ty F.slot_dict_len.lookup ?_);generalize nm:("dict.__len__" : String)=id0
 wp_delta
 rw[show splitId id0=some ("dict", "__len__") from by subst nm;decide +kernel];subst nm;refine wAa (wpAny_isInstance (T := "dict") (b:=true) ty (by rw[isSubtype_type];kernel_rfl) (wpAny_ite_split (fun z=>vDa z (by decide)) fun _=>?_));exact wpAny_ite_split (fun _=>wAa (wpAny_typeOf ty (wBa q))) fun z=>vDa (by decide +kernel) z
theorem Kz(hh:A.handled=none)(I:Addr)(hne:d≠I):
  Walks prog w A I [I,d] [I] es.size (fun i v=>∃e,es[i]?=some e/\v=e.key) (fun i h=>h.IsKeyIter I d i es.size ep/\Jq h d es ep) where
 sub:=fun b hb=>by simp at hb;simp[hb]
 frame:=fun _ _ _ st hk=>⟨st.1.at fun o e=>hk I (by simp) o e,st.2.at fun o e=>hk d (by simp) o e⟩
 item:=fun i s Q E hi st hQ=>by
  have x:es[i]?=some es[i]:=by simp[hi]
  exact Ue st.1 st.2 x fun h' k' sb=>hQ _ h' s.toks ⟨_,x,rfl⟩ ⟨k',st.2.at fun o e=>sb.extBut _ o hne e⟩ fun b o hb e=>sb.extBut b o (fun z=>hb (by simp[z])) e
 done:=fun s Q E st hQ=>gK hh st.1 st.2 (wPa _) fun h' eb=>hQ h' s.toks fun b o hb e=>eb b o (fun z=>hb (by simp[z])) e
 self:=fun _ _ _ _ st hQ=>wpAny_pyIter_keyiter st.1 hQ
theorem Wd(hh:A.handled=none)(hd:(d==sysModules)=false)(m:Jq s.heap d es ep)(hz:es.size<=2 ^ 24)
  (q:∀h' tk acc c,(∀b o,s.heap.get? b=some o->h'.get? b=some o)->h'.get? s.heap.objs.size=some { cls:=.type "list",data:=.seq acc c }->acc.toList=es.toList.map (·.key)->Q (.ref s.heap.objs.size) { s with heap:=h',toks:=tk }):
  wpAny (model prog w) A (call (.type "list") [.ref d]) Q E s:=by
 have dlt:d < s.heap.objs.size:=by obtain⟨o,g,_⟩:=m;exact wLa g
 refine callType_codes (Q₁:=fun obj s₁=>obj=.ref s.heap.objs.size/\s₁={ s with heap:=s.heap.push { cls:=.type "list",data:=.seq #[] } }) F.called_list (F.typeCall_list_1 _) F.entry_list_init (code_list_new _ ⟨rfl,rfl⟩) ?_;rintro obj s₁ ⟨rfl,rfl⟩;obtain⟨S,hS⟩:∃S,s.heap.objs.size=S:=⟨_,rfl⟩
 rw[hS]at q dlt⊢;have g0:(s.heap.push { cls:=.type "list",data:=.seq #[] }).get? S=some { cls:=.type "list",data:=.seq #[] }:=by rw[<-hS];exact wJa _ rfl
 have m0:Jq (s.heap.push { cls:=.type "list",data:=.seq #[] }) d es ep:=m.at fun o e=>wIa _ e;have sz0:(s.heap.push { cls:=.type "list",data:=.seq #[] }).objs.size=S+1:=by rw[uPa,hS]
 have k0:∀b o,s.heap.get? b=some o->(s.heap.push { cls:=.type "list",data:=.seq #[] }).get? b=some o/\b≠S:=fun b o e=>⟨wIa _ e,wTa (by rw[<-hS];exact wLa e)⟩
 generalize s.heap.push { cls:=.type "list",data:=.seq #[] }=h0 at g0 m0 sz0 k0;refine⟨⟨_,g0,rfl⟩,F.args_list_init_2 _ _,?_⟩;have hSd:S≠d:=Ne.symm (wTa dlt);refine(show wpAny _ _ (do let old<-Builtin.List.listItems (.ref S);Builtin.List.listUpdate (.ref S) (fun _=>#[]);letGo old.toList.reverse;Builtin.List.listExtendWith (.ref S) (.ref d) .none) _ _ { s with heap:=h0 } from wAa (wAa (wpAny_seqItems g0 rfl (wBa ?_))));refine(show wpAny _ _ (updateSeq S (fun _=>#[]) >>= fun _=>letGo (#[]:Array Value).toList.reverse >>= fun _=>Builtin.List.listExtendWith (.ref S) (.ref d) .none) _ _ { s with heap:=h0 } from wAa (wpAny_updateSeq g0 rfl (wAa (wpAny_letGo ?_))));have oth:∀(h:Heap) (f:Obj->Obj) b o,b≠S->h.get? b=some o->(h.update S f).get? b=some o:=fun h f b o hb e=>(wKa _ _ (Ne.symm hb)).trans e;have g1:=vUa (Obj.mapSeq (fun _=>(#[]:Array Value))) g0 rfl;have m1:Jq (h0.update S (Obj.mapSeq (fun _=>(#[]:Array Value)))) d es ep:=m0.at fun o e=>oth _ _ _ o (Ne.symm hSd) e;have sz1:(h0.update S (Obj.mapSeq (fun _=>(#[]:Array Value)))).objs.size=S+1:=by rw[Heap.size_update,sz0]
 have k1:∀b o,s.heap.get? b=some o->(h0.update S (Obj.mapSeq (fun _=>(#[]:Array Value)))).get? b=some o/\b≠S:=fun b o e=>⟨oth _ _ b o (k0 b o e).2 (k0 b o e).1,(k0 b o e).2⟩
 generalize h0.update S (Obj.mapSeq (fun _=>(#[]:Array Value)))=h1 at g1 m1 sz1 k1;have W:=(Kz (prog:=prog) (w:=w) (A:=A.in1.in1) (es:=es) (ep:=ep) hh (S+1) (d:=d) (wTa (Nat.lt_succ_of_lt dlt))).toS;have fin:∀(h:Heap) (c tk:Nat),h.IsKeyIter (S+1) d 0 es.size ep->Jq h d es ep->(∀b o,s.heap.get? b=some o->h.get? b=some o)->h.get? S=some { cls:=.type "list",data:=.seq #[] c }->
   codeAny (model prog w) A.in1 (.builtin "list.extend.loop" ⟨[.ref S,.ref (S+1),.none],[]⟩) (wants (fun r s₂=>r=Value.none/\Q (.ref S) s₂) E) { s with heap:=h,toks:=tk }:=by
  intro h c tk k mm kk gS;refine codeAny_extend_loopS W (by rw[sizeLine_eq];omega) S (by simp;omega) .none es.size 0 _ #[] c rfl (Nat.zero_le _) ⟨k,mm⟩ gS (ItemsOf.nil _) fun s' acc' c' hm hS' hacc=>?_;rw[Moved.eq_with hm];refine⟨rfl,q s'.heap s'.toks acc' c' (fun b o e=>hm.heap b o (fun z=>?_) (kk b o e)) hS' ?_⟩
  ·have lt:b < S:=by rw[<-hS];exact wLa e
   simp at z;rcases z with z | z
   ·exact wTa lt z
   ·exact wTa (Nat.lt_succ_of_lt lt) z
  ·refine List.ext_getElem? fun j=>?_;rw[uAa];by_cases hj:j < acc'.size
   ·obtain⟨e,e1,e2⟩:=hacc.2 j acc'[j] (by simp[hj]);simp[hj,e1,e2]
   ·have:=hacc.1;simp[hj,show¬j < es.size by omega]
 unfold Builtin.List.listExtendWith;refine wAa (wpAny_typeOf (s:={ s with heap:=h1 }) (T := "dict") m1.ty ?_);have b1:Builtin.List.listSameRef (.ref S) (.ref d)=false:=by simp[Builtin.List.listSameRef,hSd]
 have b2:(Value.type "dict" == Value.type "list")=false:=by decide
 have b3:(Value.type "dict" == Value.type "tuple")=false:=by decide
 simp only[b1,b2,b3,Bool.or_false,Bool.false_eq_true,if_false];refine wAa (Ud hd m1 ?_);have m2:Jq (h1.push { cls:=.type "dict_keyiterator",data:=.fields #[.ref d,.int 0 0,.int es.size 0,.int ep 0] }) d es ep:=m1.at fun o e=>wIa _ e;have i2:(h1.push { cls:=.type "dict_keyiterator",data:=.fields #[.ref d,.int 0 0,.int es.size 0,.int ep 0] }).IsKeyIter (S+1) d 0 es.size ep:=by rw[<-sz1];exact⟨_,wJa _ rfl,rfl,rfl⟩
 have g2:=wIa { cls:=.type "dict_keyiterator",data:=.fields #[.ref d,.int 0 0,.int es.size 0,.int ep 0] } g1;have k2:∀b o,s.heap.get? b=some o->(h1.push { cls:=.type "dict_keyiterator",data:=.fields #[.ref d,.int 0 0,.int es.size 0,.int ep 0] }).get? b=some o/\b≠S:=fun b o e=>⟨wIa _ (k1 b o e).1,(k1 b o e).2⟩
 show wpAny _ _ _ _ _ { s with heap:=h1.push { cls:=.type "dict_keyiterator",data:=.fields #[.ref d,.int 0 0,.int es.size 0,.int ep 0] } };rw[show Value.ref h1.objs.size=Value.ref (S+1) from congrArg _ sz1];generalize h1.push { cls:=.type "dict_keyiterator",data:=.fields #[.ref d,.int 0 0,.int es.size 0,.int ep 0] }=h2 at m2 i2 g2 k2;refine wAa (wDa (Wc (s:={ s with heap:=h2 }) m2 ?_));refine wpAny_ite_split (fun _=>?_) (fun _=>wBa ⟨plainId_quiet F.plain_extend_loop _,fin _ _ _ i2 m2 (fun b o e=>(k2 b o e).1) g2⟩);refine wAa (wpAny_rule (wAa (show wpAny _ _ (updateSeq S (·.push .none) >>= fun _=>updateSeq S (·.pop)) _ _ _ from wAa (wpAny_updateSeq g2 rfl ?_))));have g3:=vUa (Obj.mapSeq (·.push Value.none)) g2 rfl;refine wpAny_updateSeq (hz:=by seq_fits) g3 rfl ?_;have g4:=vUa (Obj.mapSeq (·.pop)) g3 rfl;have up:∀b o,b≠S->h2.get? b=some o->((h2.update S (Obj.mapSeq (·.push Value.none))).update S (Obj.mapSeq (·.pop))).get? b=some o:=fun b o hb e=>oth _ _ b o hb (oth _ _ b o hb e);exact wBa ⟨plainId_quiet F.plain_extend_loop _,fin _ _ _ (i2.at fun o e=>up _ o (by omega) e) (m2.at fun o e=>up _ o (Ne.symm hSd) e) (fun b o e=>up b o (k2 b o e).2 (k2 b o e).1) g4⟩
end
end L2
namespace DS
open PySem PySem.Spec PyProof.Rows L2
noncomputable def zP(kvs:List (KD×Addr×V))(k:KD):Option V:=(kvs.find? fun p=>decide (p.1=k)).map (·.2.2)
def Yp(kvs:List (KD×Addr×V))(k:KD)(b:Addr)(v:V):List (KD×Addr×V):=if (zP kvs k).isSome then kvs.map (fun p=>if p.1=k then(p.1,p.2.1,v)else p)else kvs++[(k,b,v)]
abbrev y7:List (KD×Addr×V)->List (KD×Addr×Value)->Prop:=Paired fun(p:KD×Addr×V) (q:KD×Addr×Value)=>p.1=q.1/\p.2.1=q.2.1/\je p.2.2 q.2.2
theorem y7.at:∀{kvs:List (KD×Addr×V)} {xs:List (KD×Addr×Value)},y7 kvs xs->(∃v p,zP kvs k=some v/\atKey xs k=some p/\je v p.2) \/ (zP kvs k=none/\atKey xs k=none)
 | _,_,.nil=>.inr ⟨rfl,rfl⟩
 | _,_,@Paired.cons _ _ _ p q ps qs ⟨e1,e2,r⟩ t=>by
  unfold zP atKey;rw[List.find?_cons,List.find?_cons,e1];by_cases h:q.1=k
  ·rw[decide_eq_true h];exact .inl ⟨_,_,rfl,rfl,r⟩
  ·rw[decide_eq_false h];exact y7.at t
theorem y7.put(rv:je v u)(h:y7 kvs xs):y7 (Yp kvs k b v) (storedH xs k b u):=by
 have mp:∀{kvs:List (KD×Addr×V)} {xs:List (KD×Addr×Value)},y7 kvs xs->y7 (kvs.map (fun p=>if p.1=k then(p.1,p.2.1,v)else p)) (xs.map (putAt k u)):=by
  intro kvs xs h;induction h with
  | nil=>exact .nil
  | @cons p q ps qs r t ih=>
   obtain⟨e1,e2,r⟩:=r;rw[vWa,vWa];refine .cons ?_ ih;unfold putAt;rw[e1];split
   ·exact⟨rfl,e2,rv⟩
   ·exact⟨e1,e2,r⟩
 have ap:∀{kvs:List (KD×Addr×V)} {xs:List (KD×Addr×Value)},y7 kvs xs->y7 (kvs++[(k,b,v)]) (xs++[(k,b,u)]):=by
  intro kvs xs h;induction h with
  | nil=>exact .cons ⟨rfl,rfl,rv⟩ .nil
  | cons r t ih=>exact .cons r ih
 unfold Yp storedH;rcases h.at (k:=k)with⟨w,p,e1,e2,_⟩ | ⟨e1,e2⟩
 ·rw[e1,e2];exact mp h
 ·rw[e1,e2];exact ap h
theorem We(kvs:List (KD×Addr×V))(k:KD)(b:Addr)(v:V):(Yp kvs k b v).length<=kvs.length+1:=by
 unfold Yp;split <;> simp
section
mutual
theorem gM(I:Inv X pins U H s):∀{d:D} {k:KD} {v:V} {u:Value},j5 X.K H d v->je v u->jz d=some k->jv s.heap k u
 | .int i,k,v,u,h,r,e=>by
  rw[jz]at e;cases e;rw[j5]at h;subst h;rw[jv];exact .inl r
 | .bl i,k,v,u,h,r,e=>by
  rw[jz]at e;cases e;rw[j5]at h;subst h;rw[jv];exact .inr ⟨i,r,rfl⟩
 | .str i,k,v,u,h,r,e=>by
  rw[jz]at e;cases e;rw[j5]at h;subst h;rw[jv];exact r
 | .tup l,k,v,u,h,r,e=>by
  rw[jz]at e;obtain⟨ks,e1,e2⟩:=j0 e;cases e2;rw[j5]at h;obtain⟨a,xs,rfl,q,rs⟩:=h;cases r;obtain⟨its,vs,t,_⟩:=I.tuple q;rw[jv];exact⟨a,its.toArray,rfl,t,by simpa using Ug I rs vs e1⟩
 | .non,k,v,u,h,r,e=>by rw[jz]at e <;> first | cases e | (intros;contradiction)
 | .lst _,k,v,u,h,r,e=>by rw[jz]at e <;> first | cases e | (intros;contradiction)
 | .ins _ _ _,k,v,u,h,r,e=>by rw[jz]at e <;> first | cases e | (intros;contradiction)
 | .obj _ _ _ _ _,k,v,u,h,r,e=>by rw[jz]at e <;> first | cases e | (intros;contradiction)
 | .scr _,k,v,u,h,r,e=>by rw[jz]at e <;> first | cases e | (intros;contradiction)
 | .dct _ _,k,v,u,h,r,e=>by rw[jz]at e <;> first | cases e | (intros;contradiction)
 | .exn _ _,k,v,u,h,r,e=>by rw[jz]at e <;> first | cases e | (intros;contradiction)
 | .mem _,k,v,u,h,r,e=>by rw[jz]at e <;> first | cases e | (intros;contradiction)
 | .dk _ _,k,v,u,h,r,e=>by rw[jz]at e <;> first | cases e | (intros;contradiction)
theorem Ug(I:Inv X pins U H s):∀{l:List D} {ks:List KD} {xs:List V} {us:List Value},j1 X.K H l xs->jd xs us->yL l=some ks->jA s.heap ks us
 | [],ks,xs,us,h,r,e=>by
  rw[yL]at e;cases e;rw[j1]at h;subst h;cases r;rw[jA]
 | d::l,ks,xs,us,h,r,e=>by
  rw[yL]at e;obtain⟨k,e1,e⟩:=j0 e;obtain⟨ks',e2,e⟩:=j0 e;cases e;rw[j1]at h;obtain⟨v,vs,rfl,h1,h2⟩:=h;cases r with
  | cons r1 r2=>
   rw[jA];exact⟨_,_,rfl,gM I h1 r1 e1,Ug I h2 r2 e2⟩
end
theorem yV(e:Jn d=some k):jz d=some k/\k.dep<=8:=by
 unfold Jn at e;split at e
 ·obtain⟨k',e1,e2⟩:=j0 e;split at e2
  ·cases e2;exact⟨e1,by assumption⟩
  ·cases e2
 ·cases e
theorem yW(I:Inv X pins U H s)(r:j5 X.K H d (.ref b))(e:Jn d=some k):(jM X.prog X.w).is s.heap k b:=⟨gM I r rfl (yV e).1,(yV e).2⟩
theorem xn(I:Inv X pins U H s)(pr:y7 kvs xs):∀{ks:List D},jQ ks=some (kvs.map (·.1))->j1 X.K H ks (kvs.map fun p=>V.ref p.2.1)->∀x∈xs,(jM X.prog X.w).is s.heap x.1 x.2.1:=by
 induction pr with
 | nil=>intro ks _ _ x h;cases h
 | @cons p q ps qs rr t ih=>
  obtain⟨e1,e2,_⟩:=rr;intro ks e r x hx;cases ks with
  | nil=>rw[jQ]at e;cases e
  | cons d ks=>
  rw[jQ]at e;obtain⟨k,e3,e⟩:=j0 e;obtain⟨ks',e4,e⟩:=j0 e;rw[vWa]at e;cases e;rw[vWa,j1]at r;obtain⟨_,_,ee,r1,r2⟩:=r;cases ee;rcases uTa hx with rfl | hx
  ·rw[<-e1,<-e2];exact yW I r1 e3
  ·exact ih e4 r2 x hx
structure DAt (K:Fr) (H:Hp) (a:Addr) (ks:List D) (kvs:List (KD×Addr×V)) (ep:Nat):Prop where
 at':H a=some (.dD kvs ep)
 k:jQ ks=some (kvs.map (·.1))
 r:j1 K H ks (kvs.map fun p=>V.ref p.2.1)
theorem DAt.of(I:Inv X pins U H s)(h:H a=some (.dD kvs ep)):kvs.length<=sizeLine/\(a==sysModules)=false/\(kvs.map (·.1)).Nodup/\∃xs es,y7 kvs xs/\Jq s.heap a es ep/\es.toList=xs.map (entryOfKey (jM X.prog X.w)):=by
 obtain⟨z,y,nd,xs,r,o,es,e1,e2,e3,e4⟩:=I.hok a _ h;exact⟨z,y,nd,xs,es,r,⟨o,e1,e2,e3⟩,e4⟩
theorem y7.fst(h:y7 kvs xs):xs.map (·.1)=kvs.map (·.1):=by
 induction h with
 | nil=>rfl
 | cons r _ ih=>rw[vWa,vWa,ih,r.1]
theorem DAt.dict(I:Inv X pins U H s)(h:DAt X.K H a ks kvs ep):kvs.length<=sizeLine/\(a==sysModules)=false/\∃xs,y7 kvs xs/\s.heap.DictOfH (jM X.prog X.w) a xs:=by
 obtain⟨z,y,nd,xs,es,r,⟨o,e1,e2,e3⟩,e4⟩:=DAt.of I h.at';exact⟨z,y,xs,r,o,es,ep,e1,e2,e3,e4,xn I r h.k h.r,by rw[r.fst];exact nd⟩
theorem yE(hr:Room k A):A.in1.units+8 < cLine:=by
 rw[Around.in1_units];have:=hr.un
 lia
def qW(K:Fr):R2:=fun x y H Q=>∃a kvs ep b ks k dk v,x=.ref a/\y=.ref b/\DAt K H a ks kvs ep/\j5 K H dk (.ref b)/\Jn dk=some k/\zP kvs k=some v/\Q v H
theorem Ar(hr:Room n X.A):zf X (qW X.K):=by
 intro value slice pins s U H x y v u Q I rx ry h hs;obtain⟨a,kvs,ep,b,ks,k,dk,z,rfl,rfl,da,rb,ek,ev,q⟩:=h;cases rx;cases ry;obtain⟨zl,hd,xs,pr,dd⟩:=da.dict I;rcases pr.at (k:=k)with⟨w,p,e1,e2,rw'⟩ | ⟨e1,e2⟩
 ·rw[ev]at e1;cases e1;exact tail_any dd.typeIs slot_dict_getitem.lookup (wpAny_getItem_heap (knd:=jM X.prog X.w) (yE hr) (yW I rb ek) dd e2 ⟨z,H,I.tok _,rw',q⟩) hs
 ·rw[ev]at e1;cases e1
def qX(K:Fr):V->V->V->Hp->(Hp->Prop)->Prop:=fun o i v H Q=>∃a kvs ep b ks k dk,o=.ref a/\i=.ref b/\DAt K H a ks kvs ep/\j5 K H dk (.ref b)/\Jn dk=some k/\kvs.length < sizeLine/\∀ep',Q (upd H a (.dD (Yp kvs k b v) ep'))
theorem xo(hr:Room n X.A):ut X (qX X.K):=by
 intro pins s U H o i v ov iv u Q I ro ri rv h;obtain⟨a,kvs,ep,b,ks,k,dk,rfl,rfl,da,rb,ek,hl,q⟩:=h;cases ro;cases ri;obtain⟨zl,hd,xs,pr,dd⟩:=da.dict I;have hz:xs.length<=sizeLine:=by rw[<-Paired.length pr];exact zl
 refine wpAny_setItem_heap (hsz:=hz) (knd:=jM X.prog X.w) (yE hr) (yW I rb ek) dd fun h' dd' hs=>?_;obtain⟨o,es,ep',e1,e2,e3,e4,_,e5⟩:=dd';have pr':=pr.put (k:=k) (b:=b) rv;have new:jC X.prog X.w (upd H a (.dD (Yp kvs k b v) ep')) h' a (.dD (Yp kvs k b v) ep'):=⟨by have:=We kvs k b v;lia,hd,by rw[<-pr'.fst];exact e5,_,pr',o,es,e1,e2,e3,e4⟩
 exact⟨_,I.write (x:=a) (e:=a) (t':=s.toks+(jM X.prog X.w).draws k) (by rw[da.at'];trivial) (.inl rfl) (fun c z hc e=>(hs.2 c hc).trans e) ⟨_,e1⟩ new,q ep'⟩
def Wf(K:Fr)(neg:Bool):R2:=fun x y H Q=>∃a kvs ep b ks k dk,x=.ref b/\y=.ref a/\DAt K H a ks kvs ep/\j5 K H dk (.ref b)/\Jn dk=some k/\Q (.bl (xor neg (zP kvs k).isSome)) H
theorem KA(hr:Room n X.A):jw X (compareOp .In) (Wf X.K false):=by
 intro pins s U H x y v u Q I rx ry h;obtain⟨a,kvs,ep,b,ks,k,dk,rfl,rfl,da,rb,ek,q⟩:=h;cases rx;cases ry;obtain⟨zl,hd,xs,pr,dd⟩:=da.dict I;refine wpAny_in_heap (knd:=jM X.prog X.w) (yE hr) (yW I rb ek) hd dd ⟨_,H,I.tok _,?_,q⟩;rcases pr.at (k:=k)with⟨w,p,e1,e2,_⟩ | ⟨e1,e2⟩ <;> (rw[e1,e2];rfl)
theorem Uh(hr:Room n X.A):jw X (compareOp .NotIn) (Wf X.K true):=by
 intro pins s U H x y v u Q I rx ry h;obtain⟨a,kvs,ep,b,ks,k,dk,rfl,rfl,da,rb,ek,q⟩:=h;cases rx;cases ry;obtain⟨zl,hd,xs,pr,dd⟩:=da.dict I;refine wpAny_notIn_heap (knd:=jM X.prog X.w) (yE hr) (yW I rb ek) hd dd ⟨_,H,I.tok _,?_,q⟩;rcases pr.at (k:=k)with⟨w,p,e1,e2,_⟩ | ⟨e1,e2⟩ <;> (rw[e1,e2];rfl)
def CB:TE:=fun _ H Q=>∀p,H p=none->Q (.ref p) (upd H p (.dD [] 0))
theorem Inv.big(I:Inv X pins U H s):sysModules < s.heap.objs.size:=Nat.lt_trans (by decide) (show mainGlobals < s.heap.objs.size from(I.mod.glob.keeps I.bk).lt)
theorem xr:PE X (.Dict [] [] pos) CB:=fun pins s U H Q I h=>
 wpAny_Dict_empty ⟨.ref s.heap.objs.size,_,I.laid (a:=s.heap.objs.size) (o:=.dD [] 0) (t':=s.toks) (fun _ _ q=>wIa _ q) (wPa _)
  ⟨Nat.zero_le _,beq_eq_false_iff_ne.mpr (Ne.symm (wTa (Inv.big I))),List.nodup_nil,[],.nil,_,#[],wJa _ rfl,⟨rfl,rfl,rfl⟩,rfl,rfl⟩,rfl,h _ (I.hok.fresh (wPa _))⟩
theorem y7.keys(h:y7 kvs xs):jd (kvs.map fun p=>V.ref p.2.1) ((xs.map (entryOfKey (jM P w))).map (·.key)):=by
 induction h with
 | nil=>exact .nil
 | cons r _ ih=>exact .cons (by show Value.ref _=_;rw[r.2.1]) ih
theorem kh(hc:X.calm=true):JG X (.type "list") (fun xs H Q=>∃a kvs ep,xs=[.ref a]/\H a=some (.dD kvs ep)/\∀l,H l=none->Q (.ref l) (upd H l (.lst (kvs.map fun p=>V.ref p.2.1)))):=by
 intro pins s U H xs us Q I r h;obtain⟨a,kvs,ep,rfl,e,q⟩:=h;cases r with
 | cons r1 r2=>
 cases r2;cases r1;obtain⟨z,hd,nd,ys,es,pr,rd,ee⟩:=DAt.of I e;have hl:es.size=kvs.length:=by rw[<-Array.length_toList,ee,vYa,Paired.length pr]
 refine Wd (I.ok.hd hc) hd rd (by rw[hl];exact z) fun h' tk acc c k g ea=>?_;refine⟨.ref s.heap.objs.size,_,I.laid (a:=s.heap.objs.size) (o:=.lst (kvs.map fun p=>V.ref p.2.1)) (t':=tk) k (wPa _) ⟨by simpa using z,acc.toList,c,?_,by simpa using g⟩,rfl,q _ (I.hok.fresh (wPa _))⟩;rw[ea,ee];exact pr.keys
end
theorem VP:entryFor table "dict_itemiterator.__iter__" = some Builtin.«dict_keyiterator.__iter__»:=entryFor_alias (id' := "dict_keyiterator.__iter__") (by kernel_rfl) rfl (by decide +kernel) (by kernel_rfl)
theorem y7.len{kvs:List (KD×Addr×V)}{xs:List (KD×Addr×Value)}{es:Array DictEntry}(h:y7 kvs xs)(e:es.toList=xs.map (entryOfKey (jM P w))):es.size=kvs.length:=by rw[<-Array.length_toList,e,vYa,Paired.length h]
theorem y7.entry{P:Program}{w:World}{es:Array DictEntry}{kvs:List (KD×Addr×V)}{xs:List (KD×Addr×Value)}{i:Nat}{p:KD×Addr×V}(h:y7 kvs xs)(e:es.toList=xs.map (entryOfKey (jM P w)))(hp:kvs[i]?=some p):∃y,es[i]?=some y/\y.key=.ref p.2.1/\je p.2.2 y.val:=by
 have go:∀{kvs:List (KD×Addr×V)} {xs:List (KD×Addr×Value)} {i:Nat},y7 kvs xs->kvs[i]?=some p->∃q,xs[i]?=some q/\p.2.1=q.2.1/\je p.2.2 q.2.2:=by
  intro kvs xs i h;induction h generalizing i with
  | nil=>intro z;simp at z
  | @cons a b as bs r t ih=>
   intro z;cases i with
   | zero=>cases z;exact⟨b,rfl,r.2.1,r.2.2⟩
   | succ i=>exact ih (i:=i) z
 obtain⟨q,e1,e2,e3⟩:=go h hp;refine⟨entryOfKey (jM P w) q,?_,by show Value.ref _=_;rw[e2],e3⟩;rw[<-Array.getElem?_toList,e,uAa,e1];rfl
def Dz(a:Addr)(kvs:List (KD×Addr×V))(ep:Nat):It:=
 ⟨fun i H=>H a=some (.dD kvs ep)/\i < kvs.length,fun i H x H'=>H'=H/\∀p,kvs[i]?=some p->x=.ref p.2.1,fun i H=>H a=some (.dD kvs ep)/\kvs.length<=i⟩
theorem KB{P:Program}{w:World}{K:uXa}{tg:Expr}{kvs:List (KD×Addr×V)}{ep:Nat}(a it:Addr):Turn P w K tg (Dz a kvs ep) [it] it (fun i h=>h.IsKeyIter it a i kvs.length ep) where
 mem:=by simp
 obj:=fun i h st b hb=>by
  have e:b=it:=by simpa using hb
  subst e;obtain⟨o,e,c,d⟩:=st;exact⟨o,e,fun v z=>by rw[d]at z;cases z⟩
 keep:=fun i h h' st k=>st.at fun o e=>k it (by simp) o e
 item:=by
  intro X hP hw hK hc i pins s U H E I hf st hg;subst hP hw hK;obtain⟨ea,hi⟩:=hg;obtain⟨z,hd,nd,ys,es,pr,rd,ee⟩:=DAt.of I ea;obtain⟨y,ey,ek,_⟩:=pr.entry ee (i:=i) (p:=kvs[i]) (by simp[hi]);have hl:=pr.len ee;obtain⟨f0,f1,f2,f3,f4,f5⟩:=hf it (by simp);rw[<-hl]at st⊢;refine Ue st rd ey fun h' st' sb=>?_;have I1:Inv X pins U H { s with heap:=h' }:=I.turned (t':=s.toks) (fun b o hb e=>(sb.2 b hb).trans e) f0 f1 f3 f4 f5;obtain⟨o,e,c,d⟩:=id st';exact⟨_,rfl,Zl (s:={ s with heap:=h' }) e c d (by decide) ⟨.ref kvs[i].2.1,H,I1,ek,⟨rfl,fun p hp=>by simp[hi]at hp;rw[hp]⟩,st',fun b hb=>(hf b hb).1⟩⟩
 done:=by
  intro X hP hw hK hc i pins s U H E I hf st hg;subst hP hw hK;obtain⟨ea,hi⟩:=hg;obtain⟨z,hd,nd,ys,es,pr,rd,ee⟩:=DAt.of I ea;have hl:=pr.len ee;obtain⟨f0,f1,f2,f3,f4,f5⟩:=hf it (by simp);rw[<-hl]at st;exact gK (I.ok.hd hc) st rd (by rw[hl];exact hi) fun h' eb=>⟨rfl,I.turned (t':=s.toks) (fun b o hb e=>eb b o hb e) f0 f1 f3 f4 f5⟩
 self:=fun _ _ _ _ _ st h=>wpAny_pyIter_keyiter st h
def DB(a:Addr)(kvs:List (KD×Addr×V))(ep:Nat):It:=
 ⟨fun i H=>H a=some (.dD kvs ep)/\i < kvs.length,fun i H x H'=>∃p,H p=none/\x=.ref p/\∀e,kvs[i]?=some e->H'=upd H p (.tup [.ref e.2.1,e.2.2]),fun i H=>H a=some (.dD kvs ep)/\kvs.length<=i⟩
theorem ki{P:Program}{w:World}{K:uXa}{es:List Expr}{x1:Nat}{tp:Pos}{kvs:List (KD×Addr×V)}{ep:Nat}(a it:Addr):Turn P w K (.Tuple es x1 tp) (DB a kvs ep) [it] it (fun i h=>∃ok ov,IsItemIter h it a i kvs.length ep ok ov) where
 mem:=by simp
 obj:=fun i h st b hb=>by
  have e:b=it:=by simpa using hb
  subst e;obtain⟨_,_,st⟩:=st;exact⟨_,st,fun v z=>by cases z⟩
 keep:=fun i h h' st k=>let ⟨ok,ov,st⟩:=st;⟨ok,ov,k it (by simp) _ st⟩
 item:=by
  intro X hP hw hK hc i pins s U H E I hf st hg;subst hP hw hK;obtain⟨ok,ov,st⟩:=st;obtain⟨ea,hi⟩:=hg;obtain⟨z,hd,nd,ys,es,pr,rd,ee⟩:=DAt.of I ea;obtain⟨y,ey,ek,er⟩:=pr.entry ee (i:=i) (p:=kvs[i]) (by simp[hi]);have hl:=pr.len ee;rw[<-hl]at st⊢;have lt:it < s.heap.objs.size:=wLa st;refine VO st rd ey fun h' b1 b3 bz bk=>⟨_,rfl,wpAny_letOwnedTupleGo_items b1 fun h2 c1 c2=>?_⟩
  have kp:∀c o,c∉[it]->s.heap.get? c=some o->h2.get? c=some o:=fun c o hc z=>by
   have hc:c≠it:=by simpa using hc
   exact c2.extBut c o hc (bk c o hc z)
  have ht:IsTup h2 s.heap.objs.size ([y.key,y.val]:List Value).toArray:=⟨_,c2.extBut _ _ (Nat.ne_of_gt lt) b3,rfl,_,rfl⟩
  have I2:=I.tupled (t':=s.toks) (h':=h2) rfl hf kp (vs:=[.ref kvs[i].2.1,kvs[i].2.2]) (us:=[y.key,y.val]) (.cons ek (.cons er .nil)) yg ht;refine⟨.ref s.heap.objs.size,_,I2,rfl,⟨s.heap.objs.size,I.hok.fresh (wPa _),rfl,fun e he=>?_⟩,⟨_,_,c1⟩,fun c hc=>?_⟩
  ·simp[hi]at he;rw[he]
  ·rw[j7,(hf c hc).1];have:c=it:=by simpa using hc
   rw[this];exact wTa lt
 done:=by
  intro X hP hw hK hc i pins s U H E I hf st hg;subst hP hw hK;obtain⟨ok,ov,st⟩:=st;obtain⟨ea,hi⟩:=hg;obtain⟨z,hd,nd,ys,es,pr,rd,ee⟩:=DAt.of I ea;have hl:=pr.len ee;obtain⟨f0,f1,f2,f3,f4,f5⟩:=hf it (by simp);rw[<-hl]at st;exact Uf (I.ok.hd hc) st rd (by rw[hl];exact hi) fun h' eb=>⟨rfl,I.turned (t':=s.toks) (fun b o hb e=>eb b o hb e) f0 f1 f3 f4 f5⟩
 self:=fun A i s Q E st h=>by
  obtain⟨ok,ov,st⟩:=st;have ty:s.TypeIs (.ref it) "dict_itemiterator" := ⟨_,st,rfl⟩
  refine wpAny_pyIter_slot ty F.slot_dict_itemiterator_iter (wpAny_call_entry F.slot_dict_itemiterator_iter ty VP ?_ (F.args_dict_itemiterator_iter_1 _));exact(show wpAny _ _ (ret (.ref it)) _ _ s from wBa ⟨_,rfl, "dict_itemiterator",_,ty,F.slot_dict_itemiterator_next.lookup,h⟩)
def DC(K:uXa)(a:Addr)(n:Nat):It:=
 ⟨fun i H=>∃xs,jr K H a xs/\xs.length=n/\i < n,fun i H x H'=>H'=H/\∀xs,jr K H a xs->xs[n - 1 - i]?=some x,fun i H=>n<=i⟩
theorem Wg{P:Program}{w:World}{K:uXa}{tg:Expr}{n:Nat}(a it:Addr):Turn P w K tg (DC K a n) [it] it (fun i h=>h.IsRevIter it a ((n:Int) - 1 - i)/\i<=n) where
 mem:=by simp
 obj:=fun i h st b hb=>by
  have e:b=it:=by simpa using hb
  subst e;obtain⟨⟨o,e,c,d⟩,_⟩:=st;exact⟨o,e,fun v z=>by rw[d]at z;cases z⟩
 keep:=fun i h h' st k=>⟨st.1.at fun o e=>k it (by simp) o e,st.2⟩
 item:=by
  intro X hP hw hK hc i pins s U H E I hf st hg;subst hP hw hK;obtain⟨xs,hq,hn,hi⟩:=hg;obtain⟨its,rv,p,hz⟩:=I.list hq;have hx:xs[n - 1 - i]?=some (xs[n - 1 - i]'(by omega)):=by simp
  obtain⟨u,hu,ru⟩:=rv.get hx;obtain⟨f0,f1,f2,f3,f4,f5⟩:=hf it (by simp);have e0:(n:Int) - 1 - i=((n - 1 - i:Nat):Int):=by omega
  have st1:=st.1;rw[e0]at st1;refine wpAny_pyNext_rev_item st1 p.isList (x:=u) (by simpa using hu) fun h' st' sb=>?_;have I1:Inv X pins U H { s with heap:=h' }:=I.turned (t':=s.toks) (fun b o hb e=>(sb.2 b hb).trans e) f0 f1 f3 f4 f5;obtain⟨o,e,c,d⟩:=id st';refine⟨u,rfl,Zl (s:={ s with heap:=h' }) e c d (by decide) ⟨_,H,I1,ru,⟨rfl,fun ys hy=>by rw[I.list_inj hy hq];exact hx⟩,⟨?_,hi⟩,fun b hb=>(hf b hb).1⟩⟩;have e1:(n:Int) - 1 - ((i+1:Nat):Int)=((n - 1 - i:Nat):Int) - 1:=by omega
  rw[e1];exact st'
 done:=by
  intro X hP hw hK hc i pins s U H E I hf st hg;subst hP hw hK;obtain⟨f0,f1,f2,f3,f4,f5⟩:=hf it (by simp);have hg:n<=i:=hg;have e0:(n:Int) - 1 - i=-1:=by have:=st.2;omega
  have st1:=st.1;rw[e0]at st1;exact wpAny_pyNext_rev_end (I.ok.hd hc) st1 fun h' eb=>⟨rfl,I.turned (t':=s.toks) (fun b o hb e=>eb b o hb e) f0 f1 f3 f4 f5⟩
 self:=fun _ _ _ _ _ st h=>wpAny_pyIter_revIter st.1 h
section
def CD(tl:TE):TI:=fun U H R=>tl U H fun x H1=>∃a kvs ep,x=.ref a/\H1 a=some (.dD kvs ep)/\R (Dz a kvs ep) H1
theorem xu(hl:PE X l tl):PI X tg l (CD tl):=by
 intro pins s U H R I h;refine jm (hl pins s U H _ I h) fun v s1 xx=>?_;obtain⟨x,H1,I1,r1,q1⟩:=xx;obtain⟨a,kvs,ep,rfl,ea,q⟩:=q1;cases r1;obtain⟨z,hd,nd,ys,es,pr,rd,ee⟩:=DAt.of I1 ea;have hl:=pr.len ee;refine Ud hd rd ⟨s1.heap.objs.size,[s1.heap.objs.size],_,_,H1,rfl,I1.kept (t':=s1.toks) fun b o e=>wIa _ e,KB (kvs:=kvs) (ep:=ep) a _,?_,fun b hb=>?_,q⟩
 ·rw[<-hl];exact⟨_,wJa _ rfl,rfl,rfl⟩
 ·have e:b=s1.heap.objs.size:=by simpa using hb
  subst e;exact I1.fpOk (wPa _) (I1.hok.fresh (wPa _))
def As(tl:TE):TI:=fun U H R=>tl U H fun x H1=>∃a kvs ep,x=.ref a/\H1 a=some (.dD kvs ep)/\R (DB a kvs ep) H1
theorem Wh{ap cp:Pos}(hl:PE X l tl)(hbase:attributeBase l "items" X.env (eval l X.env)=eval l X.env)(hline:(ap.endLine==cp.line)=true):PI X (.Tuple es x1 tp) (.Call (.Attribute l "items" ap) [] [] cp) (As tl):=by
 intro pins s U H R I h;refine wpAny_Call_method0_late hbase hline (jm (hl pins s U H _ I h) fun v s1 xx=>?_);obtain⟨x,H1,I1,r1,q1⟩:=xx;obtain⟨a,kvs,ep,rfl,ea,q⟩:=q1;cases r1;obtain⟨z,hd,nd,ys,es,pr,rd,ee⟩:=DAt.of I1 ea;have hl:=pr.len ee;refine⟨"dict", "dict.items",F.plainAttrs_dict,F.slot_dict_items,F.type_dict_items,rd.ty,?_,Calls.callWith_builtin rfl (PySem.evalArgs_none (VM hd rd ?_))⟩
 ·intro b e;cases e;obtain⟨o,g,c,_⟩:=rd;exact⟨o,g,c.2.1⟩
 have k1:∀b o,s1.heap.get? b=some o->(s1.heap.push { cls:=.type "dict_items",data:=.fields #[.ref a] }).get? b=some o:=fun b o e=>wIa _ e;have hv:(s1.heap.push { cls:=.type "dict_items",data:=.fields #[.ref a] }).IsItemsView s1.heap.objs.size a:=⟨_,wJa _ rfl,rfl,rfl⟩
 have I2:Inv X pins U H1 { s1 with heap:=s1.heap.push { cls:=.type "dict_items",data:=.fields #[.ref a] } }:=I1.kept (t':=s1.toks) k1;generalize s1.heap.push { cls:=.type "dict_items",data:=.fields #[.ref a] }=h2 at k1 hv I2;refine VN (s:={ s1 with heap:=h2 }) hv (rd.at fun o e=>k1 _ o e) ⟨h2.objs.size,[h2.objs.size],_,_,H1,rfl,I2.kept (t':=s1.toks) fun b o e=>wIa _ e,ki (kvs:=kvs) (ep:=ep) a _,?_,fun b hb=>?_,q⟩
 ·rw[<-hl];exact⟨_,_,wJa _ rfl⟩
 ·have e:b=h2.objs.size:=by simpa using hb
  subst e;exact I2.fpOk (wPa _) (I2.hok.fresh (wPa _))
def EC(K:Fr)(ta:TA):TI:=fun U H R=>ta U H fun vs H1=>∃a xs,vs=[.ref a]/\jr K H1 a xs/\R (DC K a xs.length) H1
theorem Au{e1:Expr}{ta:TA}{p:Pos}(hg:Gl X "reversed")(hm:X.mg "reversed" = none)(ha:PA X [e1] ta)(hs:starEach [e1] X.env=[(false,eval e1 X.env)]):PI X tg (.Call (.Name "reversed" p) [e1] [] pos) (EC X.K ta):=by
 intro pins s U H R I h;refine Call_ (yT I hg hm PyProof.Rows.boot_reversed (PyProof.Rows.callWith_type1 (jm (ha pos pins s U H _ I h) fun us s1 xx=>?_) hs rfl));obtain⟨vs,H1,I1,r1,q1⟩:=xx;obtain⟨a,xs,rfl,qa,q⟩:=q1;cases r1 with
 | cons r rr=>
 cases rr;cases r;obtain⟨its,rv,p,hz⟩:=I1.list qa;have hl:=rv.length;refine call_reversed_list p.isList ?_;have k1:∀b o,s1.heap.get? b=some o->(s1.heap.push (revObj a ((its.toArray.size:Int) - 1))).get? b=some o:=fun b o e=>wIa _ e;have st:(s1.heap.push (revObj a ((its.toArray.size:Int) - 1))).IsRevIter s1.heap.objs.size a ((xs.length:Int) - 1 - (0:Nat)):=⟨_,wJa _ rfl,rfl,by rw[uLa,hl];simp[revObj]⟩
 refine wpAny_pyIter_revIter (i:=(xs.length:Int) - 1 - (0:Nat)) st ⟨s1.heap.objs.size,[s1.heap.objs.size],_,_,H1,rfl,I1.kept (t':=s1.toks) k1,Wg (n:=xs.length) a _,⟨st,Nat.zero_le _⟩,fun b hb=>?_,q⟩;have e:b=s1.heap.objs.size:=by simpa using hb
 subst e;exact I1.fpOk (wPa _) (I1.hok.fresh (wPa _))
end
noncomputable def Zt:List KD->List D->KD->Option D
 | q::qs,d::ds,k=>if q=k then some d else Zt qs ds k
 | _,_,_=>none
noncomputable def Ui:List KD->List D->KD->D->List D
 | q::qs,d::ds,k,v=>(if q=k then v else d)::Ui qs ds k v
 | _,ds,_,_=>ds
def Wi:D->D->Option D
 | .dct ks vs,k=>(Jn k).bind fun q=>(jQ ks).bind fun qs=>Zt qs vs q
 | _,_=>none
def kj(neg:Bool):D->D->Option D
 | k,.dct ks _=>(Jn k).bind fun q=>(jQ ks).bind fun qs=>some (.bl (xor neg (decide (q∈qs))))
 | _,_=>none
section
variable {K:Fr} {H:Hp} {O:List Addr}
theorem gO{k:KD}{d:D}:∀{kvs:List (KD×Addr×V)} {vs:List D},j1 K H vs (kvs.map (·.2.2))->Zt (kvs.map (·.1)) vs k=some d->∃v,zP kvs k=some v/\j5 K H d v
 | [],_,_,e=>by rw[uJa,Zt]at e;cases e;all_goals (intros;contradiction)
 | p::kvs,[],r,e=>by rw[vWa,Zt]at e;cases e;all_goals (intros;contradiction)
 | p::kvs,d'::vs,r,e=>by
  rw[vWa,j1]at r;obtain⟨_,_,ee,r1,r2⟩:=r;cases ee;rw[vWa,Zt]at e;unfold zP;rw[List.find?_cons];by_cases h:p.1=k
  ·rw[if_pos h]at e;cases e;rw[decide_eq_true h];exact⟨_,rfl,r1⟩
  ·rw[if_neg h]at e;rw[decide_eq_false h];exact gO r2 e
theorem Uj:∀{kvs:List (KD×Addr×V)},(zP kvs k).isSome=decide (k∈kvs.map (·.1))
 | []=>by simp[zP]
 | p::kvs=>by
  unfold zP;rw[List.find?_cons,vWa];by_cases h:p.1=k
  ·rw[decide_eq_true h,decide_eq_true (by rw[h];exact List.mem_cons_self)];rfl
  ·rw[decide_eq_false h];have:=Uj (k:=k) (kvs:=kvs);unfold zP at this;refine this.trans ?_;by_cases hm:k∈kvs.map (·.1)
   ·rw[decide_eq_true hm,decide_eq_true (List.mem_cons_of_mem _ hm)]
   ·rw[decide_eq_false hm,decide_eq_false];intro z;rcases uTa z with z | z
    ·exact h z.symm
    ·exact hm z
theorem vL{dk:D}{k:KD}{y:V}(h:RB K O H dk y)(e:Jn dk=some k):∃b,y=.ref b/\j5 K H dk (.ref b):=by
 have f:=h.full;unfold Jn at e;split at e
 ·have f0:=f;rw[j5]at f;obtain⟨a,xs,rfl,_⟩:=f;exact⟨a,rfl,f0⟩
 ·cases e
theorem CF:jH K (qW K) Wi:=by
 intro O H a b d x y Q ha hb _ e q;unfold Wi at e;split at e
 ·obtain⟨k,e1,e⟩:=j0 e;obtain⟨qs,e2,e⟩:=j0 e;obtain⟨p,kvs,ep,rfl,h1,h2,h3,h4⟩:=ha.dct;obtain⟨y,rfl,ry⟩:=vL hb e1;rw[h2]at e2;cases e2;obtain⟨v,ev,rv⟩:=gO h4 e;exact⟨p,kvs,ep,y,_,k,_,v,rfl,rfl,⟨h1,h2,h3.same J0⟩,ry,e1,ev,q v H (j3.refl H) rv⟩
 ·cases e
theorem qY:jH K (Wf K neg) (kj neg):=by
 intro O H a b d x y Q ha hb _ e q;unfold kj at e;split at e
 ·obtain⟨k,e1,e⟩:=j0 e;obtain⟨qs,e2,e⟩:=j0 e;cases e;obtain⟨p,kvs,ep,rfl,h1,h2,h3,h4⟩:=hb.dct;obtain⟨y,rfl,ry⟩:=vL ha e1;rw[h2]at e2;cases e2;exact⟨p,kvs,ep,y,_,k,_,rfl,rfl,⟨h1,h2,h3.same J0⟩,ry,e1,q _ H (j3.refl H) (by rw[j5,Uj])⟩
 ·cases e
noncomputable def ug(qs:List KD)(ks:List D)(q:KD)(k:D):List D:=if q∈qs then ks else ks++[k]
def kl(qs:List KD)(vs:List D)(q:KD)(v:D):List D:=if q∈qs then Ui qs vs q v else vs++[v]
theorem ZI:∀{ks:List D} {qs:List KD} {k:D} {q:KD},jQ ks=some qs->Jn k=some q->jQ (ks++[k])=some (qs++[q])
 | [],qs,k,q,e,f=>by
  rw[jQ]at e;cases e;rw[List.nil_append,jQ,f];rfl
 | d::ks,qs,k,q,e,f=>by
  rw[jQ]at e;obtain⟨x,e1,e⟩:=j0 e;obtain⟨xs,e2,e⟩:=j0 e;cases e;rw[List.cons_append,jQ,e1,ZI e2 f];rfl
theorem Uk(rv:j5 K H d v):∀{kvs:List (KD×Addr×V)} {vs:List D},j1 K H vs (kvs.map (·.2.2))->j1 K H (Ui (kvs.map (·.1)) vs k d) ((kvs.map (fun p=>if p.1=k then(p.1,p.2.1,v)else p)).map (·.2.2))
 | [],vs,r=>by
  rw[uJa,uJa,uJa,Ui]
  ·exact r
  all_goals (intros;contradiction)
 | p::kvs,[],r=>by rw[vWa,j1]at r;cases r
 | p::kvs,d'::vs,r=>by
  rw[vWa,j1]at r;obtain⟨_,_,ee,r1,r2⟩:=r;cases ee;rw[vWa,vWa,vWa,Ui];refine j1.cons ?_ (Uk rv r2);by_cases h:p.1=k
  ·rw[if_pos h,if_pos h];exact rv
  ·rw[if_neg h,if_neg h];exact r1
theorem gP(hf:∀p:KD×Addr×V,f (p.1,p.2.1,v)=f p):∀kvs:List (KD×Addr×V),(kvs.map (fun p=>if p.1=k then(p.1,p.2.1,v)else p)).map f=kvs.map f:=fun kvs=>by
 rw[List.map_map];refine List.map_congr_left fun p _=>?_;show f (if p.1=k then(p.1,p.2.1,v)else p)=f p;split
 ·exact hf p
 ·rfl
theorem xw{qs:List KD}{kvs:List (KD×Addr×V)}(e1:Jn dk=some k)(e2:jQ ks=some (kvs.map (·.1)))(rk:j1 K H ks (kvs.map fun p=>V.ref p.2.1))(rv:j1 K H vs (kvs.map (·.2.2)))(r1:j5 K H dk (.ref b))(r2:j5 K H d v):
  jQ (ug (kvs.map (·.1)) ks k dk)=some ((Yp kvs k b v).map (·.1))/\j1 K H (ug (kvs.map (·.1)) ks k dk) ((Yp kvs k b v).map fun p=>V.ref p.2.1)/\j1 K H (kl (kvs.map (·.1)) vs k d) ((Yp kvs k b v).map (·.2.2)):=by
 unfold ug kl Yp;rw[Uj];by_cases h:k∈kvs.map (·.1)
 ·rw[decide_eq_true h,if_pos h,if_pos h,if_pos rfl,gP (fun _=>rfl),gP (fun _=>rfl)];exact⟨e2,rk,Uk r2 rv⟩
 ·rw[decide_eq_false h,if_neg h,if_neg h,if_neg (by decide),uDa,uDa,uDa];exact⟨ZI e2 e1,rk.snoc r1,rv.snoc r2⟩
end
section
variable {X:Cx} {K:Fr} {e a b c d tg:Expr} {de da db dc dd dk:DE} {pos:Pos} {st:Stmt}
@[simp] def Wj(i:Nat)(dk de:DE)(Z:jb):Option Rs:=match Z[i]? with
 | some (.ow q (.dct ks vs))=>(de Z).bind fun d=>(dk Z).bind fun k=>(Jn k).bind fun x=>(jQ ks).bind fun qs=>if ks.length < sizeLine then some (.nx (Z.set i (.ow q (.dct (ug qs ks x k) (kl qs vs x d)))))else none
 | _=>none
set_option tactic.hygienic true in
theorem CG(h:PS X st (JQ (tE K de) (Gu (Jr i) (tE K dk) (qX K)))):PS X st (tS K Px (Wj i dk de)):=jy h fun D U H xx=>by
 obtain⟨H0,O0,Z,O,r,R,ed,f⟩:=xx;unfold Wj at ed;split at ed
 ·rename_i q ks vs hi;obtain⟨d,e1,ed⟩:=j0 ed;obtain⟨k,e2,ed⟩:=j0 ed;obtain⟨x,e3,ed⟩:=j0 ed;obtain⟨qs,e4,ed⟩:=j0 ed;split at ed
  ·rename_i hz;cases ed;obtain⟨l,hq,hs,⟨kvs,ep,hl,hk,rk,rv⟩,lo,h0⟩:=R.ow i _ _ hi;refine⟨H0,O0,Z,O,d,R,e1,fun v H1 s1 rd=>⟨_,hs,H0,O0,Z,O,k,R.grow s1,e2,fun w H2 s2 rw'=>?_⟩⟩;have s12:=s1.trans s2;have R':=R.grow s12;rw[hk]at e4;cases e4;obtain⟨b,rfl,rb⟩:=vL (O:=O) (.inl rw') e3;have hlen:kvs.length=ks.length:=by have:=rk.len;simpa using this
   obtain⟨p1,p2,p3⟩:=xw (b:=b) (qs:=[]) e3 hk (rk.same (ja s12)) (rv.same (ja s12)) rw' (rd.same (ja s2));refine⟨l,kvs,ep,b,ks,x,k,rfl,rfl,⟨s12 _ _ hl,hk,(rk.same (ja s12)).same J0⟩,rb,e3,by rw[hlen];exact hz,fun ep'=>f _ _ O (R'.change hi hq hs lo h0 ⟨_,ep',jc,p1,p2,p3⟩) ?_⟩;rw[Jt lo];exact ja s12
  ·cases ed
 ·cases ed
@[simp] noncomputable def qZ(_:jb):Option OD:=some (.dct [] [])
theorem Av:PE X (.Dict [] [] pos) (tF K qZ):=jj xr fun U H Q xx=>by
 obtain⟨H0,O0,Z,O,o,R,ed,q⟩:=xx;cases ed;exact fun p hp=>q p _ (jp hp _) hp ⟨[],0,jc,by rw[jQ];rfl,j1.nil,j1.nil⟩
noncomputable def vM:List D->Option OD
 | [.dct ks _]=>some (.lst ks)
 | _=>none
@[simp] theorem ED(ks vs:List D):vM [.dct ks vs]=some (.lst ks):=rfl
theorem xy:qG K (fun xs H Q=>∃a kvs ep,xs=[.ref a]/\H a=some (.dD kvs ep)/\∀l,H l=none->Q (.ref l) (upd H l (.lst (kvs.map fun p=>V.ref p.2.1)))) vM:=by
 intro O H ks ds vs d Q ak e q;unfold vM at e;split at e
 ·cases e;obtain⟨v,rfl,r⟩:=yk ak;obtain⟨p,kvs,ep,rfl,h1,h2,h3,h4⟩:=r.dct;exact⟨p,kvs,ep,rfl,h1,fun l hl=>q l _ (jp hl _) hl (JE hl h3)⟩
 ·cases e
noncomputable def Ul:D->Option (List D)
 | .dct ks _=>some ks
 | _=>none
@[simp] theorem EE(ks vs:List D):Ul (.dct ks vs)=some ks:=rfl
@[simp] def q_(de:DE)(Z:jb):Option (List D):=(de Z).bind Ul
theorem RP.dct{H0 H:Hp}{O0:FA}{O:List Addr}{ks vs:List D}{v:V}(r:RP K H0 O0 H O (.dct ks vs) v):∃p kvs ep,v=.ref p/\∀(H':Hp) (O':List Addr),j3 H0 H'->j3 (j4 H0 O0.l) (j4 H' O')->j3 (j4 H O) (j4 H' O')->H' p=some (.dD kvs ep)/\j1 K (j4 H' O') ks (kvs.map fun p=>V.ref p.2.1)/\j1 K (j4 H' O') vs (kvs.map (·.2.2)):=by
 rcases r with r | r | ⟨l,o,rfl,z2,z3⟩ | ⟨_,_,_,_,z2,_⟩;rotate_left 3;· cases z2
 ·rw[j5]at r;obtain⟨p,kvs,ep,rfl,w1,_,w3,w4⟩:=r;exact⟨p,kvs,ep,rfl,fun H' O' t0 t1 t2=>⟨(jt (t2 _ _ w1)).2,w3.same t2,w4.same t2⟩⟩
 ·rw[j5]at r;obtain⟨p,kvs,ep,rfl,w1,_,w3,w4⟩:=r;exact⟨p,kvs,ep,rfl,fun H' O' t0 t1 t2=>⟨(jt (t1 _ _ w1)).2,w3.same t1,w4.same t1⟩⟩
 ·cases o <;> cases z2;obtain⟨kvs,ep,w1,_,w3,w4⟩:=z3;exact⟨l,kvs,ep,rfl,fun H' O' t0 t1 t2=>⟨t0 _ _ w1,w3.same t1,w4.same t1⟩⟩
theorem Aw(h:PE X e (tP K de)):PI X tg e (yl K (q_ de)):=YG (xu h) fun U H R xx=>by
 obtain⟨H0,O0,Z,O,items,Re,ed,q⟩:=xx;obtain⟨x,e1,e2⟩:=j0 ed;refine⟨H0,O0,Z,O,x,Re,e1,fun v H1 s1 r=>?_⟩;have R1:=Re.grow s1;unfold Ul at e2;split at e2
 ·cases e2;obtain⟨p,kvs,ep,rfl,al⟩:=r.dct;refine⟨p,kvs,ep,rfl,(al H1 O R1.keep R1.in0 (j3.refl _)).1,q _ H1 s1 fun i H' O' t0 t1 t2 ta=>?_⟩;obtain⟨g1,g3,g4⟩:=al H' O' t0 t1 t2;refine⟨fun d hd=>?_,fun hi=>⟨g1,by have:=g3.len;rw[vYa]at this;rw[hi,this];exact wPa _⟩⟩;obtain⟨x',hx,rx⟩:=g3.get hd;rw[uAa]at hx;obtain⟨y,hy,rfl⟩:=Option.map_eq_some_iff.mp hx;refine⟨⟨g1,(uSa hy).1⟩,fun x'' H'' yy=>?_⟩;obtain⟨z1,z2⟩:=yy;rw[z1,z2 _ hy];exact⟨j3.refl _,rx⟩
 ·cases e2
noncomputable def Vc:D->Option (List D)
 | .dct ks vs=>some (List.zipWith (fun k v=>D.tup [k,v]) ks vs)
 | _=>none
@[simp] theorem DD(ks vs:List D):Vc (.dct ks vs)=some (List.zipWith (fun k v=>D.tup [k,v]) ks vs):=rfl
@[simp] def KC(de:DE)(Z:jb):Option (List D):=(de Z).bind Vc
set_option tactic.hygienic true in
theorem xz{ap cp:Pos}(h:PE X e (tP K de))(hb:attributeBase e "items" X.env (eval e X.env)=eval e X.env)(hl:(ap.endLine==cp.line)=true):PI X (.Tuple es x1 tp) (.Call (.Attribute e "items" ap) [] [] cp) (yl K (KC de)):=YG (Wh h hb hl) fun U H R xx=>by
 obtain⟨H0,O0,Z,O,items,Re,ed,q⟩:=xx;obtain⟨x,e1,e2⟩:=j0 ed;refine⟨H0,O0,Z,O,x,Re,e1,fun v H1 s1 r=>?_⟩;have R1:=Re.grow s1;unfold Vc at e2;split at e2
 ·cases e2;obtain⟨p,kvs,ep,rfl,al⟩:=r.dct;refine⟨p,kvs,ep,rfl,(al H1 O R1.keep R1.in0 (j3.refl _)).1,q _ H1 s1 fun i H' O' t0 t1 t2 ta=>?_⟩;obtain⟨g1,g3,g4⟩:=al H' O' t0 t1 t2;have l3:=g3.len;have l4:=g4.len;rw[vYa]at l3 l4;refine⟨fun d hd=>?_,fun hi=>⟨g1,by rw[hi,List.length_zipWith];lia⟩⟩;rw[List.getElem?_zipWith]at hd;split at hd
  ·rename_i dk dv hk hv;cases hd;obtain⟨x',hx,rx⟩:=g3.get hk;obtain⟨x2,hx2,rx2⟩:=g4.get hv;rw[uAa]at hx hx2;obtain⟨y,hy,rfl⟩:=Option.map_eq_some_iff.mp hx;rw[hy]at hx2;cases hx2;refine⟨⟨g1,(uSa hy).1⟩,fun x'' H'' yy=>?_⟩;obtain⟨pp,hpp,rfl,yy⟩:=yy;rw[yy _ hy];exact⟨jp hpp _,GY (fun z=>ta pp z hpp) hpp rx rx2⟩
  ·cases hd
 ·cases e2
@[simp] def Ax(de:DE)(Z:jb):Option (List D):=(de Z).bind fun d=>(vI d).bind fun l=>some l.reverse
theorem CH(hg:Gl X "reversed")(hm:X.mg "reversed" = none)(h:PE X a (tP K da))(hs:starEach [a] X.env=[(false,eval a X.env)])(hK:X.K=K:=by rfl):PI X tg (.Call (.Name "reversed" p) [a] [] pos) (yl K (Ax da)):=YG (Au hg hm (jB h Jc (by rw[hs];rfl)) hs) fun U H R xx=>by
 obtain⟨H0,O0,Z,O,items,Re,ed,q⟩:=xx;subst hK;obtain⟨x,e1,ed⟩:=j0 ed;obtain⟨l,e3,ed⟩:=j0 ed;cases ed;refine⟨H0,O0,Z,O,x,Re,e1,fun v H1 s1 r=>?_⟩;have R1:=Re.grow s1;unfold vI at e3;split at e3
 ·cases e3;obtain⟨p,xs,rfl,h1,h2⟩:=(r.at R1.keep R1.in0 (j3.refl _)).lst;have hlen:=h2.len;refine⟨p,xs,rfl,jr.of h1,q _ H1 s1 fun i H' O' t0 t1 t2 ta=>?_⟩;obtain⟨p',us,ea,g1,g2⟩:=(r.at t0 t1 t2).lst;cases ea;have hl2:=g2.len;refine⟨fun d hd=>?_,fun hi=>by rw[hi,List.length_reverse];show xs.length<=_;lia⟩;have hil:i < l.length:=by have:=(uSa hd).1;simpa using this
  rw[List.getElem?_reverse hil]at hd;obtain⟨u,hu,ru⟩:=g2.get hd;refine⟨⟨us,jr.of g1,by lia,by lia⟩,fun x' H'' yy=>?_⟩;obtain⟨z1,z2⟩:=yy;have z3:=z2 us (jr.of g1);rw[hlen,hu]at z3;cases z3;rw[z1];exact⟨j3.refl _,ru⟩
 ·cases e3
noncomputable def Zu:List D->Option (List Int)
 | []=>some []
 | .int i::r=>(Zu r).bind fun is=>some (i::is)
 | _=>none
set_option tactic.hygienic true in
theorem vO{H:Hp}:∀{l:List D} {is:List Int} {xs:List V},Zu l=some is->j1 K H l xs->xs=is.map V.int
 | [],is,xs,e,r=>by rw[Zu]at e;cases e;rw[j1]at r;exact r
 | d::l,is,xs,e,r=>by
  unfold Zu at e;split at e
  ·rename_i h;cases h
  ·rename_i h;cases h;obtain⟨js,e1,e2⟩:=j0 e;cases e2;rw[j1]at r;obtain⟨v,vs,rfl,r1,r2⟩:=r;rw[j5]at r1;rw[r1,vO e1 r2];rfl
  ·cases e
def km:List D->Option D
 | [.lst l]=>(Zu l).bind fun is=>some (.int is.sum)
 | _=>none
@[simp] theorem fP(l:List D):km [.lst l]=(Zu l).bind fun is=>some (.int is.sum):=rfl
theorem VQ(is:List Int):∀n,n<=is.length->preSum (fun i=>(is[i]?).getD 0) n=(is.take n).sum
 | 0,_=>by simp[preSum]
 | n+1,h=>by
  rw[preSum,VQ is n (by lia),List.take_succ_eq_append_getElem (by lia),List.sum_append];simp[show n < is.length by lia]
theorem Wk(hc:X.calm=true):JG X (.builtin "sum") (fun xs H Q=>∃(p:Addr) (is:List Int),xs=[.ref p]/\jr X.K H p (is.map V.int)/\Q (.int is.sum) H):=by
 intro pins s U H xs us Q I r h;obtain⟨p,is,rfl,hq,q⟩:=h;cases r with
 | cons r rr=>
  cases rr;cases r;obtain⟨its,rv,pl,hz⟩:=I.list hq;refine call_sum_walkG (wpAny_pyIter_list pl.isList ?_);have hp:p < s.heap.objs.size:=by obtain⟨o,ho,_⟩:=pl.isList;exact wLa ho
  have hlen:its.length=is.length:=by have:=rv.length;simp at this;lia
  refine⟨s.heap.objs.size,_,_,_,_,_,fun i=>(is[i]?).getD 0,rfl,Walks.list (A:=X.A.in1) (I.ok.hd hc) s.heap.objs.size p (wTa hp) its.toArray,⟨⟨_,wJa _ rfl,rfl,rfl⟩,Heap.IsList.at pl.isList fun o e=>wIa _ e⟩,?_,?_,fun h' tk t' hk=>?_⟩
  ·intro b hb;rw[uPa];simp only[List.mem_cons,List.not_mem_nil,or_false]at hb;rcases hb with rfl | rfl
   ·exact Nat.lt_succ_self _
   ·exact Nat.lt_succ_of_lt hp
  ·intro i v hv;have hv:its[i]?=some v:=by simpa using hv
   have hi:i < is.length:=by rw[<-hlen];exact(uSa hv).1
   obtain⟨u,eu,ru⟩:=rv.get (i:=i) (x:=V.int is[i]) (by simp[hi]);rw[hv]at eu;cases eu;obtain⟨t,rfl⟩:=ru;exact⟨t,by simp[hi]⟩
  ·refine⟨.int is.sum,H,I.kept (t':=tk) (h':=h') (fun b o e=>hk b o ?_ (wIa _ e)),⟨t',?_⟩,q⟩
   ·intro z;have z:b=s.heap.objs.size:=by simpa using z
    exact wUa _ (z▸wLa e)
   ·rw[uLa,hlen,VQ is _ (Nat.le_refl _),List.take_length]
theorem CI:Fn K (fun xs H Q=>∃(p:Addr) (is:List Int),xs=[.ref p]/\jr K H p (is.map V.int)/\Q (.int is.sum) H) km:=by
 intro O H ks ds vs d Q ak _ e q;unfold km at e;split at e
 ·obtain⟨is,e1,e2⟩:=j0 e;cases e2;obtain⟨v,rfl,r⟩:=yk ak;obtain⟨p,xs,rfl,h1,h2⟩:=r.lst;have:=vO e1 h2;subst this;exact⟨p,is,rfl,jr.of h1,q _ H (j3.refl H) (by rw[j5])⟩
 ·cases e
end
end DS
namespace L2
open PySem PySem.Spec PyProof.Rows
section
theorem Ay(bs:List Bool)(n:Nat)(hn:n=bs.length):((List.range n).any fun i=>(bs[i]?).getD true)=bs.any id:=by
 subst hn;rw[Bool.eq_iff_iff];simp only[List.any_eq_true,List.mem_range,id];constructor
 ·rintro⟨i,hi,e⟩;exact⟨bs[i],List.getElem_mem hi,by simpa[hi]using e⟩
 ·rintro⟨x,hx,e⟩;obtain⟨i,hi,rfl⟩:=List.mem_iff_getElem.mp hx;exact⟨i,hi,by simpa[hi]using e⟩
theorem Wl(hc:X.calm=true):JG X (.builtin "any") (fun xs H Q=>∃(p:Addr) (bs:List Bool),xs=[.ref p]/\jr X.K H p (bs.map V.bl)/\Q (.bl (bs.any id)) H):=by
 rintro pins s U H _ us Q I r ⟨p,bs,rfl,hq,q⟩;cases r with
 | cons r rr=>
  cases rr;cases r;obtain⟨its,rv,pl,hz⟩:=I.list hq;have hp:p < s.heap.objs.size:=by
   obtain⟨o,ho,_⟩:=pl.isList;exact wLa ho
  have hlen:its.length=bs.length:=by
   have:=rv.length;rw[vYa]at this
   lia
  have W:=Walks.list (prog:=X.prog) (w:=X.w) (A:=X.A.in1) (I.ok.hd hc) s.heap.objs.size p (wTa hp) its.toArray;refine call_any_walk (wpAny_pyIter_list pl.isList ⟨_,_,_,_,_,_,fun i=>(bs[i]?).getD true,rfl,W,?_,?_,?_⟩)
  ·exact⟨⟨_,wJa _ rfl,rfl,rfl⟩,pl.isList.at fun o e=>wIa _ e⟩
  ·intro i v s' Q' E' hv hq';have hv:its[i]?=some v:=by simpa using hv
   have hi:i < bs.length:=by
    rw[<-hlen];exact(uSa hv).1
   obtain⟨u,eu,ru⟩:=rv.get (i:=i) (x:=V.bl bs[i]) (by simp[hi]);cases hv.symm.trans eu;cases ru;refine wpAny_truthy_bool ?_;have hq':Q' ((bs[i]?).getD true) s':=hq';rwa [List.getElem?_eq_getElem hi]at hq'
  ·intro h' tk hk;rw[Ay bs _ (by rw[uLa,hlen])];have J:Inv X pins U H { s with heap:=h',toks:=tk }:=I.turnedL (t':=tk) (ch:=[s.heap.objs.size]) (fun b hb=>by
    rw[List.mem_singleton]at hb;subst hb;exact I.fpOk (wPa _) (I.hok.fresh (wPa _))) fun c o hc' e'=>hk c o hc' (wIa _ e')
   exact⟨.bl (bs.any id),H,J,rfl,q⟩
end
end L2
namespace DS
open PySem L2
section
@[simp] def Wm:List D->Option D
 | [.lst l]=>(ZT l).bind fun bs=>some (.bl (bs.any id))
 | _=>none
theorem CJ:Fn K (fun xs H Q=>∃(p:Addr) (bs:List Bool),xs=[.ref p]/\jr K H p (bs.map V.bl)/\Q (.bl (bs.any id)) H) Wm:=by
 intro O H ks ds vs d Q h hn e q;unfold Wm at e;split at e
 ·obtain⟨bs,e1,e2⟩:=j0 e;cases e2;obtain⟨v,rfl,r⟩:=yk h;obtain⟨p,xs,rfl,h1,h2⟩:=r.lst;rw[Z7 e1 h2]at h1;exact⟨p,bs,rfl,jr.of h1,q _ H (j3.refl H) (by rw[j5])⟩
 ·cases e
end
end DS
namespace L2
open PySem PySem.Spec PyProof.Rows
section
variable {X:Cx}
theorem Az:jw X (compareOp .Is) (fun x y H Q=>∃a b,x=.bl a/\y=.bl b/\Q (.bl (a==b)) H):=by
 intro pins s U H x y v u Q I rx ry h;obtain⟨a,b,rfl,rfl,q⟩:=h;cases rx;cases ry;exact wpAny_is_plain rfl (ju I q (by cases a <;> cases b <;> rfl))
theorem xA:jw X (compareOp .IsNot) (fun x y H Q=>∃a b,x=.bl a/\y=.bl b/\Q (.bl (!(a==b))) H):=by
 intro pins s U H x y v u Q I rx ry h;obtain⟨a,b,rfl,rfl,q⟩:=h;cases rx;cases ry;exact wpAny_isNot_plain rfl (ju I q (by cases a <;> cases b <;> rfl))
end
end L2
namespace DS
open PySem PySem.Spec PyProof.Rows L2
section
variable {K:Fr}
noncomputable def kn:D->D->Option D
 | .bl a,.bl b=>some (.bl (a==b))
 | _,_=>none
@[simp] theorem fq(a b:Bool):kn (.bl a) (.bl b)=some (.bl (a==b)):=rfl
noncomputable def uh:D->D->Option D
 | .bl a,.bl b=>some (.bl (!(a==b)))
 | _,_=>none
@[simp] theorem EF(a b:Bool):uh (.bl a) (.bl b)=some (.bl (!(a==b))):=rfl
theorem CK:jH K (fun x y H Q=>∃a b,x=.bl a/\y=.bl b/\Q (.bl (a==b)) H) kn:=by
 intro O H a b d x y Q ha hb _ e q;unfold kn at e;split at e
 ·cases e;exact⟨_,_,ha.bl,hb.bl,q _ H (j3.refl H) (by rw[j5])⟩
 ·cases e
theorem AA:jH K (fun x y H Q=>∃a b,x=.bl a/\y=.bl b/\Q (.bl (!(a==b))) H) uh:=by
 intro O H a b d x y Q ha hb _ e q;unfold uh at e;split at e
 ·cases e;exact⟨_,_,ha.bl,hb.bl,q _ H (j3.refl H) (by rw[j5])⟩
 ·cases e
theorem xB:PS X s (tS K Px j_):=fun _ _ _ _ _ _ ⟨_,_,_,_,_,_,ed,_⟩=>by cases ed
end
end DS
namespace DS
open PySem PySem.Spec PyProof.Rows L2 PySem.SeqAt
end DS
namespace L2
open PySem PySem.Spec PyProof.Rows
section
def Vd:V->List V->Hp->VK->Prop:=fun x vs H Q=>∃l xs i y,x=.ref l/\vs=[.int i,y]/\H l=some (.lst xs)/\0<=i/\i<=(xs.length:Int)/\xs.length < 1000000/\Q .non (upd H l (.lst (xs.take i.toNat++y::xs.drop i.toNat)))
theorem ko:1000000 < sizeLine:=by decide
set_option tactic.hygienic true in
theorem KG:qj X "list.insert" Vd:=by
 intro pins s U H x vs v us Q I rx rv h;obtain⟨l,xs,i,y,rfl,rfl,hH,h0,h1,hz,q⟩:=h;cases rx;cases rv with
 | cons r1 rr=>
 cases rr with
 | cons r2 rr=>
 cases rr;obtain⟨t,rfl⟩:=r1;rename_i u;obtain⟨z,its,n,r,hl,e⟩:=I.lstM hH;have sl:=ko;have hk:i.toNat<=its.length:=by lia
 refine call_meets F.slot_list_insert ⟨_,e,rfl⟩ F.entry_list_insert (F.args_list_insert_3 _ _ _) (AutoListH.list_insert_list_int_val_1 l its.toArray n i t u (by rw[fitsIndex_both (by lia) (by lia)];decide) (by rw[uLa];lia)) ⟨e,?_⟩;refine⟨.non,_,I.lset (its':=its.take i.toNat++u::its.drop i.toNat) hH e ?_ ?_ ?_,rfl,q⟩
 ·show(have k:=if i < 0 then(i+((its.toArray.size:Nat):Int)).toNat else min i.toNat its.toArray.size;(its.toArray.extract 0 k).push u++its.toArray.extract k)=_;dsimp only;rw[if_neg (by lia),uLa,Nat.min_eq_left hk];apply Array.ext';simp;exact List.take_of_length_le (by rw[uNa];lia)
 ·exact(r.take i.toNat).append (.cons r2 (r.drop i.toNat))
 ·rw[vZa,vXa,uOa,uNa]
  lia
end
end L2
namespace DS
open PySem PySem.Spec PyProof.Rows L2
section
variable {X:Cx} {K:Fr} {st:Stmt} {de dx:DE}
@[simp] def Wn(i:Nat)(dx de:DE)(Z:jb):Option Rs:=match Z[i]? with
 | some (.ow q (.lst ds))=>(dx Z).bind fun x=>(de Z).bind fun d=>match x with
  | .int k=>if 0<=k/\k<=(ds.length:Int)/\ds.length < 1000000 then some (.nx (Z.set i (.ow q (.lst (ds.take k.toNat++d::ds.drop k.toNat)))))else none
  | _=>none
 | _=>none
set_option tactic.hygienic true in
theorem Wo{i:Nat}(h:PS X st (zq (gD K "list" Vd (Jr i) (Y8 (tR K dx) (Y8 (tE K de) zr))))):PS X st (tS K Px (Wn i dx de)):=jy h fun D U H xx=>by
 obtain⟨H0,O0,Z,O,r,R,ed,f⟩:=xx;unfold Wn at ed;split at ed
 ·rename_i q ds hi;obtain⟨x,e1,ed⟩:=j0 ed;obtain⟨d,e2,ed⟩:=j0 ed;split at ed
  ·split at ed
   ·rename_i hz;cases ed;obtain⟨l,hq,hs,⟨vs,hl,rp⟩,lo,h0⟩:=R.ow i _ _ hi;refine⟨_,hs,.inl ⟨rfl,_,jr.of hl⟩,H0,O0,Z,O,_,R,e1,fun w H1 s1 r1=>⟨H0,O0,Z,O,d,R.grow s1,e2,fun v H' s rv=>?_⟩⟩;have s':=s1.trans s;have R':=R.grow s';have rp':=rp.same (ja s');refine⟨l,vs,_,v,rfl,by rw[r1.int],s' _ _ hl,hz.1,by rw[rp.len];exact hz.2.1,by rw[rp.len];exact hz.2.2,f _ _ O (R'.change hi hq hs lo h0 ⟨_,jc,(rp'.take _).app (j1.cons rv (rp'.drop _))⟩) ?_⟩;rw[Jt lo];exact ja s'
   ·cases ed
  ·cases ed
 ·cases ed
end
end DS
namespace L2
open PySem PySem.Spec PyProof.Rows
theorem CL(ho:PE X o ta)(ha:PA X [k,e] t)
  (hfew:((backTo pos (starEach [k,e] X.env)).all (fun x=>!x.1)&&(backToKw pos (keywordEach [] X.env)).all (fun x=>x.1.isSome)&&decide (([k,e]:List Expr).length+([]:List Keyword).length+(if ([]:List Keyword).isEmpty then 0 else 1) < 30))=true)
  (hline:(apos.endLine==pos.line)=true) (hs:starEach [k,e] X.env=(false,eval k X.env)::starEach [e] X.env) (hplain:(backTo pos (starEach [e] X.env)).any (·.1)=false) (hbase:attributeBase o "insert" X.env (eval o X.env)=eval o X.env:=by rfl):PE X (.Call (.Attribute o "insert" apos) [k,e] [] pos) (gD X.K "list" Vd ta t):=
 ub PySem.F.plainAttrs_list PySem.F.slot_list_insert PySem.F.type_list_insert KG ho ha hbase hfew hline hs hplain
end L2
namespace L2
open PySem
def AB(f:Obj->Obj):Prop:=∀o,(f o).dict=o.dict/\(f o).isFreed=o.isFreed
def DK{α:Type}:Sem α->Prop
 | .pure _=>True
 | .raise _=>True
 | .unsupported _=>True
 | .finish _=>True
 | .rule _ k=>DK (k ())
 | .at _ k=>DK (k ())
 | .load _ _ k=>∀o,DK (k o)
 | .update _ _ f k=>AB f/\DK (k ())
 | .alloc _ k=>∀a,DK (k a)
 | .loadIfAlive _ k=>∀o,DK (k o)
 | .point _ k=>DK (k ())
 | .register _ _=>True
 | .fresh k=>∀t,DK (k t)
 | .ask k=>∀t,DK (k t)
 | .choose _ _ k=>∀t,DK (k t)
 | .os _ _ k=>∀t,DK (k t)
 | .call _ _ _ _ _=>False
 | .handled _ k=>∀t,DK (k t)
 | .newGen _ _=>False
 | .genState _ k=>∀t,DK (k t)
 | .resume _ _ _ _=>False
 | .yield _ _ _ _=>True
 | .stack k=>∀t,DK (k t)
 | .fork _ _=>True
 | .thread k=>∀t,DK (k t)
 | .await _ _ _ _ _=>True
theorem DK.bind{α β:Type}{f:α->Sem β}(hf:∀a,DK (f a)):∀{t:Sem α},DK t->DK (t.bind f):=by
 intro t;induction t with
 | pure a=>exact fun _=>hf a
 | raise e=>exact fun _=>trivial
 | unsupported w=>exact fun _=>trivial
 | finish e=>exact fun _=>trivial
 | rule t k ih=>exact fun h=>ih () h
 | «at» p k ih=>exact fun h=>ih () h
 | load a p k ih=>exact fun h o=>ih o (h o)
 | update a p g k ih=>exact fun h=>⟨h.1,ih () h.2⟩
 | alloc o k ih=>exact fun h a=>ih a (h a)
 | loadIfAlive a k ih=>exact fun h a=>ih a (h a)
 | point l k ih=>exact fun h=>ih () h
 | register a k ih=>exact fun _=>trivial
 | fresh k ih=>exact fun h a=>ih a (h a)
 | ask k ih=>exact fun h a=>ih a (h a)
 | choose s n k ih=>exact fun h a=>ih a (h a)
 | os q l k ih=>exact fun h a=>ih a (h a)
 | call c h g l k ih=>exact fun h=>h.elim
 | handled o k ih=>exact fun h a=>ih a (h a)
 | newGen c k ih=>exact fun h=>h.elim
 | genState g k ih=>exact fun h a=>ih a (h a)
 | resume g r l k ih=>exact fun h=>h.elim
 | yield v g l k ih=>exact fun _=>trivial
 | stack k ih=>exact fun h a=>ih a (h a)
 | fork c k ih=>exact fun _=>trivial
 | thread k ih=>exact fun h a=>ih a (h a)
 | await a t d l k ih=>exact fun _=>trivial
def yt(h h':Heap):Prop:=∀b o,h.get? b=some o->∃o',h'.get? b=some o'/\o'.dict=o.dict
theorem yt.trans{h1 h2 h3:Heap}(a:yt h1 h2)(b:yt h2 h3):yt h1 h3:=fun c o e=>by
 obtain⟨o1,e1,d1⟩:=a c o e;obtain⟨o2,e2,d2⟩:=b c o1 e1;exact⟨o2,e2,d2.trans d1⟩
theorem xD(h:Heap)(o:Obj):yt h (h.push o):=fun b u e=>⟨u,wIa _ e,rfl⟩
theorem AD(h:Heap)(a:Addr){f:Obj->Obj}(k:AB f):yt h (h.update a f):=fun b u e=>by
 by_cases z:a=b
 ·subst z;refine⟨f u,vUa f e ?_,(k u).1⟩;rw[(k u).2];exact(Heap.get?_some_iff.mp e).2
 ·exact⟨u,(wKa h f z).trans e,rfl⟩
theorem CM{α:Type}{M:Model}{Γ:Ctx}{Q:α->Pos->Shared->Prop}{E:Value->Pos->Shared->Prop}:∀(t:Sem α) (p:Pos) (s:Shared),DK t->Sem.wp M Γ t Q E p s->Sem.wp M Γ t (fun a p' s'=>Q a p' s'/\yt s.heap s'.heap) E p s:=by
 have mono:∀(t:Sem α) (p:Pos) (s s0:Shared),yt s0.heap s.heap->Sem.wp M Γ t (fun a p' s'=>Q a p' s'/\yt s.heap s'.heap) E p s->Sem.wp M Γ t (fun a p' s'=>Q a p' s'/\yt s0.heap s'.heap) E p s:=fun t p s s0 k h=>Sem.wp_mono M Γ t (fun a p' s' z=>⟨z.1,k.trans z.2⟩) (fun _ _ _ z=>z) p s h;intro t;induction t with
 | pure a=>exact fun p s _ h=>⟨h,fun b o e=>⟨o,e,rfl⟩⟩
 | raise e=>exact fun p s _ h=>h
 | unsupported w=>exact fun p s _ h=>h
 | finish e=>exact fun p s _ h=>h
 | rule t k ih=>exact fun p s d h=>ih () p s d h
 | «at» p k ih=>exact fun _ s d h=>ih () p s d h
 | load a pt k ih=>exact fun p s d h=>by obtain⟨o,e,h⟩:=h;exact⟨o,e,ih o p s (d o) h⟩
 | update a pt g k ih=>exact fun p s d h=>⟨h.1,mono (k ()) p { s with heap:=s.heap.update a g } s (AD s.heap a d.1) (ih () p { s with heap:=s.heap.update a g } d.2 h.2)⟩
 | alloc o k ih=>exact fun p s d h=>mono (k s.heap.objs.size) p { s with heap:=s.heap.push o } s (xD s.heap o) (ih _ p { s with heap:=s.heap.push o } (d _) h)
 | loadIfAlive a k ih=>exact fun p s d h=>ih _ p s (d _) h
 | point l k ih=>exact fun p s d h=>ih () p s d h
 | register a k ih=>exact fun p s d h=>h
 | fresh k ih=>exact fun p s d h=>ih _ p { s with toks:=s.toks+1 } (d _) h
 | ask k ih=>exact fun p s d h=>ih _ p s (d _) h
 | choose src n k ih=>exact fun p s d h=>⟨h.1,ih _ p { s with drawn:=s.drawn.bump src } (d _) h.2⟩
 | os q l k ih=>exact fun p s d h=>ih _ p { s with os:=(Os.step s.os q).1 } (d _) h
 | call c hh g l k ih=>exact fun p s d h=>d.elim
 | handled o k ih=>exact fun p s d h=>ih _ p s (d _) h
 | newGen c k ih=>exact fun p s d h=>d.elim
 | genState g k ih=>exact fun p s d h=>by obtain⟨st,e,h⟩:=h;exact⟨st,e,ih _ p s (d _) h⟩
 | resume g r l k ih=>exact fun p s d h=>d.elim
 | yield v g l k ih=>exact fun p s d h=>h
 | stack k ih=>exact fun p s d h=>ih _ p s (d _) h
 | fork c k ih=>exact fun p s d h=>h
 | thread k ih=>exact fun p s d h=>ih _ p s (d _) h
 | await a t d l k ih=>exact fun p s d h=>h
theorem Yq{α:Type}{M:Model}{A:Around}{t:Sem α}{Q:α->Shared->Prop}{E:Value->Shared->Prop}{s:Shared}(d:DK t)(h:wpAny M A t Q E s):wpAny M A t (fun a s'=>Q a s'/\yt s.heap s'.heap) E s:=fun Γ p hΓ=>CM t p s d (h Γ p hΓ)
theorem yu{α β:Type}{x:Sem α}{f:α->Sem β}(hx:DK x)(hf:∀a,DK (f a)):DK (x >>= f):=DK.bind hf hx
theorem ge(v:Value):DK (fieldsOf v):=by
 unfold fieldsOf
 repeat (first | exact trivial | exact dkp _ | refine yu ?_ fun _=>?_ | split | (intro _;exact trivial))
theorem zC(v:Value)(i:Nat):DK (field v i):=by
 unfold field;refine yu (ge v) fun vs=>?_;split <;> exact trivial
theorem Um(f:Array Value->Array Value):AB (Obj.mapFields f):=fun o=>by
 obtain⟨c,d,dt,s⟩:=o;cases dt <;> exact⟨rfl,rfl⟩
theorem ZJ(v:Value)(i:Nat)(x:Value):DK (setField v i x):=by
 unfold setField;split
 ·unfold updateField
  repeat (first | exact trivial | exact dkp _ | exact⟨Um _,trivial⟩ | refine yu ?_ fun _=>?_ | split | (intro _;exact trivial))
 ·exact trivial
theorem v5:DK stack:=fun _=>trivial
theorem Yr(e:Value)(fr:Option Addr):DK (setFlight e fr):=by
 unfold setFlight;refine yu (zC e 1) fun tb=>?_;split
 ·exact ZJ _ _ _
 ·exact trivial
theorem KH(env:Env)(outer:List Env):DK (behindIsImport env outer):=by
 unfold behindIsImport
 repeat (first | exact trivial | exact dkp _ | exact zC _ _ | refine yu ?_ fun _=>?_ | split)
theorem xF(env:Env)(b:Bool)(outer:List Env):DK (keptBack env b outer):=by
 unfold keptBack;split
 ·unfold underTheClaimsCaller
  repeat (first | exact trivial | exact dkp _ | exact v5 | refine yu ?_ fun _=>?_ | split)
 ·exact trivial
theorem Uo:∀l:List Env,DK (readyFrames l)
 | []=>trivial
 | env::outer=>by
  unfold readyFrames;split
  ·refine yu (fun _=>trivial) fun o=>?_;split
   ·exact trivial
   ·refine yu (KH _ _) fun b=>yu (xF _ _ _) fun v=>yu ?_ fun _=>Uo outer;exact⟨fun o=>⟨rfl,by obtain⟨c,d,dt,s⟩:=o;cases dt <;> rfl⟩,trivial⟩
  ·exact trivial
theorem Ve(l:List Env):DK (frameObject l):=by
 unfold frameObject;split
 ·exact trivial
 ·exact yu (Uo _) fun _=>trivial
theorem kq(env:Env):DK (frameOf env):=by
 unfold frameOf frameEnvs;refine yu (yu v5 fun _=>trivial) fun l=>yu (Ve _) fun o=>?_;split <;> exact trivial
theorem Wp(f:Addr)(b:Bool):DK (entryPlaceOf f b):=by
 unfold entryPlaceOf;refine yu v5 fun acts=>?_;split <;> exact trivial
theorem Wq(a b c d e:Value)(l:List Value):DK (EntryCells.newEntry a b c d e l):=by
 unfold EntryCells.newEntry newFields newObj newObjAsIs
 repeat (first | exact trivial | exact dkp _ | refine yu ?_ fun _=>?_ | (intro _;exact trivial) | split)
theorem gQ(e:Value)(env:Env):DK (noteFrame e env):=by
 unfold noteFrame;split
 ·refine yu (zC e 1) fun head=>?_
  repeat (first | exact trivial | exact zC _ _ | exact ZJ _ _ _ | exact kq _ | exact Wp _ _ | exact Wq _ _ _ _ _ _ | refine yu ?_ fun _=>?_ | split)
 ·exact trivial
theorem vP(env:Env)(e:Value):DK (leaving env e):=by
 unfold leaving;exact yu (gQ e env) fun _=>Yr e none
end L2
namespace L2
open PySem PySem.Spec PyProof.Rows
theorem jC.ex{P:Program}{w:World}{H:Hp}{h:Heap}{a:Addr}{o:HO}(x:jC P w H h a o):∃u,h.get? a=some u:=by
 cases o with
 | lst xs=>obtain⟨_,_,_,_,e⟩:=x;exact⟨_,e⟩
 | tup xs=>obtain⟨_,_,_,_,e,_⟩:=x;exact⟨_,e⟩
 | dK kvs ep=>obtain⟨_,_,_,_,o,_,e,_⟩:=x;exact⟨_,e⟩
 | mem K l m=>obtain⟨_,_,_,_,_,o,_,_,e,_⟩:=x;exact⟨_,e⟩
 | dD kvs ep=>obtain⟨_,_,_,_,_,o,_,e,_⟩:=x;exact⟨_,e⟩
 | set S n=>obtain⟨o,_,_,_,e,_⟩:=x;exact⟨_,e⟩
 | ins C dx fs=>obtain⟨_,_,_,e,_⟩:=x;exact⟨_,e⟩
 | own y=>exact x
 | xd fs=>obtain⟨_,⟨_,_,_,e,_⟩,_⟩:=x;exact⟨_,e⟩
 | rng lo hi=>obtain⟨_,_,_,e⟩:=x;exact⟨_,e⟩
 | frz ob u=>obtain⟨e,_⟩:=x;exact⟨_,e⟩
 | tbl ps=>exact⟨_,(show h.get? a=some _ from x)⟩
 | met f y=>exact⟨_,(show h.get? a=some _ from x)⟩
 | ext φ=>obtain⟨_,e,_⟩:=x;exact e
structure Fly (P:Program) (w:World) (outer:List Env) (H:Hp) (s:Shared) (H':Hp) (e:Addr) (cls:Value) (s':Shared):Prop where
 os:s'.os=s.os
 bare:AllBare s'.gens
 un:Un (jL outer) [] H H' s.heap s'.heap
 hok:J2 P w H' s'.heap
 fly:∃B a0,Heap.FlyingW B outer e cls a0 s'.heap/\(∀b u,H' b=some u->∃o,B.get? b=some o)/\∀b o,s.heap.get? b=some o->b∉jL outer->∃o',B.get? b=some o'
def J3(P:Program)(w:World):ze:=fun outer H s E ev s'=>∃e cls H' od,ev=.ref e/\Fly P w outer H s H' e cls s'/\(∀d,od=some d->∃oe,s'.heap.get? e=some oe/\oe.dict=some d)/\E cls od H'
section
variable {P:Program} {w:World} {K:uXa} {mg:Str->Option Value} {base:Heap} {N:List Str} {qual:Str} {scope:Scope} {f:Addr} {cd:Value} {A:Around} {outer:List Env} {s0:Shared} {H0:Hp} {E:XK}
theorem gR{od:Option Addr}{pins:List (Addr×Obj)}{U:St}{H H1:Hp}{s:Shared}{e t:Addr}{cls:Value}{oe:Obj}(I:Inv (jS (J3 P w) P w K mg base N qual scope f cd A outer s0 H0 E) pins U H s)
  (he:s.heap.get? e=some oe) (hc:oe.cls=cls) (hd:oe.data=.fields #[.ref t,.none,.none,.none,.bool false,.none]) (h0:s0.heap.get? e=none) (h1:H1 e=none)
  (hH:∀b,H1 b=H b \/ (H1 b=none/\∃φ,H b=some (.ext φ))) (hod:∀d,od=some d->oe.dict=some d) (hE:E cls od H1):(jS (J3 P w) P w K mg base N qual scope f cd A outer s0 H0 E).xe (.ref e) s:=by
 have sub:∀b u,H1 b=some u->H b=some u:=fun b u q=>(hH b).elim (fun z=>z▸q) fun z=>by rw[z.1]at q;cases q
 have bk:∀b u,H b=some u->(∀φ,u≠.ext φ)->H1 b=some u:=fun b u q n=>(hH b).elim (fun z=>z.trans q) fun⟨_,φ,z⟩=>vDa (vFa (q.symm.trans z)) (n φ);have fr:s.heap.FunFrames base (envOfC qual scope s0.heap.objs.size f cd::outer):=I.stack;have memb:∀b,b∈jL (envOfC qual scope s0.heap.objs.size f cd::outer)->b=s0.heap.objs.size \/ b∈jL outer:=fun b hb=>by
  unfold jL at hb;rw[List.filterMap_cons]at hb;exact uTa hb
 have memr:∀b,b∈jL outer->b∈jL (envOfC qual scope s0.heap.objs.size f cd::outer):=fun b hb=>by unfold jL;rw[List.filterMap_cons];exact wMa _ hb
 have hL0:s0.heap.get? s0.heap.objs.size=none:=Heap.get?_none_of_le (wPa _);show wpAny (model P w) (A.deeper (envOfC qual scope s0.heap.objs.size f cd)) (leaving (envOfC qual scope s0.heap.objs.size f cd) (.ref e)) _ _ s;refine wCa (Yq (Q:=fun _ s'=>∃h',s'={ s with heap:=h' }/\Heap.LeftW (PySem.W.hideAll s.heap (e::jL (envOfC qual scope s0.heap.objs.size f cd::outer))) (envOfC qual scope s0.heap.objs.size f cd::outer) e oe.cls (.ref t) s.heap h') (vP _ _) (wpAny_leaving_firstW (base:=PySem.W.hideAll s.heap (e::jL (envOfC qual scope s0.heap.objs.size f cd::outer))) (a0:=.ref t) (outer:=outer) (L:=s0.heap.objs.size) I.ok.frames
  (PySem.W.funFrames_hide fr fun env hv b hb=>wMa _ (List.mem_filterMap.mpr ⟨env,hv,hb⟩)) rfl he (fun b o q=>PySem.W.of_hideAll _ q) (PySem.W.hideAll_none _ wNa) hd rfl rfl fun h' z=>⟨h',rfl,z⟩)) (fun _ s' zz=>?_) (fun _ _ z=>z)
 obtain⟨⟨h',rfl,x1,⟨_,_,x2⟩,x3,x4⟩,dk⟩:=zz;have kB:∀b o,s.heap.get? b=some o->b≠e->b≠s0.heap.objs.size->b∉jL outer->h'.get? b=some o:=fun b o q n0 n1 n2=>x1 b o (PySem.W.hideAll_get _ q fun z=>(uTa z).elim n0 fun z=>(memb b z).elim n1 n2);have ks:∀b o,b∈jL outer->s.heap.get? b=some o->∃sl,h'.get? b=some { o with slots:=sl }:=fun b o hb q=>by
  obtain⟨_,o',ho',hd⟩:=fr.mem (b:=b) (memr b hb);rw[q]at ho';cases ho';exact x4 b o q hd
 have YA:∀b u,H1 b=some u->b≠e/\b≠s0.heap.objs.size/\b∉jL outer:=fun b u q=>by
  have z:=fun hb=>I.stkFree b hb;refine⟨(fun n=>by rw[n,h1]at q;cases q),fun n=>?_,fun n=>?_⟩
  ·have:=z (by show b∈jL (envOfC qual scope s0.heap.objs.size f cd::outer);unfold jL;rw[List.filterMap_cons];exact List.mem_cons.mpr (.inl n));rw[sub b u q]at this;cases this
  ·have:=z (memr b n);rw[sub b u q]at this;cases this
 have u:=I.base;have u1:Un (jL outer) [] H0 H1 s0.heap s.heap:=⟨u.keep,u.slot,(fun b o q n hx=>(hH b).elim (fun z=>z.trans (u.free b o q n hx)) fun z=>z.1),u.there,fun b xs q=>bk b _ (u.tups b xs q) (fun _ z=>nomatch z),fun b o xs q=>bk b _ (u.frzs b o xs q) (fun _ z=>nomatch z),fun b ps q=>let ⟨m,z⟩:=u.tbls b ps q;⟨m,bk b _ z (fun _ z=>nomatch z)⟩⟩
 have hok1:J2 P w H1 s.heap:=fun b o q=>(I.hok b o (sub b o q)).stay (fun _ _ _ r=>r) (fun c r=>bk c _ r (fun _ z=>nomatch z)) fun c u t r=>bk c _ r (fun _ z=>by subst z;exact t);have ne0:∀b o,s0.heap.get? b=some o->b≠e/\b≠s0.heap.objs.size:=fun b o q=>⟨(fun z=>by rw[z,h0]at q;cases q),(fun z=>by rw[z,hL0]at q;cases q)⟩
 have hdk:∀d,od=some d->∃ob,h'.get? e=some ob/\ob.dict=some d:=fun d q=>by
  obtain⟨ob,z1,z2⟩:=dk e oe he;exact⟨ob,z1,z2.trans (hod d q)⟩
 refine⟨e,cls,H1,od,rfl,⟨I.os,I.bare,⟨fun b o q n hb hx=>kB b o (u1.keep b o q n hb hx) (ne0 b o q).1 (ne0 b o q).2 hb,fun b o q n hb hx=>?_,u1.free,fun b o q hx=>?_,u1.tups,u1.frzs,u1.tbls⟩,fun b o q=>?_,⟨_,_,⟨x1,PySem.W.hideAll_none _ wNa,x2,hc▸x3⟩,fun b o q=>?_,fun b o q n=>?_⟩⟩,hdk,hE⟩
 ·obtain⟨sl,z⟩:=u1.slot b o q n hb hx;obtain⟨sl',z'⟩:=ks b _ hb z;exact⟨sl',z'⟩
 ·obtain⟨o',z⟩:=u1.there b o q hx;by_cases hb:b∈jL outer
  ·obtain⟨sl,z'⟩:=ks b o' hb z;exact⟨_,z'⟩
  ·exact⟨_,kB b o' z (ne0 b o q).1 (ne0 b o q).2 hb⟩
 ·refine(hok1 b o q).stay (fun c v hc r=>?_) (fun _ z=>z) fun _ _ _ z=>z;rcases hc with rfl | hc
  ·exact kB c v r (YA c o q).1 (YA c o q).2.1 (YA c o q).2.2
  ·exact kB c v r (YA c _ hc).1 (YA c _ hc).2.1 (YA c _ hc).2.2
 ·obtain⟨o',z⟩:=(hok1 b o q).ex;exact⟨o',PySem.W.hideAll_get _ z fun m=>(uTa m).elim (YA b o q).1 fun m=>(memb b m).elim (YA b o q).2.1 (YA b o q).2.2⟩
 ·obtain⟨o',z⟩:=u1.there b o q (by simp);exact⟨o',PySem.W.hideAll_get _ z fun m=>(uTa m).elim (ne0 b o q).1 fun m=>(memb b m).elim (ne0 b o q).2 n⟩
theorem xG{pins:List (Addr×Obj)}{U:St}{H H1:Hp}{s:Shared}{e t:Addr}{cls:Value}{oe:Obj}(I:Inv (jS (J3 P w) P w K mg base N qual scope f cd A outer s0 H0 E) pins U H s)
  (he:s.heap.get? e=some oe) (hc:oe.cls=cls) (hd:oe.data=.fields #[.ref t,.none,.none,.none,.bool false,.none]) (h0:s0.heap.get? e=none) (h1:H1 e=none)
  (hH:∀b,H1 b=H b \/ (H1 b=none/\∃φ,H b=some (.ext φ))) (hE:E cls none H1):(jS (J3 P w) P w K mg base N qual scope f cd A outer s0 H0 E).xe (.ref e) s:=gR I he hc hd h0 h1 hH (fun _ z=>by cases z) hE
end
set_option tactic.hygienic true in
theorem xH{K:uXa}{h:Heap}{mg:Str->Option Value}{x:Str}{C:Addr}{bm:List Value}{nid:String}(X:K.In h)(hm:mg x=some (.ref C))(q:PySem.W.excIn K C bm nid=true):OwnCls x C bm nid mg h:=by
 refine⟨hm,?_⟩;unfold PySem.W.excIn at q;split at q
 ·rename_i dd cl slots hobj;split at q
  ·rename_i C1 tl x0 x1 x2 x3 nn x5 hmro hslots;simp only[Bool.and_eq_true,beq_iff_eq,Bool.not_eq_true']at q;obtain⟨⟨⟨⟨⟨rfl,rfl⟩,z1⟩,z2⟩,z3⟩,z4⟩:=q;obtain⟨c1,c2,c3,c4,c5,c6,c7,c8,c9,c10,c11⟩:=cl;dsimp only at hmro z1 z3 z4;subst hmro z1;have e:slots=#[x0,x1,x2,x3,some (.builtin nn),x5]:=by obtain⟨l⟩:=slots;simp only at hslots;rw[hslots]
   subst e;exact⟨tl,c4,c1,c5,c2,c6,c7,c8,c9,c10,dd,x0,x1,x2,x3,x5,_,X _ _ hobj,.of_isNs (PySem.W.isNs_of_in X z3),PySem.W.nsMap_none_of_in X z3 z4,PySem.W.tail_of_in X z2⟩
  ·cases q
 ·cases q
section
variable {P:Program} {w:World} {K:uXa} {mg:Str->Option Value} {base:Heap} {N:List Str} {qual:Str} {scope:Scope} {f:Addr} {cd:Value} {A:Around} {outer:List Env} {s0:Shared} {H0:Hp} {E:XK}
theorem Wr{x:Str}{np cpos pos cp:Pos}{z:Str}{j:Nat}{C:Addr}{bm:List Value}{B newId initId:String}
  (ens:PySem.W.nsIn K mainGlobals x=some (some (.ref C))) (exi:PySem.W.excIn K C bm newId=true) (FB:ExcBaseFacts B newId initId bm) (hg:Gl (jS (J3 P w) P w K mg base N qual scope f cd A outer s0 H0 E) x) (hd:(x==("__debug__" : Str))=false):
  PS (jS (J3 P w) P w K mg base N qual scope f cd A outer s0 H0 E) (.Raise (some (.Call (.Name x np) [.Constant (.str z) j cp] [] cpos)) none pos) (fun _ _ H=>E (.ref C) none H):=by
 intro pins s U H D I h;have hm:=PySem.W.mg_of I.mod.kin I.mod.glob ens;have O:OwnCls x C bm newId mg base:=xH I.mod.kin hm exi;have key:wpAny (model P w) (A.deeper (envOfC qual scope s0.heap.objs.size f cd)) (spliced (backTo cpos (starEach [.Constant (.str z) j cp] (envOfC qual scope s0.heap.objs.size f cd))))
   (fun vs s₂=>vs.length<=sizeLine/\(∀b o,base.get? b=some o->s₂.heap.get? b=some o)/\∀h' e,Heap.MadeExcOf s₂.heap h' e (.ref C) vs->(jS (J3 P w) P w K mg base N qual scope f cd A outer s0 H0 E).xe (.ref e) { s₂ with heap:=h' })
   (jS (J3 P w) P w K mg base N qual scope f cd A outer s0 H0 E).xe s:=
  jm ((jB (X:=jS (J3 P w) P w K mg base N qual scope f cd A outer s0 H0 E) K4 Jc) cpos pins s U H (fun vs H'=>vs.length=1/\E (.ref C) none H') I ⟨rfl,h⟩) fun us s1 ⟨vs,H1,I1,r,q1,q⟩=>
   ⟨by rw[<-r.length,q1];decide,I1.bk,fun h' e hm=>by
    obtain⟨t,he,_⟩:=hm.there;refine xG (H:=H1) (H1:=H1) (t:=t) (I1.kept (t':=s1.toks) hm.keeps) he rfl rfl ?_ ?_ (fun b=>.inl rfl) q
    ·cases z:s0.heap.get? e with
     | none=>rfl
     | some o=>
      obtain⟨o',y⟩:=I1.base.there e o z (by simp[jS]);rw[hm.new]at y;cases y
    ·cases z:H1 e with
     | none=>rfl
     | some u=>
      obtain⟨o',y⟩:=(I1.hok e u z).ex;rw[hm.new]at y;cases y⟩
 show wpAny (model P w) (A.deeper (envOfC qual scope s0.heap.objs.size f cd)) (exec _ (envOfC qual scope s0.heap.objs.size f cd)) _ _ s;have hh:(A.deeper (envOfC qual scope s0.heap.objs.size f cd)).handled=none:=I.ok.hd rfl;obtain⟨tl,N',nm,q,bs,hdct,sn,sub,ab,col,dd,k0,k1,k2,k3,k5,mN,hC,hN,hni,T⟩:=O.obj;exact wpAny_Raise_call_subT (C:=C) (nm:=nm) (q:=q) (N:=N') (bs:=bs) (bm:=tl) (hdct:=hdct) (sn:=sn) (sub:=sub) (ab:=ab) (col:=col) (dd:=dd) (k0:=k0) (k1:=k1) (k2:=k2) (k3:=k3) (k5:=k5) FB (mN:=mN) (T.hasType FB.hasBase) hh rfl hni
  (JB I hg hm ⟨rfl,Calls.evalArgs_plain (wCa key (fun vs s₂ h₂=>⟨rfl,h₂.1,h₂.2.1 _ _ hC,hN.keeps h₂.2.1,T.keeps h₂.2.1,h₂.2.2⟩) fun _ _ y=>y)⟩ hd)
end
theorem Fly.move{X:Cx}{pins:List (Addr×Obj)}{U:St}{H H':Hp}{s s':Shared}{e:Addr}{cls:Value}{B:Heap}{h:Heap}{t:Nat}(I:Inv X pins U H s)(F:Fly X.prog X.w X.stack H s H' e cls s')
  (hB:B.StaysIn s'.heap) (c1:∀b u,H' b=some u->∃o,B.get? b=some o) (c2:∀b o,s.heap.get? b=some o->b∉jL X.stack->∃o',B.get? b=some o')
  (k:B.StaysIn h) (fr:s'.heap.FunFrames B X.stack) (up:s'.heap.UpToSlots h):Inv X pins U H' { s' with heap:=h,toks:=t }:=by
 have u:=F.un;have at':∀b o,s'.heap.get? b=some o->(∃o',B.get? b=some o')->h.get? b=some o:=fun b o q ⟨o',z⟩=>by
  have:=hB b o' z;rw[q]at this;cases this;exact k b o z
 have sl:∀b o,b∈jL X.stack->s'.heap.get? b=some o->∃sl,h.get? b=some { o with slots:=sl }:=fun b o hb q=>by
  obtain⟨_,o',ho',hd⟩:=fr.mem hb;rw[q]at ho';cases ho';exact up b o q hd
 refine I.call' (s':={ s' with heap:=h,toks:=t }) (ch:=[]) F.os ⟨fun b o q n hb hx=>at' b o (u.keep b o q n hb hx) (c2 b o q hb),fun b o q n hb hx=>?_,u.free,fun b o q hx=>?_,u.tups,u.frzs,u.tbls⟩ ?_ F.bare fun b z=>vDa z (by simp)
 ·obtain⟨l,z⟩:=u.slot b o q n hb hx;obtain⟨l',z'⟩:=sl b _ hb z;exact⟨l',z'⟩
 ·obtain⟨o',z⟩:=u.there b o q hx;by_cases hb:b∈jL X.stack
  ·obtain⟨l',z'⟩:=sl b _ hb z;exact⟨_,z'⟩
  ·exact⟨_,at' b o' z (c2 b o q hb)⟩
 ·intro a o q;refine(F.hok a o q).stay (fun b u hb z=>at' b u z ?_) (fun _ z=>z) fun _ _ _ z=>z;rcases hb with hb | hb
  ·rw[hb];exact c1 a o q
  ·exact c1 b _ hb
section
variable {X:Cx}
set_option tactic.hygienic true in
theorem Inv.gone{pins:List (Addr×Obj)}{U:St}{H:Hp}{s:Shared}{i:Nat}{n:Str}{h':Heap}{u:Option Value}(I:Inv X pins U H s)(hN:X.N.Nodup)(hi:X.N[i]?=some n)
  {m:Str->Option Value} (hm:s.heap.Ns X.env.locals m) (hn':h'.Ns X.env.locals (fun x=>if x=n then u else m x)) (hs:Heap.SameBut X.env.locals s.heap h'):Inv X pins (U.set i none) H { s with heap:=h' }:=by
 obtain⟨m0,hn,hl⟩:=id I.loc;have em:m0=m:=by
  obtain⟨o,es,ep,h1,h2,_,h4⟩:=hn;obtain⟨o',es',ep',h1',h2',_,h4'⟩:=hm;rw[h1]at h1';cases h1';rw[h2]at h2';cases h2';funext x;rw[<-h4,<-h4']
 subst em;have neL:∀b o,X.s₀.heap.get? b=some o->b≠X.env.locals:=fun b o e=>wTa (Nat.lt_of_lt_of_le (wLa e) I.ok.above);refine⟨I.ok,I.os,I.bare,⟨fun b o e n hb hx=>(hs.2 b (neL b o e)).trans (I.base.keep b o e n hb hx),fun b o e n hb hx=>?_,I.base.free,fun b o e hx=>?_,I.base.tups,I.base.frzs,I.base.tbls⟩,⟨_,hn',fun j y v' e1 e2 e3=>?_⟩,fun y c e=>?_,I.free,I.freeC,fun p hp=>?_,fun b ob e=>?_,by rw[List.length_set];exact I.len⟩
 ·obtain⟨sl,e1⟩:=I.base.slot b o e n hb hx;exact⟨sl,(hs.2 b (neL b o e)).trans e1⟩
 ·obtain⟨o',e1⟩:=I.base.there b o e hx;exact⟨o',(hs.2 b (neL b o e)).trans e1⟩
 ·by_cases hj:j=i
  ·subst hj;rw[List.getElem?_set]at e2;split at e2
   ·split at e2 <;> cases e2
   ·rename_i z;exact vDa rfl z
  ·rw[List.getElem?_set_ne (Ne.symm hj)]at e2;obtain⟨u',r',q⟩:=hl j y v' e1 e2 e3;refine⟨u',r',?_⟩;rcases q with⟨k,e⟩ | ⟨k,c,e,z⟩
   ·refine .inl ⟨k,?_⟩;have:y≠n:=fun e=>hj (ZN hN e1 (e▸hi));simp[this,e]
   ·exact .inr ⟨k,c,e,z.sameBut hs (I.cne y c e)⟩
 ·obtain⟨w',z⟩:=I.cell y c e;exact⟨w',z.sameBut hs (I.cne y c e)⟩
 ·obtain⟨e,n,ne,nf,d⟩:=I.pin p hp;exact⟨(hs.2 p.1 ne).trans e,n,ne,nf,d⟩
 ·refine(I.hok b ob e).stay (fun c w' hc q=>(hs.2 c ?_).trans q) (fun _ q=>q) fun _ _ _ q=>q;rintro rfl;rcases hc with rfl | hc
  ·rw[I.free]at e;cases e
  ·rw[I.free]at hc;cases hc
theorem YM{M:Model}{A:Around}{E:Value->Shared->Prop}{pins:List (Addr×Obj)}{U:St}{H:Hp}{s:Shared}{i:Nat}{n:Str}{pos:Pos}{Q:Unit->Shared->Prop}(I:Inv X pins U H s)(hN:X.N.Nodup)(hi:X.N[i]?=some n)(hl:X.env.kindOf n=some .local)
  (h:∀s',Inv X pins (U.set i none) H s'->Q () s'):wpAny M A (do bindName X.env n .none;unbindBehindTheSuite X.env n pos) Q E s:=by
 have hp:(X.env.scope.kind==.class||(X.env.scope.kind==.module&&X.env.locals != X.env.globals))=false:=by rw[I.ok.kind];rfl
 refine wAa (wpAny_bindName (Yi (v:=.non) I hN hi (.inl hl) rfl (fun s1 I1=>?_) (.inr hl)));unfold unbindBehindTheSuite;refine wpAny_onRaise ?_;obtain⟨m,hm,hv⟩:=id I1.loc;have hlen:i < U.length:=by rw[I.len];exact(uSa hi).1
 obtain⟨u,r,lk⟩:=hv i n .non hi (by rw[List.getElem?_set_self hlen]) (.inl hl);have hmn:m n=some u:=by
  rcases lk with lk | ⟨k,_⟩
  ·exact lk.2
  ·rw[hl]at k;rcases k with k | k <;> cases k
 refine wpAny_unbindName_local hl hm hmn hp fun h' w hn' hs=>h _ ?_;have J:=I1.gone hN hi hm hn' hs;rw[List.set_set]at J;exact J
end
end L2
namespace L2
open PySem PySem.Spec PyProof.Rows PySem.Builtin
open PySem.W (Looks)
structure ExC (K:uXa) (C:Addr):Prop where
 ga:PySem.W.findIn K (.ref C) "__getattribute__" = some (some (.builtin "BaseException.__getattribute__"))
 gx:PySem.W.findIn K (.ref C) "__getattr__" = some none
 at':PySem.W.findIn K (.ref C) "__class__" = some (some (.builtin "object.__class__"))
 gt:PySem.W.specialIn K (.builtin "object.__class__") "__get__" = some (some (.builtin "getset_descriptor.__get__"))
 tk:PySem.W.takesIn K (.builtin "object.__class__")=some true
 ob:PySem.W.mroIn K C (.type "object")=some true
 be:PySem.W.subIn K (.ref C) (.type "BaseException")=some true
 cl:PySem.W.isClsIn K C=true
def Up(e C:Addr)(h:Heap):Prop:=∃o,h.get? e=some o/\o.cls=.ref C
section
variable {K:uXa} {e C:Addr}
theorem Up.ty{M:Model}{h:Heap}(x:Up e C h):PySem.W.Looks M h (typeOf (.ref e)) (.ref C):=by
 obtain⟨o,h1,h2⟩:=x;have:=(PySem.W.Looks.ld (M:=M) (part:=none) h1).andThen (f:=fun o=>pure o.cls) .now;rw[h2]at this;exact this
theorem xI{M:Model}{h:Heap}(k:ExC K C)(X:K.In h):PySem.W.Looks M h (Builtin.ObjectAttr.find (.ref e) (.ref C) "__class__") (.bind (.builtin "getset_descriptor.__get__") (.builtin "object.__class__")):=by
 have L1:=PySem.W.looks_findIn (M:=M) X k.at';have L2:=PySem.W.looks_specialIn (M:=M) X k.gt;have L3:=PySem.W.looks_takesIn (M:=M) X k.tk;refine L1.andThen (L2.andThen ?_);intro A' Q' E' s' k' q';refine wAa (wAa (L3 A' _ E' s' k' ?_));exact wBa (wAa (wpAny_rule (wBa q')))
theorem AE(k:ExC K C){prog:Program}{w:World}{A:Around}{s:Shared}{R:Result->Shared->Prop}{tp:Value}(X:K.In s.heap)(x:Up e C s.heap)(h:R (.ok (.ret (.ref C))) s):
  codeAny (model prog w) A (.call (.builtin "getset_descriptor.__get__") ⟨[.builtin "object.__class__",.ref e,tp],[]⟩) R s:=by
 obtain⟨hh,g,dr,t,os⟩:=s;have L0:=x.ty (M:=model prog w);have L1:=PySem.W.looks_mroIn (M:=model prog w) X k.ob;refine codeAny_call_builtin PySem.W.KF.slot_gs.plain PySem.W.KF.entry_gs (PySem.W.KF.slot_gs.check _ _ _ _ _ _ _ _ PySem.W.KF.type_class (PySem.W.KF.args_gs _ _ _) ?_);unfold Builtin.«getset_descriptor.__get__» Builtin.Getset_descriptor.descrGet;rw[PySem.W.dga_obj];refine wAa (wBa ?_);unfold Builtin.Getset_descriptor.descrGetter Builtin.Getset_descriptor.descrCheckInstance Builtin.Getset_descriptor.descrNameAndClass isInstance;simp only[PySem.W.KF.owner_class];repeat (open PySem.W in lk)
 refine⟨Code.quiet_builtin _ (by decide +kernel),codeAny_builtin PySem.W.KF.entry_class ?_⟩;unfold Builtin.«object.__class__» shownTypeOf;repeat (open PySem.W in lk)
 exact h
theorem CN(SB:ExcAttrFacts "ValueError")(k:ExC K C){prog:Program}{w:World}{A:Around}{E:Value->Shared->Prop}{Q:Option Value->Shared->Prop}{s:Shared}(X:K.In s.heap)(x:Up e C s.heap)(h:Q (some (.ref C)) { s with toks:=s.toks+1 }):
  wpAny (model prog w) A (getAttr? (.ref e) "__class__") Q E s:=by
 obtain⟨hh,g,d,t,os⟩:=s;have L0:=x.ty (M:=model prog w);have L1:=PySem.W.looks_findIn (M:=model prog w) X k.ga;have L2:=PySem.W.looks_findIn (M:=model prog w) X k.gx;have L3:=xI (e:=e) (M:=model prog w) k X;unfold getAttr? getAttrBy? getAttrBy;refine wAa (wpAny_mkText (wAa (wpAny_attempt (wDa (wAa (L0.at (wAa (L1.at ?_))))))));show wpAny _ _ (getAttrByItsOwn _ _ _ _ _ _) _ _ _;unfold getAttrByItsOwn hookBefore;refine wAa (L2.at (wAa (wpAny_attempt (wDa ?_))));show wpAny _ _ (boundAndCalled _ _ _) _ _ _;unfold boundAndCalled;have hb:bindSpecial (.builtin "BaseException.__getattribute__") (.ref e)=pure (.builtin "BaseException.__getattribute__",[.ref e]):=SB.ga.bind (.ref e);rw[hb];refine wAa (wBa (wHa (codeAny_call_builtin SB.ga.plain F.entry_bexc_ga ?_)));have hsb:Looks (model prog w) hh (isInstance (.ref e) (.type "BaseException")) true:=L0.andThen (PySem.W.looks_subIn (M:=model prog w) X k.be);have ha:=F.args_bexc_ga (.ref e) (.str "__class__" t);have hk:builtinKind "BaseException.__getattribute__" = some .slot:=by decide +kernel
 have hsplit:splitId "BaseException.__getattribute__" = some ("BaseException", "__getattribute__"):=by decide +kernel
 simp only[checkBuiltinCall,hk,hsplit];refine wAa (hsb.at ?_)
 repeat (first | assumption | wp_step)
 have x0:=x;obtain⟨o,h1,h2⟩:=x0;refine wpAny_loadPart_at h1 (wBa ?_);rw[h2];refine wAa (L3.at ?_);show wpAny _ _ (ObjectAttr.bindTo _ _ _ _) _ _ _;unfold ObjectAttr.bindTo;refine wAa (wDa (wHa (AE k X x ?_)));exact wBa (PySem.W.handed_on rfl (wBa h))
set_option tactic.hygienic true in
theorem AF(k:ExC K C):PySem.W.KitX K (.ref e) (.ref C) (Up e C) where
 ty:=fun M h _ x=>x.ty
 it:=fun M h X _=>by
  have z:=k.cl;unfold PySem.W.isClsIn PySem.W.clsIn at z;split at z
  ·rename_i ho;intro A' Q' E' s' k' q';exact wAa (wpAny_loadPart (k' _ _ (X _ _ ho)) (wBa q'))
  ·cases z
 ne:=fun h tp dd its n sl X htp=>by
  have z:=k.cl;refine Bool.eq_false_iff.mpr fun q=>?_;have e:C=tp:=Value.ref.inj (beq_iff_eq.mp q);subst e;unfold PySem.W.isClsIn PySem.W.clsIn at z;split at z
  ·rename_i ho;have y:=(X _ _ ho).symm.trans htp;cases y
  ·cases z
 ca:=fun X x h=>CN F.excAttr_ValueError k X x h
end
end L2
namespace L2
open PySem PySem.Spec PyProof.Rows
section
variable {X:Cx} {pins:List (Addr×Obj)} {U:St} {H H':Hp} {s s':Shared} {e:Addr} {cls:Value} {od:Option Addr}
noncomputable abbrev Cx.sui(X:Cx)(e:Addr):Cx:={ X with A:=X.A.mark (some (.ref e)),calm:=false,xe:=fun _ _=>False }
theorem Inv.sui(I:Inv X pins U H s):Inv (X.sui e) pins U H s:=
 ⟨⟨I.ok.mod,I.ok.kind,I.ok.glob,I.ok.blt,I.ok.above,I.ok.inj,I.ok.has,I.ok.cab,(fun z=>nomatch z),I.ok.frames,I.ok.stk,I.ok.exf,I.ok.bs,I.ok.bsz,I.ok.noex,I.ok.exfs,I.ok.funs,I.ok.frf⟩,I.os,I.bare,I.base,I.loc,I.cell,I.free,I.freeC,I.pin,I.hok,I.len⟩
theorem Inv.unsui(I:Inv (X.sui e) pins U H s)(hd:X.calm=true->X.A.handled=none):Inv X pins U H s:=
 ⟨⟨I.ok.mod,I.ok.kind,I.ok.glob,I.ok.blt,I.ok.above,I.ok.inj,I.ok.has,I.ok.cab,hd,I.ok.frames,I.ok.stk,I.ok.exf,I.ok.bs,I.ok.bsz,I.ok.noex,I.ok.exfs,I.ok.funs,I.ok.frf⟩,I.os,I.bare,I.base,I.loc,I.cell,I.free,I.freeC,I.pin,I.hok,I.len⟩
def DF(X:Cx)(pins:List (Addr×Obj))(U:St)(Er:XK)(ev:Value)(s':Shared):Prop:=
 ∃H1 s1 e cls H' od,ev=.ref e/\Inv X pins U H1 s1/\Fly X.prog X.w X.stack H1 s1 H' e cls s'/\(∀d,od=some d->∃oe,s'.heap.get? e=some oe/\oe.dict=some d)/\Er cls od H'
noncomputable abbrev Z9:=St->Hp->XK->Prop
def yX(X:Cx)(bd:List Stmt)(tb:Z9):Prop:=∀(pins:List (Addr×Obj)) (s:Shared) (U:St) (H:Hp) (Er:XK),Inv X pins U H s->tb U H Er->wpAny (model X.prog X.w) X.A (execs bd X.env) (fun _ _=>False) (DF X pins U Er) s
def VR(X:Cx)(e:Expr)(tb:Z9):Prop:=∀(pins:List (Addr×Obj)) (s:Shared) (U:St) (H:Hp) (Er:XK),Inv X pins U H s->tb U H Er->wpAny (model X.prog X.w) X.A (eval e X.env) (fun _ _=>False) (DF X pins U Er) s
theorem AG{x:Str}{e:Expr}{pos pos':Pos}{tb:Z9}(h:VR X e tb)(hs:swapsWith e (some (.Name x pos')) pos.line X.env=pure false):yX X [.Assign [.Name x pos'] e pos] tb:=
 fun pins s U H Er I q=>wGa (wpAny_Assign_Name (jm (h pins s U H Er I q) fun _ _ z=>False.elim z) hs)
theorem xJ{e:Expr}{epos:Pos}{tb:Z9}(h:VR X e tb)(hsw:swapsWith e none epos.line X.env=pure false):yX X [.Expr e epos] tb:=fun pins s U H Er I q=>
 wGa (wpAny_Expr_any (wCa (h pins s U H Er I q) (fun _ _ z=>False.elim z) fun _ _ z=>z) I.quiet hsw)
theorem AH{e:Expr}{pos:Pos}{tb:Z9}(h:VR X e tb):yX X [.Return (some e) pos] tb:=fun pins s U H Er I q=>
 wGa (wpAny_Return_some (jm (h pins s U H Er I q) fun _ _ z=>False.elim z))
noncomputable def AI(sp:Sp)(t:TA):Z9:=fun U H Er=>t U H fun vs H1=>sp vs H1 (fun _ _=>False) Er
theorem xK{k:Nat}{f:Addr}{fd:FuncData}{ps:List Str}{sp:Sp}{g:Str}{p pos:Pos}{ea:Expr}{es:List Expr}{t:TA}(F:FnOk X.prog X.w X.K X.mg X.base (J3 X.prog X.w) k f fd ps sp)(hr:Room k X.A)(hg:Gl X g)(hm:X.mg g=some (.ref f))(hk:PySem.W.keepIn X.K (.ref f)=true)(hb:jY X.K fd ps [])
  (ha:PA X.nox (ea::es) t) (hdb:(g==("__debug__" : Str))=false) (he:starEach (ea::es) X.env=(false,eval ea X.env)::starEach es X.env) (hpl:(backTo pos (starEach es X.env)).any (·.1)=false):VR X (.Call (.Name g p) (ea::es) [] pos) (AI sp t):=by
 intro pins s U H Er I h;refine wpAny_Call_Name_kw (JB I hg hm ?_ hdb);refine PySem.W.callWith_K (h₀:=X.base) I.ok.mod.kin hk (wCa (ha pos pins s U H _ (I.wish _) h) (fun us s1 xx=>?_) fun _ _ z=>False.elim z) he hpl;obtain⟨vs,H1,I1,r,q⟩:=xx;refine⟨I1.unwish.kIn,?_⟩
 replace I1:=I1.unwish
 have r2:jd (vs++[]) (us++[]):=r.append .nil;have q':=q;rw[<-uFa vs]at q';have hl:(us++[]).length=ps.length:=by rw[<-r2.length];exact F.len _ _ _ _ q'
 refine wHa (codeAny_mono (F.run X.A X.stack s1 H1 ⟨[]++us,[]⟩ (us++[]) (vs++[]) _ _ hr I1.env0 (hb s1 us I1.kIn hl) r2 q') fun r s' hq=>?_);cases r with
 | ok fl=>
  cases fl with
  | ret v=>obtain⟨_,_,_,_,_,_,_,z⟩:=hq;exact z.elim
  | _=>exact False.elim hq
 | error ev=>
  obtain⟨e,cls,H',od,rfl,Fl,hdd,hE⟩:=hq;exact⟨H1,s1,e,cls,H',od,rfl,I1,Fl,hdd,hE⟩
structure Land (X:Cx) (pins:List (Addr×Obj)) (U:St) (H':Hp) (e:Addr) (cls:Value) (od:Option Addr) (s:Shared):Prop where
 fl:∃B a0,Heap.FlyingW B (X.env::X.outer) e cls a0 s.heap/\(∀h,B.StaysIn h->s.heap.UpToSlots h->Inv X pins U H' { s with heap:=h })/\∀h o,B.StaysIn h->s.heap.UpToSlots h->jC X.prog X.w (upd H' e o) h e o->Inv X pins U (upd H' e o) { s with heap:=h }
 dd:∀d,od=some d->∃oe,s.heap.get? e=some oe/\oe.dict=some d
noncomputable abbrev TH:=Value->Option Addr->Addr->TS
def PH(X:Cx)(hs:List ExceptHandler)(t:TH):Prop:=∀(pins:List (Addr×Obj)) (U:St) (H':Hp) (e:Addr) (cls:Value) (od:Option Addr) (s:Shared) (D:Ends),Land X pins U H' e cls od s->t cls od e D U H'->wpAny (model X.prog X.w) X.A (handleBy (.ref e) X.env hs) (SP X pins D) X.xe s
theorem Fly.moveT{a:Addr}{o:HO}{B:Heap}{h:Heap}{t:Nat}(I:Inv X pins U H s)(F:Fly X.prog X.w X.stack H s H' e cls s')
  (hB:B.StaysIn s'.heap) (c1:∀b u,H' b=some u->∃o,B.get? b=some o) (c2:∀b o,s.heap.get? b=some o->b∉jL X.stack->∃o',B.get? b=some o')
  (k:B.StaysIn h) (fr:s'.heap.FunFrames B X.stack) (up:s'.heap.UpToSlots h) (ha:H' a=none) (hs:s.heap.get? a=none) (hH:H a=none) (ok:jC X.prog X.w (upd H' a o) h a o):Inv X pins U (upd H' a o) { s' with heap:=h,toks:=t }:=by
 have u:=F.un;have at':∀b o,s'.heap.get? b=some o->(∃o',B.get? b=some o')->h.get? b=some o:=fun b o q xx=>by
  obtain⟨o',z⟩:=xx;have:=hB b o' z;rw[q]at this;cases this;exact k b o z
 have sl:∀b o,b∈jL X.stack->s'.heap.get? b=some o->∃sl,h.get? b=some { o with slots:=sl }:=fun b o hb q=>by
  obtain⟨_,o',ho',hd⟩:=fr.mem hb;rw[q]at ho';cases ho';exact up b o q hd
 have oth:∀b u,H' b=some u->upd H' a o b=some u:=fun b u q=>by rw[j7 (jo q ha)];exact q
 have nH:∀b u,H b=some u->b≠a:=fun b u q=>jo q hH;refine I.call' (s':={ s' with heap:=h,toks:=t }) (ch:=[]) F.os ⟨fun b o q n hb hx=>at' b o (u.keep b o q n hb hx) (c2 b o q hb),fun b o q n hb hx=>?_,fun b o q n hx=>?_,fun b o q hx=>?_,fun b xs q=>oth _ _ (u.tups b xs q),fun b o xs q=>oth _ _ (u.frzs b o xs q),fun b ps q=>?_⟩ ?_ F.bare fun b z=>vDa z (by simp)
 ·obtain⟨l,z⟩:=u.slot b o q n hb hx;obtain⟨l',z'⟩:=sl b _ hb z;exact⟨l',z'⟩
 ·rw[j7 (fun z=>by rw[z,hs]at q;cases q)];exact u.free b o q n hx
 ·obtain⟨o',z⟩:=u.there b o q hx;by_cases hb:b∈jL X.stack
  ·obtain⟨l',z'⟩:=sl b _ hb z;exact⟨_,z'⟩
  ·exact⟨_,at' b o' z (c2 b o q hb)⟩
 ·obtain⟨m,z⟩:=u.tbls b ps q;exact⟨m,oth _ _ z⟩
 ·intro b o' q;by_cases z:b=a
  ·subst z;rw[jc]at q;cases q;exact ok
  ·rw[j7 z]at q;refine(F.hok b o' q).stay (fun c u hb y=>at' c u y ?_) (fun c y=>oth _ _ y) fun c xs _ y=>oth _ _ y;rcases hb with hb | hb
   ·rw[hb];exact c1 b o' q
   ·exact c1 c _ hb
end
section
variable {P:Program} {w:World} {K:uXa} {mg:Str->Option Value} {base:Heap} {N:List Str} {qual:Str} {scope:Scope} {f:Addr} {cd:Value} {A:Around} {outer:List Env} {s0:Shared} {H0:Hp} {E:XK}
theorem AJ:JM (J3 P w) (jS (J3 P w) P w K mg base N qual scope f cd A outer s0 H0 E) E:=by
 rintro pins U H s _ s' I ⟨e,cls,H',od,rfl,Fl,hdd,hE⟩;obtain⟨B,a0,fl,c1,c2⟩:=Fl.fly;have J:Inv (jS (J3 P w) P w K mg base N qual scope f cd A outer s0 H0 E) pins U H' s':=by
  have:=Fl.move (t:=s'.toks) I fl.1 c1 c2 fl.1 fl.2.2.1 (fun b o q _=>⟨o.slots,q⟩);exact this
 have hL0:s0.heap.get? s0.heap.objs.size=none:=Heap.get?_none_of_le (wPa _);have neL:∀b o,s0.heap.get? b=some o->b≠s0.heap.objs.size:=fun b o q z=>by rw[z,hL0]at q;cases q
 have memb:∀b,b∈jL (envOfC qual scope s0.heap.objs.size f cd::outer)->b=s0.heap.objs.size \/ b∈jL outer:=fun b hb=>by
  unfold jL at hb;rw[List.filterMap_cons]at hb;exact uTa hb
 have inB:∀b o,s0.heap.get? b=some o->b∉jL outer->∃o',B.get? b=some o':=fun b o q n=>by
  obtain⟨o',z⟩:=I.base.there b o q (by simp[jS]);exact c2 b o' z fun m=>(memb b m).elim (neL b o q) n
 show wpAny (model P w) (A.deeper (envOfC qual scope s0.heap.objs.size f cd)) (leaving (envOfC qual scope s0.heap.objs.size f cd) (.ref e)) _ _ s';refine wCa (Yq (Q:=fun _ s2=>∃h',s2={ s' with heap:=h' }/\Heap.FlyingW B outer e cls a0 h'/\s'.heap.UpToSlots h') (vP _ _) (wpAny_leaves_onW (L:=s0.heap.objs.size) J.ok.frames rfl fl fun h' fl' up=>⟨h',rfl,fl',up⟩)) (fun _ s2 zz=>?_) (fun _ _ z=>z);obtain⟨⟨h',rfl,fl',up⟩,dk⟩:=zz;have hdk:∀d,od=some d->∃oe,h'.get? e=some oe/\oe.dict=some d:=fun d q=>by
  obtain⟨oe,z1,z2⟩:=hdd d q;obtain⟨ob,z3,z4⟩:=dk e oe z1;exact⟨ob,z3,z4.trans z2⟩
 have atB:∀b o,s'.heap.get? b=some o->(∃o',B.get? b=some o')->h'.get? b=some o:=fun b o q ⟨o',z⟩=>by
  have:=fl.1 b o' z;rw[q]at this;cases this;exact fl'.1 b o z
 have sl:∀b o,b∈jL outer->s'.heap.get? b=some o->∃sl,h'.get? b=some { o with slots:=sl }:=fun b o hb q=>by
  obtain⟨_,o',ho',hd⟩:=fl.2.2.1.mem (b:=b) (by show b∈jL (envOfC qual scope s0.heap.objs.size f cd::outer);unfold jL;rw[List.filterMap_cons];exact wMa _ hb);rw[q]at ho';cases ho';exact up b o q hd
 have u:=J.base;refine⟨e,cls,H',od,rfl,⟨Fl.os.trans I.os,Fl.bare,⟨fun b o q n hb hx=>atB b o (u.keep b o q n hb hx) (inB b o q hb),fun b o q n hb hx=>?_,u.free,fun b o q hx=>?_,u.tups,u.frzs,u.tbls⟩,?_,⟨B,a0,fl',c1,inB⟩⟩,hdk,hE⟩
 ·obtain⟨l,z⟩:=u.slot b o q n hb hx;obtain⟨l',z'⟩:=sl b _ hb z;exact⟨l',z'⟩
 ·obtain⟨o',z⟩:=u.there b o q hx;by_cases hb:b∈jL outer
  ·obtain⟨l',z'⟩:=sl b _ hb z;exact⟨_,z'⟩
  ·exact⟨_,atB b o' z (inB b o q hb)⟩
 ·intro a o q;refine(Fl.hok a o q).stay (fun b u hb z=>atB b u z ?_) (fun _ z=>z) fun _ _ _ z=>z;rcases hb with hb | hb
  ·rw[hb];exact c1 a o q
  ·exact c1 b _ hb
end
section
variable {X:Cx} {x n:Str} {np hpos tpos:Pos} {bd su:List Stmt} {b₀:Stmt} {h₀:ExceptHandler} {hs:List ExceptHandler} {Dc:Addr} {i:Nat} {u:TS} {th:TH} {tb:Z9}
def Ws(tb:Z9)(th:TH):TS:=fun D U H=>tb U H fun cls od H2=>∀e,H2 e=none->th cls od e D U H2
theorem KI(hbd:yX X bd tb)(hh:PH X (h₀::hs) th)(hst:X.stack=X.env::X.outer)(hfr:X.env.frame=some X.env.locals):PS X (.Try bd (h₀::hs) [] [] tpos) (Ws tb th):=by
 intro pins s U H D I h;refine wpAny_Try_except (wCa (hbd pins s U H _ I h) (fun _ _ z=>False.elim z) fun ev s' hq=>?_);obtain⟨H1,s1,e,cls,H',od,rfl,I1,Fl,hdd,hE⟩:=hq;obtain⟨B,a0,fl,c1,c2⟩:=Fl.fly;have fl0:=fl;rw[hst]at fl;refine wCa (Yq (Q:=fun _ s2=>∃h4,s2={ s' with heap:=h4 }/\Heap.HeldW B (X.env::X.outer) e cls a0 X.env.locals h4/\s'.heap.UpToSlots h4) (gQ _ _) (wpAny_looks_onW (I.ok.frames.trans (by rw[hst])) hfr fl fun h₄ held₄ sm₄=>⟨h₄,rfl,held₄,sm₄⟩)) (fun _ s2 zz=>?_) (fun _ _ z=>z);obtain⟨⟨h₄,rfl,held₄,sm₄⟩,dk4⟩:=zz;refine wCa (Yq (Q:=fun _ s2=>∃h5,s2={ s' with heap:=h5 }/\Heap.FlyingW B (X.env::X.outer) e cls a0 h5/\h₄.UpToSlots h5) (Yr _ _) (wpAny_landsW held₄ fun h₅ fl₅ sm₅=>⟨h₅,rfl,fl₅,sm₅⟩)) (fun _ s2 zz=>?_) (fun _ _ z=>z);obtain⟨⟨h₅,rfl,fl₅,sm₅⟩,dk5⟩:=zz;have up5:=sm₄.trans sm₅;have hHe:H' e=none:=by
  cases z:H' e with
  | none=>rfl
  | some v=>obtain⟨o,y⟩:=c1 e v z;rw[fl0.2.1]at y;cases y
 obtain⟨oe,ws,hoe,hoec,hoed,hoe0⟩:=fl₅.first;have nfr:e∉jL X.stack:=fun z=>by
  obtain⟨_,o,ho,hd⟩:=fl₅.2.2.1.mem (b:=e) (by rw[hst]at z;exact z);rw[hoe]at ho;cases ho;exact hd _ hoed
 have hs1:s1.heap.get? e=none:=by
  cases z:s1.heap.get? e with
  | none=>rfl
  | some o=>obtain⟨o',y⟩:=c2 e o z nfr;rw[fl0.2.1]at y;cases y
 have hH1:H1 e=none:=by
  cases z:H1 e with
  | none=>rfl
  | some v=>obtain⟨o,y⟩:=(I1.hok e v z).ex;rw[hs1]at y;cases y
 refine hh pins U H' e cls od _ D ⟨⟨B,a0,fl₅,fun h k up=>?_,fun h o k up ok=>?_⟩,fun d q=>?_⟩ (hE e hHe)
 ·have:=Fly.move (s':=s') (t:=s'.toks) I1 Fl fl0.1 c1 c2 k fl0.2.2.1 (up5.trans up);exact this
 ·have:=Fly.moveT (s':=s') (t:=s'.toks) I1 Fl fl0.1 c1 c2 k fl0.2.2.1 (up5.trans up) hHe hs1 hH1 ok;exact this
 ·obtain⟨o1,z1,y1⟩:=hdd d q;obtain⟨o2,z2,y2⟩:=(dk4.trans dk5) e o1 z1;exact⟨o2,z2,y2.trans y1⟩
theorem gU{t:TS}(hbd:jG X.nox bd t):PS X (.Try bd (h₀::hs) [] [] tpos) t:=by
 intro pins s U H D I h;refine wpAny_Try_except (wCa (hbd pins s U H D (I.wish _) h) (fun fl s' hq=>?_) fun _ _ z=>False.elim z);have hq:=hq.unwish;cases fl with
 | next=>exact wpAny_execs_nil hq
 | brk=>exact hq
 | cont=>exact hq
 | ret v=>exact hq
theorem Q0{st:Stmt}{t1 t2:TS}(h1:PS X st t1)(h2:PS X st t2):PS X st (fun D U H=>t1 D U H \/ t2 D U H):=
 fun pins s U H D I h=>h.elim (h1 pins s U H D I) (h2 pins s U H D I)
theorem gW(h:Heap):h.UpToSlots h:=fun b o q _=>⟨o.slots,q⟩
def fQ(K:uXa)(Dc:Addr)(i:Nat)(u:TS)(th:TH):TH:=fun cls od e D U H=>∃b,PySem.W.exmOne K cls (.ref Dc)=some b/\if b=true then∃C,cls=.ref C/\
  u { nx:=fun U' H'=>D.nx (U'.set i none) H',rt:=D.rt,bk:=fun U' H'=>D.bk (U'.set i none) H',ct:=fun U' H'=>D.ct (U'.set i none) H' } (U.set i (some (.ref e))) (upd H e (xC e C od))else th cls od e D U H
theorem CO(hNd:X.N.Nodup)(hi:X.N[i]?=some n)(hln:X.env.kindOf n=some .local)(hgx:Gl X x)(hmx:X.mg x=some (.ref Dc))(hdx:(x==("__debug__" : Str))=false)
  (hu:∀e,jG (X.sui e) (b₀::su) u) (hr:PH X hs th):PH X (.ExceptHandler (some (.Name x np)) (some n) (b₀::su) hpos::hs) (fQ X.K Dc i u th):=by
 intro pins U H' e cls od s D L hq;obtain⟨b,hmt,hE⟩:=hq;obtain⟨B,a0,fl₅,mv,mvT⟩:=L.fl;have I5:Inv X pins U H' s:=mv s.heap fl₅.1 (gW _);obtain⟨oe,ws,hoe,hoec,hoed,hoe0⟩:=fl₅.first;refine wpAny_handleBy_cons (codeAny_handlers_test (JB (X:=X.sui e) I5.sui hgx hmx ?_ hdx)) (by intro q;cases q);have LT:PySem.W.Looks (model X.prog X.w) s.heap (typeOf (.ref e)) cls:=by
  have:=(PySem.W.Looks.ld (M:=model X.prog X.w) (part:=none) hoe).andThen (f:=fun o=>pure o.cls) .now;rw[hoec]at this;exact this
 refine(PySem.W.exm_one I5.kIn LT hmt).here ?_;cases b with
 | false=>exact hr pins U H' e cls od s D L hE
 | true=>
  obtain⟨C,rfl,hE⟩:=hE;refine codeAny_handlers_suite_as ?_;refine wCa (Yq (Q:=fun _ s2=>∃h6,s2={ s with heap:=h6 }/\Heap.FlyingW B (X.env::X.outer) e (.ref C) a0 h6/\s.heap.UpToSlots h6) (Yr _ _) (lands_againW fl₅ fun h₆ fl₆ sm₆=>⟨h₆,rfl,fl₆,sm₆⟩)) (fun _ s2 zz=>?_) (fun _ _ z=>z);obtain⟨⟨h₆,rfl,fl₆,sm₆⟩,dk6⟩:=zz;obtain⟨oe6,ws6,hoe6,hoec6,hoed6,_⟩:=fl₆.first;have hdict:∀d,od=some d->oe6.dict=some d:=fun d q=>by
   obtain⟨o1,z1,y1⟩:=L.dd d q;obtain⟨o2,z2,y2⟩:=dk6 e o1 z1;rw[hoe6]at z2;cases z2;exact y2.trans y1
  have J6:=(mvT h₆ _ fl₆.1 sm₆ (qr (od:=od) hoe6 hoec6 (by unfold PySem.W.notCls;rw[hoed6]) hdict)).sui (e:=e);refine Yi (X:=X.sui e) (v:=.ref e) J6 hNd hi (.inl hln) rfl (fun s7 J7=>?_) (.inr hln);refine wCa (hu e pins s7 _ _ _ J7 hE) (fun fw s8 hs=>?_) (fun _ _ z=>False.elim z);have hd:=I5.ok.hd;cases fw with
  | next=>obtain⟨U',H2,J,z⟩:=hs;exact YM (J.unsui hd) hNd hi hln fun s' I'=>⟨_,_,I',z⟩
  | brk=>obtain⟨U',H2,J,z⟩:=hs;exact YM (J.unsui hd) hNd hi hln fun s' I'=>⟨_,_,I',z⟩
  | cont=>obtain⟨U',H2,J,z⟩:=hs;exact YM (J.unsui hd) hNd hi hln fun s' I'=>⟨_,_,I',z⟩
  | ret v=>obtain⟨v',U',H2,J,rv,z⟩:=hs;exact YM (J.unsui hd) hNd hi hln fun s' I'=>⟨v',_,_,I',rv,z⟩
def EG(K:uXa):List V->Hp->VK->Prop:=fun vs H1 Q=>∃e C od Dv b d,vs=[.ref e,d]/\(∀u,je d u->u=Dv)/\H1 e=some (xC e C od)/\ExC K C/\PySem.W.kitOne K (.ref C) Dv=some b/\Q (.bl b) H1
theorem Uq:JG X (.builtin "isinstance") (EG X.K):=by
 intro pins s U H xs us Q I r h;obtain⟨e,C,od,Dv,b,d,rfl,hd,hp,k,hb,q⟩:=h;cases r with
 | cons r1 r2=>
  cases r2 with
  | cons r3 r4=>
   cases r4;cases r1;cases hd _ r3;obtain⟨⟨oe,h1,h2,_⟩,_⟩:=I.hok e _ hp;exact PySem.W.kia_one (AF k) I.kIn ⟨oe,h1,h2⟩ hb (by intro z;cases z) fun tk=>⟨.bl b,H,I.tok tk,rfl,q⟩
end
end L2
namespace L2
open PySem PySem.Spec PyProof.Rows PySem.W Builtin Builtin.ObjectAttr
noncomputable def Za:List Value->Bool
 | .ref _::r=>Za r
 | l=>l==[.type "ValueError",.type "Exception",.type "BaseException",.type "object"]
theorem vQ(self:Value):∀{l:List Value},Za l=true->refuseLoop self "__setattr__" l=pure ()
 | .ref c::r,e=>by rw[refuseLoop_ref];exact vQ self e
 | [],e=>by cases e
 | .type a::r,e=>by rw[eq_of_beq (show(Value.type a::r==_)=true from e)];exact PySem.F.store_ValueError.passes self
theorem gX:∀{l:List Value},Za l=true->l.contains (.type "object")=true
 | .ref c::r,e=>by rw[List.contains_cons,gX (l:=r) e,Bool.or_true]
 | [],e=>by cases e
 | .type a::r,e=>by rw[eq_of_beq (show(Value.type a::r==_)=true from e)];decide
section
variable {prog:Program} {w:World} {A:Around} {E:Value->Shared->Prop} {R:Result->Shared->Prop} {s:Shared} {K:Frag} {x C:Addr} {ox:Obj} {od:Option Obj} {name:Str} {tk:Tok} {v:Value}
def yh(K:Frag)(C:Addr):Bool:=(clsIn K C).any fun cd=>Za cd.mro
theorem gY(X:K.In s.heap)(I:InstAt s.heap x ox C od)(hp:yh K C=true)(ht:takerIn K C name=some none)
  (h:∀b,wpAny (model prog w) A.in1 (storeInOwnDict (.ref x) (.ref C) (.str name tk) name v b)
   (fun fin s'=>match fin with | .done f=>R (.ok f) s' | .again c'=>c'.quiet=true/\codeAny (model prog w) A c' R s') (fun e s'=>R (.error e) s') s):
  codeAny (model prog w) A (.call (.builtin "object.__setattr__") ⟨[.ref x,.str name tk,v],[]⟩) R s:=by
 have SF:=PySem.F.store_object;obtain⟨cd,hc,ho⟩:=any_some hp;have ne:cd.mro.isEmpty=false:=by cases q:cd.mro with | nil=>rw[q]at ho;cases ho | cons _ _=>rfl
 have sub:Looks (model prog w) s.heap (isInstance (.ref x) (.type "object")) true:=I.type.andThen (looks_mroIn X (by unfold mroIn;rw[hc,Option.bind_some,if_neg (by rw[ne];decide),gX ho]));refine codeAny_call_builtin SF.slot.plain SF.entry (@check_slot (model prog w) _ _ s "object.__setattr__" "object" "__setattr__" (.ref x) [.str name tk,v] [] _ SF.kind SF.split sub (SF.args (.ref x) (.str name tk) v) ?_);obtain⟨attr,ha,hr⟩:=Option.bind_eq_some_iff.mp ht;have hm:Looks (model prog w) s.heap (mroOf (.ref C)) cd.mro:=(looks_clsIn X hc).andThen .now;have L3:Looks (model prog w) s.heap (storeTaker? attr) none:=by
  cases attr with
  | none=>exact .now
  | some a=>
   obtain⟨b,hb,hbb⟩:=Option.map_eq_some_iff.mp hr;refine(looks_takesIn X hb).andThen ?_;cases b with
   | false=>exact .now
   | true=>cases hbb
 rw[osa_eq,refuse_eq];refine wAa (wAa (I.type.here (wAa (hm.here ?_))));rw[vQ _ ho];refine wBa (wAa (I.type.here (wAa ((looks_findIn X ha).here (wAa (L3.here ?_))))));exact h _
theorem Wt{vs:Array Value}{Q:Unit->Shared->Prop}(X:K.In s.heap)(hx:s.heap.get? x=some { cls:=.ref C,data:=.fields vs })
  (hs:findIn K (.ref C) "__setattr__" = some (some (.builtin "object.__setattr__"))) (hp:yh K C=true) (ht:takerIn K C name=some none) (hh:hasDictIn K C=true)
  (h:∀h' t',h'.get? x=some { cls:=.ref C,dict:=some s.heap.objs.size,data:=.fields vs }->h'.Ns1 s.heap.objs.size (fun y=>if y=name then some v else none)->(∀b o,b≠x->s.heap.get? b=some o->h'.get? b=some o)->Q () { s with heap:=h',toks:=t' }):
  wpAny (model prog w) A (setAttr (.ref x) name v) Q E s:=by
 have J:InstAt s.heap x { cls:=.ref C,data:=.fields vs } C none:=⟨hx,rfl,rfl,trivial⟩
 refine PySem.W.set_plain X J hs (gY (s:={ s with toks:=s.toks+1 }) X J hp ht fun b=>?_);obtain⟨cd,hc,hd'⟩:=any_some hh;refine wAa (wBa (wAa (wAa (wpAny_loadPart hx (wAa (Looks.here (s:={ s with toks:=s.toks+1 }) (looks_clsIn X hc) ?_))))));rw[hd'];obtain⟨hh,g,d,t,os⟩:=s;have hx₁:(hh.push { cls:=.type "dict",data:=.dict #[] }).get? x=some { cls:=.ref C,data:=.fields vs }:=wIa _ hx;have hxs:x≠hh.objs.size:=wTa (wLa hx);have hgd:((hh.push { cls:=.type "dict",data:=.dict #[] }).update x fun o=>{ cls:=o.cls,dict:=some hh.objs.size,data:=o.data,slots:=o.slots }).get? hh.objs.size
     = some { cls:=.type "dict",data:=.dict #[] }:=
    (Heap.get?_update_ne _ _ _ _ hxs.symm).trans (Heap.get?_push_at rfl rfl)
 have hnd:((hh.push { cls:=.type "dict",data:=.dict #[] }).update x fun o=>{ cls:=o.cls,dict:=some hh.objs.size,data:=o.data,slots:=o.slots }).Ns hh.objs.size (fun _=>none):=
    ⟨_,#[],_,hgd,rfl,fun e he=>vDa he (by simp),fun _=>rfl⟩
 refine wAa (wpAny_alloc' ?_);refine wAa (wpAny_update' hx₁ ?_);refine wBa ?_;show wpAny _ _ (storeInDict hh.objs.size (.str name _) name v) _ _ _;unfold storeInDict newKeyGuard;refine wAa (wBa (wAa (wpAny_nsSet1 (Heap.Ns1.of_empty hnd) fun h' hn' hs=>?_)));obtain⟨oD,esD,epD,hoD,hdD,hcD⟩:=hn'.count (Within.cons name v Within.nil);refine wAa (wpAny_lookBehind hoD (by rw[hdD];exact pastItsLine_dict (wSa hcD (by rw[vXa,List.length_nil,sizeLine_eq];omega))) ?_);refine wBa (h h' _ ((hs.2 x hxs).trans (vUa _ hx₁ rfl)) ?_ fun b o n q=>?_)
 ·exact hn'
 ·exact(hs.2 b (wTa (wLa q))).trans ((Heap.get?_update_ne _ _ _ _ n).trans (wIa _ q))
theorem Wu{vs:Array Value}{dx:Addr}{mA:Str->Option Value}{ns:List Str}{Q:Unit->Shared->Prop}(X:K.In s.heap)(hx:s.heap.get? x=some { cls:=.ref C,dict:=some dx,data:=.fields vs })(hn:s.heap.Ns1 dx mA)(hne:x≠dx)
  (hs:findIn K (.ref C) "__setattr__" = some (some (.builtin "object.__setattr__"))) (hp:yh K C=true) (ht:takerIn K C name=some none) (hh:hasDictIn K C=true) (hw:PySem.Within mA ns) (hsz:ns.length<=sizeLine)
  (h:∀h' t',h'.Ns1 dx (fun y=>if y=name then some v else mA y)->(∀b o,b≠dx->s.heap.get? b=some o->h'.get? b=some o)->Q () { s with heap:=h',toks:=t' }):
  wpAny (model prog w) A (setAttr (.ref x) name v) Q E s:=by
 obtain⟨oD,hoD⟩:∃o,s.heap.get? dx=some o:=let ⟨o,_,_,e,_⟩:=hn;⟨o,e⟩
 have J:InstAt s.heap x { cls:=.ref C,dict:=some dx,data:=.fields vs } C (some oD):=⟨hx,rfl,rfl,hoD⟩
 refine PySem.W.set_plain X J hs (gY (s:={ s with toks:=s.toks+1 }) X J hp ht fun b=>?_);obtain⟨cd,hc,hd'⟩:=any_some hh;refine wAa (wBa (wAa (wAa (wpAny_loadPart hx (wAa (Looks.here (s:={ s with toks:=s.toks+1 }) (looks_clsIn X hc) ?_))))));rw[hd'];refine wBa (a:=some dx) (wAa (wBa (wAa ?_)));refine wpAny_nsSet1 (s:={ s with toks:=s.toks+1 }) hn fun h' hn2 hs2=>?_;obtain⟨oD,esD,epD,hoD,hdD,hcD⟩:=hn2.count (PySem.Within.cons name v hw);refine wAa (wpAny_lookBehind hoD (by rw[hdD];exact pastItsLine_dict (wSa hcD (by rw[vXa];omega))) ?_);exact wBa (h h' _ hn2 fun b o n q=>(hs2.2 b n).trans q)
end
noncomputable def xE(C e:Addr)(od:Option Addr):HO:=.ext fun h=>∃t,h.get? e=some { cls:=.ref C,dict:=od,data:=.fields #[.ref t,.none,.none,.none,.bool false,.none] }
theorem kr{P:Program}{w:World}{H:Hp}{hp:Heap}{C e t:Addr}{od:Option Addr}(h:hp.get? e=some { cls:=.ref C,dict:=od,data:=.fields #[.ref t,.none,.none,.none,.bool false,.none] }):jC P w H hp e (xE C e od):=⟨⟨t,h⟩,⟨_,h⟩,fun _ _ ⟨t,q⟩ k=>⟨t,k _ q⟩⟩
structure ExS (K:Frag) (C:Addr) (f:Str):Prop where
 sa:findIn K (.ref C) "__setattr__" = some (some (.builtin "object.__setattr__"))
 eo:yh K C=true
 tk:takerIn K C f=some none
 hd:hasDictIn K C=true
section
variable {X:Cx} {pins:List (Addr×Obj)} {U:St} {H:Hp} {s:Shared} {C a dx t:Addr} {f:Str} {u:Value} {v:V} {A:Around} {E:Value->Shared->Prop} {fv:List (Str×V)} {mA:Str->Option Value}
theorem Inv.exc0{h':Heap}{t':Nat}(I:Inv X pins U H s)(e:H a=some (xE C a none))(hx:h'.get? a=some { cls:=.ref C,dict:=some s.heap.objs.size,data:=.fields #[.ref t,.none,.none,.none,.bool false,.none] })(ok:∀H',jC X.prog X.w H' h' s.heap.objs.size (xW s.heap.objs.size fv))
  (k:∀b o,b≠a->s.heap.get? b=some o->h'.get? b=some o):Inv X pins U (upd (upd H s.heap.objs.size (xW s.heap.objs.size fv)) a (xE C a (some s.heap.objs.size))) { s with heap:=h',toks:=t' }:=by
 have fr:H s.heap.objs.size=none:=I.fresh;have na:∀b,H b=none->b≠a:=fun b n z=>by rw[z,e]at n;cases n
 have nd:∀b o,H b=some o->b≠s.heap.objs.size:=fun b o q z=>by rw[z,fr]at q;cases q
 have oth:∀b o,H b=some o->b≠a->upd (upd H s.heap.objs.size (xW s.heap.objs.size fv)) a (xE C a (some s.heap.objs.size)) b=some o:=fun b o q n=>by rw[j7 n,j7 (nd b o q)];exact q
 have ne:∀b o,H b=some o->(∀φ,o≠.ext φ)->b≠a:=fun b o q n z=>by rw[z,e]at q;exact n _ (vFa q).symm
 refine I.un ⟨fun b o q n _ _=>k b o (na b n) q,fun b o q n _ _=>⟨o.slots,k b o (na b n) q⟩,fun b o q n _=>?_,fun b o q _=>?_,fun b xs q=>oth b _ q (ne b _ q fun _ z=>by cases z),fun b o xs q=>oth b _ q (ne b _ q fun _ z=>by cases z),fun b ps q=>⟨#[],by rw[oth b _ q (ne b _ q fun _ z=>by cases z)];simp⟩⟩ fun b o q=>?_
 ·rw[j7 (na b n),j7 (Nat.ne_of_lt (Heap.lt_size q))];exact n
 ·by_cases z:b=a
  ·rw[z];exact⟨_,hx⟩
  ·exact⟨o,k b o z q⟩
 ·by_cases z:b=a
  ·subst z;rw[jc]at q;cases q;exact kr hx
  ·rw[j7 z]at q;by_cases y:b=s.heap.objs.size
   ·subst y;rw[jc]at q;cases q;exact ok _
   ·rw[j7 y]at q;refine(I.hok b o q).stay (fun c v hc r=>k c v ?_ r) (fun c r=>oth c _ r (ne c _ r fun _ z=>by cases z)) fun c xs t r=>oth c _ r (ne c _ r fun _ z=>by subst z;exact t);rcases hc with rfl | hc
    ·exact z
    ·exact ne c _ hc fun _ z=>by cases z
theorem ku{Q:Unit->Shared->Prop}(I:Inv X pins U H s)(e:H a=some (xE C a none))(c:ExS X.K C f)(hr:je v u)
  (h:∀dx s',H dx=none->dx≠a->Inv X pins U (upd (upd H dx (xW dx [(f,v)])) a (xE C a (some dx))) s'->Q () s'):wpAny (model X.prog X.w) A (setAttr (.ref a) f u) Q E s:=by
 obtain⟨⟨t,hx⟩,_⟩:=I.hok a _ e;refine Wt I.kIn hx c.sa c.eo c.tk c.hd fun h' t' q1 q2 q3=>h _ _ I.fresh (fun z=>?_) (I.exc0 e q1 (fun _=>qp q2 (PySem.Within.cons f u PySem.Within.nil) fun p hp=>?_) q3)
 ·have:=I.fresh;rw[z,e]at this;cases this
 ·rw[List.mem_singleton.mp hp];exact⟨u,if_pos rfl,hr⟩
theorem kx{Q:Unit->Shared->Prop}(I:Inv X pins U H s)(e:H a=some (xE C a (some dx)))(e2:H dx=some (xW dx fv))(hne:a≠dx)(c:ExS X.K C f)(hz:fv.length < 1000)(hf:∀p∈fv,p.1≠f)(hr:je v u)
  (h:∀s',Inv X pins U (upd H dx (xW dx ((f,v)::fv))) s'->Q () s'):wpAny (model X.prog X.w) A (setAttr (.ref a) f u) Q E s:=by
 obtain⟨⟨t,hx⟩,_⟩:=I.hok a _ e;obtain⟨⟨mA,hn,hw,hu⟩,_⟩:=I.hok dx _ e2;refine Wu I.kIn hx hn hne c.sa c.eo c.tk c.hd hw (by rw[sizeLine_eq,vYa];omega) fun h' t' q1 q2=>h _ ?_;refine I.write (x:=dx) (e:=dx) (by rw[e2];exact True.intro) (.inl rfl) (fun b o n q=>q2 b o n q) ?_ (qp q1 (PySem.Within.cons f u hw) fun p hp=>?_)
 ·obtain⟨o,_,_,z,_⟩:=q1;exact⟨o,z⟩
 ·rcases uTa hp with rfl | hp
  ·exact⟨u,if_pos rfl,hr⟩
  ·obtain⟨w,h1,h2⟩:=hu p hp;exact⟨w,(if_neg (hf p hp)).trans h1,h2⟩
def sX(K:Frag)(ta tv:TE)(f:Str):TS:=fun D U H=>tv U H fun y H1=>ta U H1 fun x H2=>∃a C,x=.ref a/\ExS K C f/\
 ((H2 a=some (xE C a none)/\∀dx,H2 dx=none->dx≠a->D.nx U (upd (upd H2 dx (xW dx [(f,y)])) a (xE C a (some dx)))) \/∃dx fv,H2 a=some (xE C a (some dx))/\H2 dx=some (xW dx fv)/\a≠dx/\fv.length < 1000/\(∀p∈fv,p.1≠f)/\D.nx U (upd H2 dx (xW dx ((f,y)::fv))))
theorem Wv{o value:Expr}{ta tv:TE}{pos pos':Pos}(ha:PE X o ta)(hv:PE X value tv)(hs:swapsWith value (some (.Attribute o f pos')) pos.line X.env=pure false):PS X (.Assign [.Attribute o f pos'] value pos) (sX X.K ta tv f):=by
 intro pins s U H D I h;refine plainObj_wpAny_Assign_Attribute (jm (hv pins s U H _ I h) fun u s1 xx=>?_) hs;obtain⟨y,H1,I1,ry,q⟩:=xx;refine jm (ha pins s1 U H1 _ I1 q) fun ov s2 xx=>?_;obtain⟨x,H2,I2,rx,a,C,ex,c,q2⟩:=xx;subst ex;obtain rfl:ov=Value.ref a:=rx;rcases q2 with⟨e,q⟩ | ⟨dx,fv,e,e2,n,z,hf,q⟩
 ·exact ku I2 e c ry fun dx s3 n1 n2 I3=>⟨U,_,I3,q dx n1 n2⟩
 ·exact kx I2 e e2 n c z hf ry fun s3 I3=>⟨U,_,I3,q⟩
end
end L2
namespace L2
open PySem PySem.Spec PyProof.Rows
noncomputable abbrev Ys(l:List Value):Obj:={ cls:=.type "tuple",data:=.seq l.toArray }
noncomputable abbrev YS(C t:Addr):Obj:={ cls:=.ref C,data:=.fields #[.ref t,.none,.none,.none,.bool false,.none] }
section
variable {prog:Program} {w:World} {A:Around} {E:Value->Shared->Prop} {h:Heap} {g:Array GenState} {d:Drawn} {t:Nat} {os:OsState}
variable {nm q:Str} {C N fi:Addr} {bs bm bmB:List Value} {hdct:Bool} {sn:List Str} {sub:List Value} {ab:Bool} {col:Option Bool} {dd:Option Addr} {k0 k1 k2 k3 k5:Option Value} {B newId initId:String}
theorem xL(F:ExcBaseFacts B newId initId bmB)(T:OwnTail h bmB bm){mN:Str->Option Value}{l:List Value}{Q:Fin->Shared->Prop}
  (hC:h.get? C=some (excClassObj nm q C N bs bm hdct sn sub ab col dd k0 k1 k2 k3 k5 newId)) (hn:h.Ns N mN) (hni:mN "__init__" = some (.ref fi)) (hl:l.length<=sizeLine)
  (hb:∀h':Heap,(∀b o,h.get? b=some o->h'.get? b=some o)->∀self,PySem.W.Looks (model prog w) h' (bindSpecial (.ref fi) self) (.ref fi,[self]))
  (hi:codeAny (model prog w) A (.call (.ref fi) ⟨.ref (h.objs.size+1)::l,[]⟩) (fun r s'=>match r with | .ok (.ret .none)=>Q (.done (.ret (.ref (h.objs.size+1)))) s' | .ok _=>False | .error ev=>E ev s') ⟨(h.push (Ys l)).push (YS C h.objs.size),g,d,t,os⟩):
  wpAny (model prog w) A (Builtin.«type.__call__» ⟨.ref C::l,[]⟩) Q E ⟨h,g,d,t,os⟩:=by
 have kp:∀b o,h.get? b=some o->((h.push (Ys l)).push (YS C h.objs.size)).get? b=some o:=fun b o e=>wIa _ (wIa _ e)
 repeat (first | with_reducible refine wpAny_loadPart_at hC ?_ | with_reducible refine wpAny_madeBy_exc hC ?_ | wp_step)
 refine codeAny_call_builtin_code (Code.quiet_builtin _ F.quiet) (wpAny_check_new_subT F T hC (codeAny_exc_new_subT F T hC ?_ hl));show wpAny _ _ _ _ _ _;have c1:=kp _ _ hC;have n1:((h.push (Ys l)).push (YS C h.objs.size)).Ns N mN:=hn.keeps kp;have T1:=T.keeps kp;have g1:((h.push (Ys l)).push (YS C h.objs.size)).get? (h.objs.size+1)=some (YS C h.objs.size):=by heap_get
 have cc:(Value.ref C::bm).contains (.ref C)=true:=by simp
 unfold isInstance
 repeat (first | with_reducible refine wpAny_loadPart_at g1 ?_ | (with_reducible refine wpAny_isSubtype_exc c1 ?_;rw[cc]) | wp_step)
 show wpAny _ _ (typeLookup (.ref C) _) _ _ _;refine wpAny_typeLookup_tail c1 n1 T1 F.mroIs F.init.lookup ?_;rw[hni];refine wDa (wAa ((hb _ kp _).here ?_));refine wAa (wHa (codeAny_mono hi fun r s' z=>?_));cases r with
 | error ev=>exact z
 | ok fl=>
  cases fl with
  | ret v=>
   cases v with
   | none=>exact wBa (wBa z)
   | _=>exact z.elim
  | _=>exact z.elim
theorem VS(F:ExcBaseFacts B newId initId bmB)(T:OwnTail h bmB bm){mN:Str->Option Value}{l:List Value}{Q:Value->Shared->Prop}
  (hC:h.get? C=some (excClassObj nm q C N bs bm hdct sn sub ab col dd k0 k1 k2 k3 k5 newId)) (hn:h.Ns N mN) (hni:mN "__init__" = some (.ref fi)) (hl:l.length<=sizeLine)
  (hb:∀h':Heap,(∀b o,h.get? b=some o->h'.get? b=some o)->∀self,PySem.W.Looks (model prog w) h' (bindSpecial (.ref fi) self) (.ref fi,[self]))
  (hi:codeAny (model prog w) (A.under (.builtin "type.__call__" ⟨.ref C::l,[]⟩)) (.call (.ref fi) ⟨.ref (h.objs.size+1)::l,[]⟩) (fun r s'=>match r with | .ok (.ret .none)=>Q (.ref (h.objs.size+1)) s' | .ok _=>False | .error ev=>E ev s') ⟨(h.push (Ys l)).push (YS C h.objs.size),g,d,t,os⟩):
  wpAny (model prog w) A (call (.ref C) l) Q E ⟨h,g,d,t,os⟩:=by
 have f1:=tc_lookup;have f2:=tc_bind (.ref C);have hT:(⟨h,g,d,t,os⟩:Shared).TypeIs (.ref C) "type" := ⟨_,hC,rfl⟩
 refine wHa (codeAny_of_tree ?_);show wpAny _ _ (callAny (.ref C) _) _ _ _
 repeat (any_goals (first | assumption | with_reducible refine wpAny_loadPart_at hC ?_ | wp_step))
 refine⟨rfl,?_⟩;refine codeAny_call_builtin_at (Code.quiet_builtin _ (by decide +kernel)) entry_typeCall (wpAny_check_type_call_sub hC (xL F T hC hn hni hl hb ?_));refine codeAny_mono hi fun r s' z=>?_;cases r with
 | error ev=>exact z
 | ok fl=>
  cases fl with
  | ret v=>cases v <;> exact z
  | _=>exact z
end
theorem kz{M:Model}{A:Around}{E:Value->Shared->Prop}{env:Env}{nm q:Str}{C N:Addr}{bs bm:List Value}{hdct:Bool}{sn:List Str}{sub:List Value}{ab:Bool}{col:Option Bool}{dd:Option Addr}{k0 k1 k2 k3 k5:Option Value}{newId:String}{s:Shared}{x:Sem Value}{Q:Flow->Shared->Prop}(hb:bm.contains (.type "BaseException")=true)(hh:A.handled=none)
  (h:wpAny M A x (fun v s₁=>∃e oe,v=.ref e/\s₁.heap.get? C=some (excClassObj nm q C N bs bm hdct sn sub ab col dd k0 k1 k2 k3 k5 newId)/\s₁.heap.get? e=some oe/\oe.cls=.ref C/\(∃t,oe.data=.fields #[.ref t,.none,.none,.none,.bool false,.none])/\E (.ref e) s₁) E s):
  wpAny M A (raiseStmt env (some x) none) Q E s:=by
 have cB:(Value.ref C::bm).contains (.type "BaseException")=true:=by rw[List.contains_cons,hb,Bool.or_true]
 unfold raiseStmt;refine wAa (wCa h (fun v s₁ h₁=>?_) fun _ _ x=>x);obtain⟨e,oe,rfl,hC,he,hc,⟨vs,hd⟩,hE⟩:=h₁;obtain⟨hp,g,d,tk,os⟩:=s₁;obtain⟨oc,od,odt,osl⟩:=oe;dsimp only at hc hd;subst hc hd
 repeat (first | with_reducible refine wpAny_loadPart_at he ?_ | with_reducible refine wpAny_loadPart_at hC ?_ | (with_reducible refine wpAny_isSubtype_exc hC ?_;rw[cB]) | wp_step)
 exact wpAny_raiseNew_none hh hE
set_option tactic.hygienic true in
theorem xM{K:uXa}{h:Heap}{N:Addr}{m:Str->Option Value}{n:Str}{v:Value}(X:K.In h)(G:h.Ns N m)(e:PySem.W.nsIn K N n=some (some v)):m n=some v:=by
 obtain⟨o,es,ep,ho,hd,_,hf⟩:=G;unfold PySem.W.nsIn at e;split at e
 ·rename_i c d es' n' sl q;have z:=X _ _ q;rw[ho]at z;cases z;cases hd;split at e
  ·rename_i en he;cases e;rw[<-hf];unfold nsFind findBy;rw[<-Array.find?_toList,he];rfl
  ·split at e <;> cases e
 ·cases e
noncomputable def ya(K:uXa)(C:Addr)(bmB:List Value)(newId:String)(fi:Addr):Bool:=match K.lookup C with
 | some ⟨.type "type",_,.cls cd,sl⟩=>(match cd.mro,sl.toList with
  | .ref C'::bm,[_,_,_,_,some (.builtin n),_]=>C'==C&&(n==newId&&(!cd.hasDel&&(PySem.W.tailIn K bmB bm&&(PySem.W.nsOkIn K cd.ns&&PySem.W.nsIn K cd.ns "__init__" == some (some (.ref fi))))))
  | _,_=>false)
 | _=>false
set_option tactic.hygienic true in
theorem Ur{K:uXa}{h:Heap}{C fi:Addr}{bmB:List Value}{nid:String}(X:K.In h)(q:ya K C bmB nid fi=true):
  ∃bm N nm q bs hdct sn sub ab col dd k0 k1 k2 k3 k5 mN,h.get? C=some (excClassObj nm q C N bs bm hdct sn sub ab col dd k0 k1 k2 k3 k5 nid)/\h.Ns N mN/\mN "__init__" = some (.ref fi)/\OwnTail h bmB bm:=by
 unfold ya at q;split at q
 ·rename_i dd cl slots hobj;split at q
  ·rename_i C1 tl x0 x1 x2 x3 nn x5 hmro hslots;simp only[Bool.and_eq_true,beq_iff_eq,Bool.not_eq_true']at q;obtain⟨rfl,rfl,z1,z2,z3,z4⟩:=q;obtain⟨c1,c2,c3,c4,c5,c6,c7,c8,c9,c10,c11⟩:=cl;dsimp only at hmro z1 z3 z4;subst hmro z1;have e:slots=#[x0,x1,x2,x3,some (.builtin nn),x5]:=by obtain⟨l⟩:=slots;simp only at hslots;rw[hslots]
   subst e;have G:h.Ns c4 (h.nsMap c4):=.of_isNs (PySem.W.isNs_of_in X z3);exact⟨tl,c4,c1,c5,c2,c6,c7,c8,c9,c10,dd,x0,x1,x2,x3,x5,_,X _ _ hobj,G,xM X G z4,PySem.W.tail_of_in X z2⟩
  ·cases q
 ·cases q
def Us(C:Addr)(fs:List Str):Sp:=fun vs H Q _=>∃e vs',vs=.ref e::vs'/\vs'.length=fs.length/\H e=some (xE C e none)/\∀dx,H dx=none->dx≠e->Q .non (upd (upd H dx (xW dx (fs.zip vs').reverse)) e (xE C e (some dx)))
section
variable {P:Program} {w:World} {K:uXa} {mg:Str->Option Value} {base:Heap} {x qual:Str} {st:Stmt} {f C:Addr} {fd:FuncData} {k:Nat} {a0 a1 a2 f1 f2:Str} {p1 p2 p3 p4 q1 q2 q3 q4:Pos}
theorem CQ(F:Fun K x qual st f fd)(S:FnScope [a0,a1,a2] [a0,a1,a2] (defScope st))
  (hb:defBody st=[.Assign [.Attribute (.Name a0 p1) f1 p2] (.Name a1 p3) p4,.Assign [.Attribute (.Name a0 q1) f2 q2] (.Name a2 q3) q4]) (c1:ExS K C f1) (c2:ExS K C f2) (hf:f1≠f2) (v0:zS (defScope st) a0) (v1:zS (defScope st) a1) (v2:zS (defScope st) a2)
  (d0:(a0==("__debug__" : Str))=false) (d1:(a1==("__debug__" : Str))=false) (d2:(a2==("__debug__" : Str))=false) (e0:(a0==("__classdict__" : Str))=false) (e1:(a1==("__classdict__" : Str))=false) (e2:(a2==("__classdict__" : Str))=false):
  FnOk P w K mg base Jx (k+1) f fd [a0,a1,a2] (Us C [f1,f2]):=by
 refine F.ok S (fun vs H Q E xx=>?_) fun cdv A outer s H vs Q E hr xx=>?_
 ·obtain⟨e,vs',z,l,_⟩:=xx;rw[z,vXa,l];rfl
 ·obtain⟨e,vs',z,l,he,q⟩:=xx;obtain⟨y1,y2,rfl⟩:∃y1 y2,vs'=[y1,y2]:=by
   match vs',l with
   | [y1,y2],_=>exact⟨y1,y2,rfl⟩
  subst z;rw[hb];refine⟨_,zp (Wv (Yj (i:=0) rfl v0 d0 e0) (Yj (i:=1) rfl v1 d1 e1) rfl) (z9 (Wv (Yj (i:=0) rfl v0 d0 e0) (Yj (i:=2) rfl v2 d2 e2) rfl)),?_⟩;refine⟨y1,rfl,.ref e,rfl,e,C,rfl,c1,.inl ⟨he,fun dx n1 n2=>?_⟩⟩;refine⟨y2,rfl,.ref e,rfl,e,C,rfl,c2,.inr ⟨dx,[(f1,y1)],jc,by rw[j7 n2,jc],n2.symm,(by show 1 < 1000;decide),fun p hp=>by rw[List.mem_singleton.mp hp];exact hf,?_⟩⟩;have e9:upd (upd (upd H dx (xW dx [(f1,y1)])) e (xE C e (some dx))) dx (xW dx [(f2,y2),(f1,y1)])=upd (upd H dx (xW dx [(f2,y2),(f1,y1)])) e (xE C e (some dx)):=by
   funext b;by_cases z:b=dx
   ·subst z;rw[jc,j7 n2,jc]
   ·by_cases y:b=e
    ·subst y;rw[j7 z,jc,jc]
    ·rw[j7 z,j7 y,j7 z,j7 y,j7 z]
  show Q .non (upd (upd (upd H dx (xW dx [(f1,y1)])) e (xE C e (some dx))) dx (xW dx [(f2,y2),(f1,y1)]));rw[e9];exact q dx n1 n2
theorem CS(F:Fun K x qual st f fd)(S:FnScope [a0,a1] [a0,a1] (defScope st))
  (hb:defBody st=[.Assign [.Attribute (.Name a0 p1) f1 p2] (.Name a1 p3) p4]) (c1:ExS K C f1) (v0:zS (defScope st) a0) (v1:zS (defScope st) a1)
  (d0:(a0==("__debug__" : Str))=false) (d1:(a1==("__debug__" : Str))=false) (e0:(a0==("__classdict__" : Str))=false) (e1:(a1==("__classdict__" : Str))=false):
  FnOk P w K mg base Jx (k+1) f fd [a0,a1] (Us C [f1]):=by
 refine F.ok S (fun vs H Q E xx=>?_) fun cdv A outer s H vs Q E hr xx=>?_
 ·obtain⟨e,vs',z,l,_⟩:=xx;rw[z,vXa,l];rfl
 ·obtain⟨e,vs',z,l,he,q⟩:=xx;obtain⟨y1,rfl⟩:∃y1,vs'=[y1]:=by
   match vs',l with
   | [y1],_=>exact⟨y1,rfl⟩
  subst z;rw[hb];refine⟨_,z9 (Wv (Yj (i:=0) rfl v0 d0 e0) (Yj (i:=1) rfl v1 d1 e1) rfl),?_⟩;exact⟨y1,rfl,.ref e,rfl,e,C,rfl,c1,.inl ⟨he,fun dx n1 n2=>q dx n1 n2⟩⟩
end
section
variable {P:Program} {w:World} {K:uXa} {mg:Str->Option Value} {base:Heap} {N:List Str} {qual:Str} {scope:Scope} {f:Addr} {cd:Value} {A:Around} {outer:List Env} {s0:Shared} {H0:Hp} {E:XK}
theorem KJ{x:Str}{np cpos pos:Pos}{a:Expr}{es:List Expr}{C fi:Addr}{bmB:List Value}{B newId initId:String}{fd:FuncData}{k:Nat}{ps:List Str}{fs:List Str}{ta:TA}
  (ens:PySem.W.nsIn K mainGlobals x=some (some (.ref C))) (exi:ya K C bmB newId fi=true) (FB:ExcBaseFacts B newId initId bmB) (kp:PySem.W.keepIn K (.ref C)=true) (ft:PySem.W.typeIn K (.ref fi)=some (.type "function"))
  (FI:FnOk P w K mg base Jx k fi fd ps (Us C fs)) (hz:fs.length<=1000) (hps:ps.length=fs.length+1) (hb:jY K fd ps []) (hr:Room (k+1) (A.deeper (envOfC qual scope s0.heap.objs.size f cd)))
  (hg:Gl (jS (J3 P w) P w K mg base N qual scope f cd A outer s0 H0 E) x) (hd:(x==("__debug__" : Str))=false)
  (ha:PA (jS (J3 P w) P w K mg base N qual scope f cd A outer s0 H0 E) (a::es) ta)
  (he:starEach (a::es) (envOfC qual scope s0.heap.objs.size f cd)=(false,eval a (envOfC qual scope s0.heap.objs.size f cd))::starEach es (envOfC qual scope s0.heap.objs.size f cd)) (hpl:(backTo cpos (starEach es (envOfC qual scope s0.heap.objs.size f cd))).any (·.1)=false):
  PS (jS (J3 P w) P w K mg base N qual scope f cd A outer s0 H0 E) (.Raise (some (.Call (.Name x np) (a::es) [] cpos)) none pos) (fun _ U H=>ta U H fun vs H1=>vs.length=fs.length/\∀dx,H1 dx=none->E (.ref C) (some dx) (upd H1 dx (xW dx (fs.zip vs).reverse))):=by
 intro pins s U H D I h;have hh:(A.deeper (envOfC qual scope s0.heap.objs.size f cd)).handled=none:=I.ok.hd rfl;obtain⟨bm,N',nm,q,bs,hdct,sn,sub,ab,col,dd,k0,k1,k2,k3,k5,mN,hC,hn,hni,T⟩:=Ur I.mod.kin exi;have hm:=PySem.W.mg_of I.mod.kin I.mod.glob ens;show wpAny (model P w) (A.deeper (envOfC qual scope s0.heap.objs.size f cd)) (exec _ (envOfC qual scope s0.heap.objs.size f cd)) _ _ s;rw[arm_exec_Raise];refine wAa (vOa (kz (nm:=nm) (q:=q) (C:=C) (N:=N') (bs:=bs) (bm:=bm) (hdct:=hdct) (sn:=sn) (sub:=sub) (ab:=ab) (col:=col) (dd:=dd) (k0:=k0) (k1:=k1) (k2:=k2) (k3:=k3) (k5:=k5) (newId:=newId) (T.hasType FB.hasBase) hh ?_));refine wAa (wCa ?_ (fun v s3 h3=>wAa (vOa (wBa h3))) fun _ _ z=>z);refine wpAny_Call_Name_kw (JB I hg hm ?_ hd);refine PySem.W.callWith_K (h₀:=base) I.ok.mod.kin kp (wCa (ha cpos pins s U H _ I h) (fun us s1 ⟨vs,H1,I1,r,q1,qE⟩=>⟨I1.kIn,?_⟩) fun _ _ z=>z) he hpl;have hl:us.length=fs.length:=by rw[<-r.length];exact q1
 have I2a:=I1.kept (h':=s1.heap.push (Ys us)) (t':=s1.toks) fun b u q=>wIa _ q;have I2:=I2a.laid (a:=s1.heap.objs.size+1) (o:=xE C (s1.heap.objs.size+1) none) (h':=(s1.heap.push (Ys us)).push (YS C s1.heap.objs.size)) (t':=s1.toks) (fun b u q=>wIa _ q) (Nat.le_of_eq (Heap.size_push _ _)) (kr (t:=s1.heap.objs.size) (by heap_get));have f1':H1 (s1.heap.objs.size+1)=none:=I1.hok.fresh (vMa _);have r2:jd (V.ref (s1.heap.objs.size+1)::vs) (Value.ref (s1.heap.objs.size+1)::us):=.cons rfl r;have hbd:=hb { s1 with heap:=(s1.heap.push (Ys us)).push (YS C s1.heap.objs.size) } (Value.ref (s1.heap.objs.size+1)::us) I2.kIn (by rw[uFa,vXa,hl,hps]);rw[uFa]at hbd;have hsp:Us C fs (.ref (s1.heap.objs.size+1)::vs) (upd H1 (s1.heap.objs.size+1) (xE C (s1.heap.objs.size+1) none)) (fun v H'=>v=.non/\∃dx,H1 dx=none/\dx≠s1.heap.objs.size+1/\H'=upd (upd (upd H1 (s1.heap.objs.size+1) (xE C (s1.heap.objs.size+1) none)) dx (xW dx (fs.zip vs).reverse)) (s1.heap.objs.size+1) (xE C (s1.heap.objs.size+1) (some dx))) E:=
  ⟨_,vs,rfl,q1,jc,fun dx n1 n2=>⟨rfl,dx,by rw[j7 n2]at n1;exact n1,n2,rfl⟩⟩
 refine VS FB (T.keeps I1.bk) (I1.bk _ _ hC) (hn.keeps I1.bk) hni (by show us.length<=sizeLine;rw[hl,sizeLine_eq];omega) (fun h' kk self=>PySem.W.bind_fn (I1.kIn.keeps kk) self ft) (codeAny_mono (FI.run _ _ _ _ ⟨Value.ref (s1.heap.objs.size+1)::us,[]⟩ (Value.ref (s1.heap.objs.size+1)::us) _ _ E (hr.make C us []) (I2.env0.make C us []) hbd r2 hsp) fun r s' hq'=>?_);cases r with
 | error ev=>exact False.elim hq'
 | ok fl=>
  cases fl with
  | ret v=>
   obtain⟨v',H',I3,rv,rfl,dx,n1,n2,rfl⟩:=I2.after hq';obtain rfl:v=Value.none:=rv;have ee:upd (upd (upd H1 (s1.heap.objs.size+1) (xE C (s1.heap.objs.size+1) none)) dx (xW dx (fs.zip vs).reverse)) (s1.heap.objs.size+1) (xE C (s1.heap.objs.size+1) (some dx)) (s1.heap.objs.size+1)=some (xE C (s1.heap.objs.size+1) (some dx)):=jc;obtain⟨⟨t,hx⟩,_⟩:=I3.hok _ _ ee;have h1:upd H1 dx (xW dx (fs.zip vs).reverse) (s1.heap.objs.size+1)=none:=by rw[j7 n2.symm];exact f1'
   refine⟨_,_,rfl,I3.bk _ _ hC,hx,rfl,⟨t,rfl⟩,gR (od:=some dx) (H1:=upd H1 dx (xW dx (fs.zip vs).reverse)) (t:=t) I3 hx rfl rfl (Heap.get?_none_of_le (Nat.le_succ_of_le I1.sz)) h1 (fun b=>?_) (fun d z=>z) (qE dx n1)⟩;by_cases y:b=s1.heap.objs.size+1
   ·subst y;exact .inr ⟨h1,_,ee⟩
   ·by_cases z:b=dx
    ·subst z;exact .inl (by rw[jc,j7 y,jc])
    ·exact .inl (by rw[j7 z,j7 y,j7 z,j7 y])
  | next=>exact False.elim hq'
  | brk=>exact False.elim hq'
  | cont=>exact False.elim hq'
end
end L2
set_option maxHeartbeats 200000
namespace L2
open PySem PySem.Spec PyProof.Rows PySem.W Builtin
theorem Ut:∀{l:List Value},Za l=true->l.contains (.type "BaseException")=true
 | .ref c::r,e=>by rw[List.contains_cons,Ut (l:=r) e,Bool.or_true]
 | [],e=>by cases e
 | .type a::r,e=>by rw[eq_of_beq (show(Value.type a::r==_)=true from e)];decide
theorem xN:builtinKind "BaseException.__getattribute__" = some .slot:=by decide +kernel
theorem Ww:splitId "BaseException.__getattribute__" = some ("BaseException", "__getattribute__"):=by decide +kernel
theorem Wx:plainId "BaseException.__getattribute__" = true:=by decide +kernel
section
variable {prog:Program} {w:World} {A:Around} {E:Value->Shared->Prop} {s:Shared} {K:Frag} {x C:Addr} {ox:Obj} {od:Option Obj} {name:Str} {v:Value} {expr:Bool} {Q:Value->Shared->Prop}
theorem xO(X:K.In s.heap)(I:InstAt s.heap x ox C od)(hga:findIn K (.ref C) "__getattribute__" = some (some (.builtin "BaseException.__getattribute__")))(hgn:findIn K (.ref C) "__getattr__" = some none)(hp:yh K C=true)
  (hf:findObj K C od name=some (.value v)) (hh:handedIn v=true) (h:Q v { s with toks:=s.toks+1 }):wpAny (model prog w) A (getAttr (.ref x) name expr) Q E s:=by
 obtain⟨hp',g,d,t,os⟩:=s;have L0:=I.type (M:=model prog w);have L1:=looks_findIn (M:=model prog w) X hga;have L2:=looks_findIn (M:=model prog w) X hgn;have L3:=looks_find (M:=model prog w) X I hf;obtain⟨cd,hc,ho⟩:=any_some hp;have ne:cd.mro.isEmpty=false:=by cases q:cd.mro with | nil=>rw[q]at ho;cases ho | cons _ _=>rfl
 have sub:Looks (model prog w) hp' (isInstance (.ref x) (.type "BaseException")) true:=I.type.andThen (looks_mroIn X (by unfold mroIn;rw[hc,Option.bind_some,if_neg (by rw[ne];decide),Ut ho]));unfold getAttr getAttrBy;refine wAa (wpAny_mkText (wDa (wAa (L0.at (wAa (L1.at ?_))))));show wpAny _ _ (getAttrByItsOwn _ _ _ _ _ _) _ _ _;unfold getAttrByItsOwn;refine wAa ((show Looks (model prog w) hp' (hookBefore (.ref C)) none from L2).at ?_);refine wAa (wpAny_attempt (wDa ?_));have e0:(expr&&onTheHeap (Value.builtin "BaseException.__getattribute__"))=false:=by cases expr <;> rfl
 unfold callGetattribute;rw[e0];show wpAny _ _ (boundAndCalled _ _ _) _ _ _;unfold boundAndCalled;rw[PySem.F.attr_ValueError.ga.bind (.ref x)];refine wAa (wBa ?_);show wpAny _ _ (call (.builtin "BaseException.__getattribute__") [.ref x,.str name t]) _ _ _;refine wHa (codeAny_call_builtin Wx F.entry_bexc_ga (@check_slot (model prog w) _ _ _ "BaseException.__getattribute__" "BaseException" "__getattribute__" (.ref x) [.str name t] [] _ xN Ww sub (F.args_bexc_ga _ _) ?_));unfold Builtin.«object.__getattribute__»;have e1:slotArgs "__getattribute__" 1 { pos:=[Value.ref x,Value.str name t] }=pure (Value.ref x,[Value.str name t]):=rfl;have e2:ObjectAttr.attrName (Value.str name t)=pure name:=rfl;rw[e1];refine wAa (wBa ?_);dsimp only;rw[e2];refine wAa (wBa (wAa (L0.at (wAa (L3.at ?_)))));refine wBa ?_;show wpAny _ _ (handedOut v) _ _ _;rw[handedOut_of hh];exact wBa h
end
end L2
set_option maxHeartbeats 400000
namespace L2
open PySem PySem.Spec PyProof.Rows PySem.W
structure ExG (K:Frag) (C:Addr) (f:Str):Prop where
 ga:findIn K (.ref C) "__getattribute__" = some (some (.builtin "BaseException.__getattribute__"))
 gn:findIn K (.ref C) "__getattr__" = some none
 eo:yh K C=true
 hd:hasDictIn K C=true
 nf:findIn K (.ref C) f=some none
section
variable {X:Cx} {o:Expr} {ta:TE} {f:Str} {pos:Pos}
def EH(K:Frag)(ta:TE)(f:Str):TE:=fun U H Q=>ta U H fun x H1=>∃e C dx fv v,x=.ref e/\H1 e=some (xC e C (some dx))/\H1 dx=some (xW dx fv)/\(f,v)∈fv/\ExG K C f/\Q v H1
theorem AL(he:PE X o ta)(hb:attributeBase o f X.env (eval o X.env)=eval o X.env):PE X (.Attribute o f pos) (EH X.K ta f):=by
 intro pins s U H Q I h;refine JC hb (jm (he pins s U H _ I h) fun u s1 xx=>?_);obtain⟨x,H1,I1,rx,e,C,dx,fv,v,ex,hp,hx,hf,c,q⟩:=xx;subst ex;obtain rfl:u=Value.ref e:=rx;obtain⟨⟨oe,hpe,hc,hnc,hd⟩,_⟩:=I1.hok e _ hp
 replace hd:=hd dx rfl
 obtain⟨⟨mA,hn,hw,hu⟩,_⟩:=I1.hok dx _ hx;obtain⟨uv,hu,hr⟩:=hu _ hf;obtain⟨od,ho,hl⟩:=Vv hn;obtain⟨oc,odt,oda,osl⟩:=oe;dsimp only at hc hd;subst hc hd;have J:InstAt s1.heap e ⟨.ref C,some dx,oda,osl⟩ C (some od):=⟨hpe,rfl,hnc,ho⟩
 exact xO I1.kIn J c.ga c.gn c.eo (findObj_own c.hd c.nf rfl (by rw[hl,hu])) (Vw hr) ⟨v,H1,I1.tok _,hr,q⟩
end
end L2
namespace DS
open PySem PySem.Spec PyProof.Rows L2
def PX(K:Fr)(E:XK)(p:Xp)(H:Hp):Prop:=match p.2 with
 | []=>E (.ref (ji K p.1)) none H
 | _::_=>∀dx,H dx=none->E (.ref (ji K p.1)) (some dx) (upd H dx (xW dx p.2))
inductive Rx where
 | ok (d:D) | xc (p:Xp)
abbrev DX:=jb->Option Rx
def AM(K:Fr)(E:XK)(H:Hp)(O:List Addr)(Q:VK):Rx->Prop
 | .ok d=>∀v H',j3 H H'->j5 K (j4 H' O) d v->Q v H'
 | .xc p=>∀H',j3 H H'->PX K E p H'
def tX(K:Fr)(E:XK)(dx:DX):TE:=fun U H Q=>∃H0 O0 Z O r,Rel K H0 O0 Z U H O/\dx Z=some r/\AM K E H O Q r
def Zb(K:Fr)(ks:List Bool)(F:List D->Option Rx):Sp:=fun vs H Q E=>∃O ds r,(∀a∈O,H a≠none)/\Jh K O H ks ds vs/\F ds=some r/\AM K E H O Q r
@[simp] noncomputable def Q1(F:List D->Option Rx)(ds:List D):Option D:=(F ds).bind fun r=>match r with
 | .ok d=>some d
 | _=>none
@[simp] def Q2(ks:List Bool)(n:Nat)(body:DS)(ds:List D):Option Rx:=(body (yq ks ds n)).bind fun r=>match r with
 | .rt d=>some (.ok d)
 | .rf o=>some (.ok o.toD)
 | .nx _=>some (.ok .non)
 | .xc p _=>some (.xc p)
 | _=>none
@[simp] def vR(F:List D->Option Rx)(l:DA)(Z:jb):Option Rx:=(J9 l Z).bind F
@[simp] noncomputable def VT(dx:DX)(k:D->DS)(Z:jb):Option Rs:=(dx Z).bind fun r=>match r with
 | .ok d=>k d Z
 | .xc p=>some (.xc p Z)
section
variable {P:Program} {w:World} {K:Fr} {mg:Str->Option Value} {base:Heap} {x qual:Str} {st:Stmt} {f:Addr} {fd:FuncData} {N ps:List Str} {k n:Nat} {ks:List Bool} {body:DS} {F:List D->Option Rx}
theorem CT(Fu:Fun K x qual st f fd)(S:FnScope N ps (defScope st))(hk:ks.length=ps.length)(hn:N.length - ps.length=n)
  (hb:∀(cdv:Value) (A:Around) (outer:List Env) (s:Shared) (H:Hp) (E:XK),Room k (A.deeper (envOfC qual (defScope st) s.heap.objs.size f cdv))->jG (jS (J3 P w) P w K mg base N qual (defScope st) f cdv A outer s H E) (defBody st) (tS K (PX K E) body)):
  FnOk P w K mg base (J3 P w) (k+1) f fd ps (Zb K ks (Q2 ks n body)):=by
 obtain⟨oc,od,kV,doc,pm,an,cdv,ct,osl,rfl,lk,hcd⟩:=Fu.ex;refine GF lk hcd S (fun vs H Q E h=>?_) fun A outer s H vs Q E hr h=>?_
 ·obtain⟨O,ds,d,_,ak,_⟩:=h;have:=ak.len
  lia
 ·obtain⟨O,ds,r0,al,ak,e,q⟩:=h;refine⟨_,hb cdv A outer s H E hr,?_⟩;obtain⟨r,e1,e2⟩:=j0 e;have hl:N.length - vs.length=n:=by have:=ak.len;lia
  unfold L2.JY;rw[hl];refine⟨H,⟨O,0⟩,_,O,r,Uc ak al,e1,?_⟩;cases r with
  | rt d'=>cases e2;exact fun v H' s r=>q v H' s r
  | rf o=>
   cases e2;exact fun l H' s hl ow=>q _ H' s ((ow.same (fun _ z=>z) (jJ fun a h=>wMa _ h)).rep fun u z=>by rw[jg (fun y=>al l y hl)];exact z)
  | nx Z=>cases e2;exact fun U' H' O' R' _=>q _ H' R'.keep (by rw[j5])
  | xc p Z=>cases e2;exact fun U' H' O' R'=>q H' R'.keep
  | rh d Z=>cases e2
  | bk Z=>cases e2
  | ct Z=>cases e2
theorem DH{K':Fr}(G:FnOk P w K' mg base (J3 P w) k f fd ps (Zb K ks F)):FnOk P w K' mg base Jx k f fd ps (Y5 K ks (Q1 F)):=by
 have key:∀{vs:List V} {H:Hp} {Q:VK} {E:XK},Y5 K ks (Q1 F) vs H Q E->Zb K ks F vs H Q fun _ _ _=>False:=fun h=>by
  obtain⟨O,ds,d,al,ak,e,q⟩:=h;obtain⟨r,e1,e2⟩:=j0 e;cases r with
  | ok d'=>cases e2;exact⟨O,ds,_,al,ak,e1,q⟩
  | xc p=>cases e2
 refine⟨fun vs H Q E h=>G.len vs H Q _ (key h),fun A outer s H args us vs Q E hr he hb hv hs=>codeAny_mono (G.run A outer s H args us vs Q _ hr he hb hv (key hs)) fun r s' z=>?_⟩;cases r with
 | ok fl=>cases fl <;> exact z
 | error ev=>
  obtain⟨_,_,_,_,_,_,_,z⟩:=z;exact z.elim
end
section
variable {X:Cx} {K:Fr} {E:XK} {e:Expr} {es:List Expr} {st:Stmt} {pos:Pos} {dx:DX} {i kk:Nat} {g:DG}
theorem AN{k:Nat}{f:Addr}{fd:FuncData}{ps:List Str}{ks:List Bool}{x:Str}{p:Pos}{l:DA}{F:List D->Option Rx}(G:FnOk X.prog X.w X.K X.mg X.base (J3 X.prog X.w) k f fd ps (Zb K ks F))(hr:Room k X.A)(hm:X.mg x=some (.ref f))(hk:PySem.W.keepIn X.K (.ref f)=true)(hb:jY X.K fd ps [])
  (hx:JM (J3 X.prog X.w) X E) (ha:PA X (e::es) (Ji K l)) (hks:l.map (·.1)=ks) (hg:Gl X x) (hdb:(x==("__debug__" : Str))=false) (he:starEach (e::es) X.env=(false,eval e X.env)::starEach es X.env) (hpl:(backTo pos (starEach es X.env)).any (·.1)=false):
  PE X (.Call (.Name x p) (e::es) [] pos) (tX K E (vR F l)):=jj (gA G hr hg hm hk hb .nil hx ha hdb he hpl) fun U H Q xx=>by
 obtain⟨H0,O0,Z,O,r,R,ed,q⟩:=xx;subst hks;obtain⟨ds,e1,e2⟩:=j0 ed;refine⟨H0,O0,Z,O,ds,R,e1,fun vs H1 s1 r1=>?_⟩
 (try dsimp only)
 rw[uFa];refine⟨O,ds,r,(R.grow s1).al,r1,e2,?_⟩;cases r with
 | ok d=>exact fun v H' s r=>q v H' (s1.trans s) r
 | xc p=>exact fun H' s=>q H' (s1.trans s)
theorem AO(h:PS X st (JQ (tX K E dx) (JX i))):PS X st (tS K (PX K E) (VT dx fun d Z=>some (.nx (Z.set i (.cl d))))):=jy h fun D U H xx=>by
 obtain⟨H0,O0,Z,O,r,R,ed,f⟩:=xx;obtain⟨r',e1,e2⟩:=j0 ed;refine⟨H0,O0,Z,O,r',R,e1,?_⟩;cases r' with
 | ok d=>cases e2;exact fun v H' s q=>f _ H' O ((R.grow s).set q i) (ja s)
 | xc p=>cases e2;exact fun H' s=>f U H' O (R.grow s)
theorem xP(h:PS X st (zq (tX K E dx))):PS X st (tS K (PX K E) (VT dx fun _ Z=>some (.nx Z))):=jy h fun D U H xx=>by
 obtain⟨H0,O0,Z,O,r,R,ed,f⟩:=xx;obtain⟨r',e1,e2⟩:=j0 ed;refine⟨H0,O0,Z,O,r',R,e1,?_⟩;cases r' with
 | ok d=>cases e2;exact fun v H' s q=>f _ H' O (R.grow s) (ja s)
 | xc p=>cases e2;exact fun H' s=>f U H' O (R.grow s)
theorem AQ(h:PE X e (tX K E dx)):PS X (.Return (some e) pos) (tS K (PX K E) (VT dx fun d _=>some (.rt d))):=jy (zT h) fun D U H xx=>by
 obtain⟨H0,O0,Z,O,r,R,ed,f⟩:=xx;obtain⟨r',e1,e2⟩:=j0 ed;refine⟨H0,O0,Z,O,r',R,e1,?_⟩;cases r' with
 | ok d=>cases e2;exact fun v H' s q=>f v H' (R.keep.trans s) (q.same (jJ R.sub))
 | xc p=>cases e2;exact fun H' s=>f U H' O (R.grow s)
theorem AR(h:PS X st (JQ (tX K E dx) (tG K kk g))):PS X st (tS K (PX K E) (VT dx fun d Z=>(g d Z).bind fun Z'=>some (.nx Z'))):=jy h fun D U H xx=>by
 obtain⟨H0,O0,Z,O,r,R,ed,f⟩:=xx;obtain⟨r',e1,e2⟩:=j0 ed;refine⟨H0,O0,Z,O,r',R,e1,?_⟩;cases r' with
 | ok d=>
  obtain⟨Z',e3,e4⟩:=j0 e2;cases e4;exact fun v H' s q=>⟨H0,O0,Z,O,d,Z',R.grow s,q,e3,fun U' R' _=>f U' H' O R' (ja s)⟩
 | xc p=>cases e2;exact fun H' s=>f U H' O (R.grow s)
noncomputable def fU:D->Option V
 | .int i=>some (.int i)
 | .str x=>some (.str x)
 | _=>none
def kC:List D->Option (List V)
 | []=>some []
 | d::ds=>(fU d).bind fun v=>(kC ds).bind fun vs=>some (v::vs)
theorem kD{O:List Addr}{H:Hp}:∀{ks:List Bool} {ds:List D} {vs ws:List V},Jh K O H ks ds vs->kC ds=some ws->vs=ws
 | [],[],[],_,_,e=>by cases e;rfl
 | k::ks,d::ds,v::vs,_,h,e=>by
  obtain⟨y,e1,e⟩:=j0 e;obtain⟨ys,e2,e⟩:=j0 e;cases e;rw[kD h.2 e2];have h1:RB K O H d v:=by
   cases k
   ·exact h.1
   ·exact .inl h.1
  cases d <;> cases e1
  ·rw[h1.int]
  ·rw[h1.str]
 | [],[],_::_,_,h,_=>h.elim
 | [],_::_,_,_,h,_=>h.elim
 | _::_,[],_,_,h,_=>h.elim
 | _::_,_::_,[],_,h,_=>h.elim
@[simp] noncomputable def DJ(c:Str)(Z:jb):Option Rs:=some (.xc (c,[]) Z)
@[simp] def AS(c:Str)(fs:List Str)(l:DA)(Z:jb):Option Rs:=(J9 l Z).bind fun ds=>(kC ds).bind fun vs=>if vs.length=fs.length/\fs≠[]then some (.xc (c,(fs.zip vs).reverse) Z)else none
theorem EI{c:Str}(h:PS X st (fun _ _ H=>E (.ref (ji K c)) none H)):PS X st (tS K (PX K E) (DJ c)):=jy h fun D U H xx=>by
 obtain⟨H0,O0,Z,O,r,R,ed,f⟩:=xx;cases ed;exact f U H O R
theorem CU{c:Str}{fs:List Str}{l:DA}(h:PS X st (fun _ U H=>Ji K l U H fun vs H1=>vs.length=fs.length/\∀dx,H1 dx=none->E (.ref (ji K c)) (some dx) (upd H1 dx (xW dx (fs.zip vs).reverse)))):PS X st (tS K (PX K E) (AS c fs l)):=jy h fun D U H xx=>by
 obtain⟨H0,O0,Z,O,r,R,ed,f⟩:=xx;obtain⟨ds,e1,ed⟩:=j0 ed;obtain⟨ws,e2,ed⟩:=j0 ed;by_cases hz:ws.length=fs.length/\fs≠[]
 ·rw[if_pos hz]at ed;cases ed;refine⟨H0,O0,Z,O,ds,R,e1,fun vs H1 s1 r1=>?_⟩;have:=kD r1 e2;subst this;have f1:=f U H1 O (R.grow s1);unfold PX at f1;refine⟨hz.1,?_⟩;dsimp only at f1;split at f1
  ·have e0:=congrArg List.length (by assumption:(fs.zip vs).reverse=[]);rw[List.length_reverse,List.length_zip,hz.1,Nat.min_self]at e0;exact vDa (List.length_eq_zero_iff.mp e0) hz.2
  ·exact f1
 ·rw[if_neg hz]at ed;cases ed
end
theorem Rel.un{K:Fr}{H0 H:Hp}{O0:FA}{O:List Addr}{Z:jb}{U:L2.St}(R:Rel K H0 O0 Z U H O)(i:Nat)(v:Option V):Rel K H0 O0 (Z.set i .un) (U.set i v) H O where
 len:=by rw[List.length_set,List.length_set];exact R.len
 lo:=R.lo.up (fun j q x e=>Z4 (by intro _ _ z;cases z) e) (fun a _ z=>ZR (by intro _ _ z;cases z) R.len z) (fun a h _=>⟨h,fun u z=>z⟩) (j3.refl _)
 sub:=R.sub
 fr:=R.fr
 al0:=R.al0
 al:=R.al
 keep:=R.keep
 cl:=fun j d' e=>by
  rcases jf e with⟨rfl,e',hi⟩ | ⟨ne,e'⟩
  ·cases e'
  ·rw[jx ne];exact R.cl j d' e'
 bo:=fun j d' e=>by
  rcases jf e with⟨rfl,e',hi⟩ | ⟨ne,e'⟩
  ·cases e'
  ·rw[jx ne];exact R.bo j d' e'
 ow:=fun j q' d' e=>by
  rcases jf e with⟨rfl,e',hi⟩ | ⟨ne,e'⟩
  ·cases e'
  ·rw[jx ne];exact R.ow j q' d' e'
 dist:=fun j k q1 q2 ds es l e1 e2 s1 s2=>by
  rcases jf e1 with⟨rfl,e',hi⟩ | ⟨ne,e1'⟩
  ·cases e'
  ·rcases jf e2 with⟨rfl,e',hi⟩ | ⟨ne2,e2'⟩
   ·cases e'
   ·rw[jx ne]at s1;rw[jx ne2]at s2;exact R.dist j k q1 q2 ds es l e1' e2' s1 s2
section
variable {X:Cx} {K:Fr} {a:Expr} {da:DE} {pos p p2:Pos} {C f:Str} {ex:List Str}
theorem Vf{α:Type}{x:Str}{g:α}:∀{l:List (Str×α)},l.lookup x=some g->(x,g)∈l
 | [],h=>by cases h
 | (y,g')::r,h=>by
  rw[List.lookup_cons]at h;cases e:x==y
  ·rw[e]at h;exact wMa _ (Vf h)
  ·rw[e]at h;cases h;rw[eq_of_beq e];exact wNa
@[simp] noncomputable def AU(ex:List Str)(C:Str):D->Option D
 | .exn c _=>if ex.contains c=true then some (.bl (c==C))else none
 | _=>none
theorem CV{Cc:Addr}(ha:PE X a (tR K da))(hc:PE X (.Name C p2) (tC (.ref Cc)))(hg:Gl X "isinstance")(hm:X.mg "isinstance" = none)(he:starEach (a::[.Name C p2]) X.env=(false,eval a X.env)::starEach [.Name C p2] X.env)(hK:X.K=K)
  (hk:∀c∈ex,ExC K (ji K c)/\PySem.W.kitOne K (.ref (ji K c)) (.ref Cc)=some (c==C)):PE X (.Call (.Name "isinstance" p) [a,.Name C p2] [] pos) (tE K (d1 (AU ex C) da)):=
 jj (Js Uq hg hm PyProof.Rows.boot_isinstance (jB ha (jB hc Jc) he) (by decide) (by decide) he) fun U H Q xx=>by
  obtain⟨H0,O0,Z,O,d,R,ed,q⟩:=xx;obtain⟨x,e1,e2⟩:=j0 ed;refine⟨H0,O0,Z,O,x,R,e1,fun v H1 s1 r1=>?_⟩;cases x with
  | exn c fv=>
   have e2:(if ex.contains c=true then some (D.bl (c==C))else none)=some d:=e2;split at e2
   ·cases e2;have r2:=r1.full;rw[j5]at r2;obtain⟨e,od,rfl,h1,_⟩:=r2;obtain⟨k1,k2⟩:=hk c (List.contains_iff_mem.mp (by assumption));subst hK;exact⟨e,_,od,_,_,_,rfl,(fun u r=>r),h1,k1,k2,q _ H1 s1 (by rw[j5])⟩
   ·cases e2
  | _=>cases e2
noncomputable def AV:V->Option D
 | .int i=>some (.int i)
 | .str x=>some (.str x)
 | _=>none
@[simp] def AW(xf:List (Str×Str))(f:Str):D->Option D
 | .exn c fv=>if xf.contains (c,f)=true then(fv.lookup f).bind AV else none
 | _=>none
theorem CW{xf:List (Str×Str)}(ha:PE X a (tR K da))(hb:attributeBase a f X.env (eval a X.env)=eval a X.env)(hK:X.K=K)(hk:∀p∈xf,ExG K (ji K p.1) p.2):PE X (.Attribute a f pos) (tE K (d1 (AW xf f) da)):=
 jj (AL ha hb) fun U H Q xx=>by
  obtain⟨H0,O0,Z,O,d,R,ed,q⟩:=xx;obtain⟨x,e1,e2⟩:=j0 ed;refine⟨H0,O0,Z,O,x,R,e1,fun v H1 s1 r1=>?_⟩;cases x with
  | exn c fv=>
   have e2:(if xf.contains (c,f)=true then(fv.lookup f).bind AV else none)=some d:=e2;split at e2
   ·obtain⟨v,e3,e4⟩:=j0 e2;have hm:=Vf e3;have r2:=r1.full;rw[j5]at r2;obtain⟨e,od,rfl,h1,h2⟩:=r2;obtain⟨dx,rfl,h3⟩:=h2 (fun z=>by rw[z]at hm;cases hm);have k1:=hk (c,f) (List.contains_iff_mem.mp (by assumption));subst hK;refine⟨e,_,dx,fv,v,rfl,h1,h3,hm,k1,q _ H1 s1 ?_⟩;cases v <;> cases e4 <;> rw[j5]
   ·cases e2
  | _=>cases e2
end
structure Hd where
 cs:List Str
 no:List Str
 i:Nat
 d:DS
@[simp] noncomputable def fV(i:Nat):Rs->Rs
 | .nx Z=>.nx (Z.set i .un)
 | .bk Z=>.bk (Z.set i .un)
 | .ct Z=>.ct (Z.set i .un)
 | .xc p Z=>.xc p (Z.set i .un)
 | .rh d Z=>.rh d (Z.set i .un)
 | r=>r
def Q3:List Hd->Xp->DS
 | [],_,_=>none
 | h::t,p,Z=>if h.cs.contains p.1=true then(if h.i < Z.length then(h.d (Z.set h.i (.cl (.exn p.1 p.2)))).bind fun r=>some (fV h.i r)else none)else if h.no.contains p.1=true then Q3 t p Z else none
def Wy(dx:DX)(db:DS)(hs:List Hd)(Z:jb):Option Rs:=match dx Z with
 | some (.xc p)=>Q3 hs p Z
 | _=>db Z
def Uu(K:Fr)(Px:Xp->Hp->Prop)(hs:List Hd):TH:=fun cls od e D U H=>∃H0 O0 Z O p r,Rel K H0 O0 Z U H O/\cls=.ref (ji K p.1)/\(p.2≠[]->∃dx,od=some dx/\j4 H O dx=some (xW dx p.2))/\H e=none/\Q3 hs p Z=some r/\Fin K Px H0 O0 H O D r
noncomputable def Yt(K:Fr)(dx:DX):Z9:=fun U H Er=>∃H0 O0 Z O p,Rel K H0 O0 Z U H O/\dx Z=some (.xc p)/\∀H',j3 H H'->PX K Er p H'
section
variable {X:Cx} {K:Fr} {Px:Xp->Hp->Prop} {x n:Str} {np hpos tpos pos:Pos} {bd su:List Stmt} {b₀:Stmt} {h₀:ExceptHandler} {hs:List ExceptHandler} {Dc:Addr} {h:Hd} {t:List Hd} {dx:DX} {db:DS}
theorem AX:PH X [] (Uu K Px []):=fun _ _ _ _ _ _ _ _ _ xx=>by
 obtain⟨_,_,_,_,_,_,_,_,_,_,z,_⟩:=xx;cases z
theorem xQ(hNd:X.N.Nodup)(hi:X.N[h.i]?=some n)(hln:X.env.kindOf n=some .local)(hgx:Gl X x)(hmx:X.mg x=some (.ref Dc))(hdx:(x==("__debug__" : Str))=false)(hK:X.K=K)
  (h1:∀c∈h.cs,PySem.W.exmOne K (.ref (ji K c)) (.ref Dc)=some true) (h2:∀c∈h.no,PySem.W.exmOne K (.ref (ji K c)) (.ref Dc)=some false)
  (hu:∀e,jG (X.sui e) (b₀::su) (tS K Px h.d)) (hr:PH X hs (Uu K Px t)):PH X (.ExceptHandler (some (.Name x np)) (some n) (b₀::su) hpos::hs) (Uu K Px (h::t)):=fun pins U H e cls od s D L xx=>by
 refine CO (i:=h.i) (u:=tS K Px h.d) (th:=Uu K Px t) hNd hi hln hgx hmx hdx hu hr pins U H e cls od s D L ?_;obtain⟨H0,O0,Z,O,p,r,R,rfl,hp,he,ed,f⟩:=xx;rw[hK];unfold Q3 at ed;by_cases hc:h.cs.contains p.1=true
 ·rw[if_pos hc]at ed;refine⟨true,h1 _ (List.contains_iff_mem.mp hc),?_⟩;rw[if_pos rfl];by_cases hl:h.i < Z.length
  ·rw[if_pos hl]at ed;obtain⟨r',e1,e2⟩:=j0 ed;cases e2;refine⟨_,rfl,H0,O0,_,O,r',?_,e1,?_⟩
   ·have su:=jp he (xC e (ji K p.1) od);refine(R.grow su).set (d:=.exn p.1 p.2) ?_ h.i;rw[j5];refine⟨e,od,rfl,by rw[jg (R.new he)];exact jc,fun z=>?_⟩;obtain⟨dx,z1,z2⟩:=hp z;exact⟨dx,z1,ja su _ _ z2⟩
   ·have sd:j3 (j4 H O) (j4 (upd H e (xC e (ji K p.1) od)) O):=ja (jp he _);cases r' with
    | nx Z'=>exact fun U' H' O' R' t=>f _ H' O' (R'.un h.i none) (sd.trans t)
    | bk Z'=>exact fun U' H' O' R' t=>f _ H' O' (R'.un h.i none) (sd.trans t)
    | ct Z'=>exact fun U' H' O' R' t=>f _ H' O' (R'.un h.i none) (sd.trans t)
    | rt d=>exact f
    | rf o=>exact f
    | xc p Z'=>exact fun U' H' O' R'=>f _ H' O' (R'.un h.i none)
    | rh d Z'=>exact fun v U' H' O' R'=>f v _ H' O' (R'.un h.i none)
  ·rw[if_neg hl]at ed;cases ed
 ·rw[if_neg hc]at ed;by_cases hn:h.no.contains p.1=true
  ·rw[if_pos hn]at ed;refine⟨false,h2 _ (List.contains_iff_mem.mp hn),?_⟩;rw[if_neg Bool.false_ne_true];exact⟨H0,O0,Z,O,p,r,R,rfl,hp,he,ed,f⟩
  ·rw[if_neg hn]at ed;cases ed
theorem CY(hbd:yX X bd (Yt K dx))(hd:jG X.nox bd (tS K Px db))(hh:PH X (h₀::hs) (Uu K Px t))(hst:X.stack=X.env::X.outer)(hfr:X.env.frame=some X.env.locals):PS X (.Try bd (h₀::hs) [] [] tpos) (tS K Px (Wy dx db t)):=
 jy (Q0 (KI hbd hh hst hfr) (gU hd)) fun D U H xx=>by
  obtain⟨H0,O0,Z,O,r,R,ed,f⟩:=xx;unfold Wy at ed;have no:db Z=some r->(Ws (Yt K dx) (Uu K Px t) D U H \/ tS K Px db D U H):=fun ed=>.inr ⟨H0,O0,Z,O,r,R,ed,f⟩;cases e1:dx Z with
  | none=>rw[e1]at ed;exact no ed
  | some rr=>
   rw[e1]at ed;cases rr with
   | ok d=>exact no ed
   | xc p=>
    refine .inl ⟨H0,O0,Z,O,p,R,e1,fun H' s=>?_⟩;unfold PX;cases e2:p.2 with
    | nil=>exact fun e he=>⟨H0,O0,Z,O,p,r,R.grow s,rfl,fun z=>vDa e2 z,he,ed,f.mono (ja s)⟩
    | cons _ _=>
     intro dx hdx e he;rw[<-e2]at he⊢;have s2:=jp hdx (xW dx p.2);refine⟨H0,O0,Z,O,p,r,(R.grow s).grow s2,rfl,fun _=>⟨dx,rfl,?_⟩,he,ed,f.mono (ja (s.trans s2))⟩;rw[jg ((R.grow s).new hdx)];exact jc
theorem xR{k:Nat}{fa:Addr}{fd:FuncData}{ps:List Str}{ks:List Bool}{p:Pos}{ea:Expr}{es:List Expr}{l:DA}{F:List D->Option Rx}(G:FnOk X.prog X.w X.K X.mg X.base (J3 X.prog X.w) k fa fd ps (Zb K ks F))(hr:Room k X.A)(hm:X.mg x=some (.ref fa))(hk:PySem.W.keepIn X.K (.ref fa)=true)(hb:jY X.K fd ps [])
  (ha:PA X.nox (ea::es) (Ji K l)) (hks:l.map (·.1)=ks) (hg:Gl X x) (hdb:(x==("__debug__" : Str))=false) (he:starEach (ea::es) X.env=(false,eval ea X.env)::starEach es X.env) (hpl:(backTo pos (starEach es X.env)).any (·.1)=false):
  VR X (.Call (.Name x p) (ea::es) [] pos) (Yt K (vR F l)):=fun pins s U H Er I xx=>by
 obtain⟨H0,O0,Z,O,p,R,ed,q⟩:=xx;subst hks;obtain⟨ds,e1,e2⟩:=j0 ed;exact xK G hr hg hm hk hb ha hdb he hpl pins s U H Er I ⟨H0,O0,Z,O,ds,R,e1,fun vs H1 s1 r1=>⟨O,ds,.xc p,(R.grow s1).al,r1,e2,fun H' s=>q H' (s1.trans s)⟩⟩
end
@[simp] def AY(F:List D->Option OD)(ds:List D):Option D:=(F ds).bind fun o=>some o.toD
theorem EJ{P:Program}{w:World}{K K':Fr}{mg:Str->Option Value}{base:Heap}{k:Nat}{x:Str}{ps:List Str}{ks:List Bool}{F:List D->Option OD}(G:FnI P w K' mg base k x ps (gJ K ks F)):FnI P w K' mg base k x ps (Y5 K ks (AY F)):=by
 obtain⟨f,fd,G,r⟩:=G.ex;refine⟨f,fd,G.imp fun vs H Q E xx=>?_,r⟩;obtain⟨O,ds,d,al,ak,e,q⟩:=xx;obtain⟨o,e1,e2⟩:=j0 e;cases e2;exact⟨O,ds,o,al,ak,e1,fun l H' s hl ow=>q _ H' s ((ow.same (fun _ z=>z) (jJ fun a h=>wMa _ h)).rep fun u z=>by rw[jg (fun y=>al l y hl)];exact z)⟩
section
variable {X:Cx} {K:Fr} {E:XK} {a b:Expr} {pos p:Pos} {da:DE} {dx:DX} {k:Nat} {x:Str} {ps:List Str} {F:List D->Option D}
@[simp] noncomputable def AZ(F:List D->Option D)(da:DE)(dx:DX)(Z:jb):Option Rx:=(da Z).bind fun d1=>(dx Z).bind fun r=>match r with
 | .ok d2=>(F [d1,d2]).bind fun d=>some (.ok d)
 | .xc p=>some (.xc p)
theorem A_(G:FnI X.prog X.w X.K X.mg X.base k x ps (Y5 K [false,true] F))(hr:Room k X.A)(ha:PE X a (tR K da))(hb:PE X b (tX K E dx))(hg:Gl X x)(hdb:(x==("__debug__" : Str))=false)(h1:starEach [a,b] X.env=(false,eval a X.env)::starEach [b] X.env)(h2:starEach [b] X.env=(false,eval b X.env)::starEach [] X.env)
  (hpl:(backTo pos (starEach [b] X.env)).any (·.1)=false):PE X (.Call (.Name x p) [a,b] [] pos) (tX K E (AZ F da dx)):=jj (GN G hr (jB ha (jB hb Jc h2) h1) hg hdb h1 hpl) fun U H Q xx=>by
 obtain⟨H0,O0,Z,O,r,R,ed,q⟩:=xx;obtain⟨d1,e1,ed⟩:=j0 ed;obtain⟨r2,e2,ed⟩:=j0 ed;refine⟨H0,O0,Z,O,d1,R,e1,fun v1 H1 s1 r1=>⟨H0,O0,Z,O,r2,R.grow s1,e2,?_⟩⟩;cases r2 with
 | xc p=>cases ed;exact fun H' s=>q H' (s1.trans s)
 | ok d2=>
  obtain⟨d,e3,ed⟩:=j0 ed;cases ed;exact fun v2 H2 s2 q2=>⟨O,[d1,d2],d,(R.grow (s1.trans s2)).al,⟨r1.same s2,q2,trivial⟩,e3,fun v H' s rv=>q v H' ((s1.trans s2).trans s) rv⟩
end
end DS
namespace L2
open PySem PySem.Spec PyProof.Rows
section
variable {X:Cx}
noncomputable def Zc:Kd->Bool
 | .l=>true
 | .t=>true
 | _=>false
def Q4(K:uXa)(te:TE):TE:=fun U H Q=>te U H fun x H1=>∃k,wW K H1 x k/\∀p,H1 p=none->Q (.bl (Zc k)) (upd H1 p (.tup [.ty "list",.ty "tuple"]))
theorem xS{e:Expr}{te:TE}{p p1 p2 tp pos:Pos}{x1:Nat}(hgi:Gl X "isinstance")(hmi:X.mg "isinstance" = none)(hgl:Gl X "list")(hml:X.mg "list" = none)(hgt:Gl X "tuple")(hmt:X.mg "tuple" = none)(he:PE X e te)
  (hs:starEach [e,.Tuple [.Name "list" p1,.Name "tuple" p2] x1 tp] X.env=(false,eval e X.env)::starEach [.Tuple [.Name "list" p1,.Name "tuple" p2] x1 tp] X.env:=by rfl)
  (hs2:starEach [.Tuple [.Name "list" p1,.Name "tuple" p2] x1 tp] X.env=(false,eval (.Tuple [.Name "list" p1,.Name "tuple" p2] x1 tp) X.env)::starEach [] X.env:=by rfl):
  PE X (.Call (.Name "isinstance" p) [e,.Tuple [.Name "list" p1,.Name "tuple" p2] x1 tp] [] pos) (Q4 X.K te):=by
 intro pins s U H Q I h;refine wpAny_Call_Name_kw (yT I hgi hmi boot_isinstance ?_);refine PyProof.Rows.callWith_builtin1 ?_ hs (by rw[hs2];rfl);rw[hs];show wpAny _ _ (spliced ((false,eval e X.env)::backTo pos (starEach [.Tuple [.Name "list" p1,.Name "tuple" p2] x1 tp] X.env))) _ _ s;refine Calls.spliced_cons (jm (he pins s U H _ I h) fun u s1 ⟨x,H1,I1,r1,k,hk,q⟩=>?_);rw[hs2];show wpAny _ _ (spliced ((false,eval (.Tuple [.Name "list" p1,.Name "tuple" p2] x1 tp) X.env)::backTo pos (starEach [] X.env))) _ _ s1;refine Calls.spliced_cons ?_;have hpa:PA X [.Name "list" p1,.Name "tuple" p2] (Y8 (tC (.ty "list")) (Y8 (tC (.ty "tuple")) zr)):=jB (Zk hgl hml boot_list rfl) (jB (Zk hgt hmt boot_tuple rfl) Jc);refine wpAny_Tuple_spliced (jm (hpa tp pins s1 U H1 (fun vs H2=>vs=[.ty "list",.ty "tuple"]/\H2=H1) I1 ⟨rfl,rfl⟩) fun us s2 ⟨xs,H2,I2,r2,e1,e2⟩=>?_);subst e1 e2;have eu:us=[.type "list",.type "tuple"]:=by
  cases r2 with
  | cons a b=>
   cases b with
   | cons c d=>
    cases d;cases a;cases c;rfl
 subst eu;refine⟨yg,Calls.spliced_nil ?_⟩;have hf:H2 s2.heap.objs.size=none:=I2.hok.fresh (wPa _);have I3:=I2.laid (h':=s2.heap.push { cls:=.type "tuple",data:=.seq ([.type "list",.type "tuple"]:List Value).toArray }) (t':=s2.toks) (o:=.tup [.ty "list",.ty "tuple"]) (fun b u e=>wIa _ e) (wPa _)
  ⟨yg,[.type "list",.type "tuple"],.cons rfl (.cons rfl .nil),⟨_,wJa _ rfl,rfl,_,rfl⟩⟩
 have fin:∀b tk,b=Zc k->EP X pins U Q (.bool b) { s2 with heap:=s2.heap.push { cls:=.type "tuple",data:=.seq ([.type "list",.type "tuple"]:List Value).toArray },toks:=tk }:=fun b tk eb=>by
  subst eb;exact⟨.bl (Zc k),_,I3.tok tk,rfl,q _ hf⟩
 have tob:∀a o,s2.heap.get? a=some o->(s2.heap.push { cls:=.type "tuple",data:=.seq ([.type "list",.type "tuple"]:List Value).toArray }).get? a=some o:=fun a o e=>wIa _ e;cases k with
 | i=>
  cases x <;> try exact hk.elim
  obtain⟨t,rfl⟩:=r1;exact IsiPair.tupleOf (Tx := "int") (cs:=[.type "list",.type "tuple"]) (vs:=[false,false]) ⟨Answers.of_false_int (by decide +kernel) F.isi_meta_list F.sub_int_list,Answers.of_false_int (by decide +kernel) F.isi_meta_tuple F.sub_int_tuple,trivial⟩ rfl (wJa _ rfl) fun tk=>fin _ tk rfl
 | b=>
  cases x <;> try exact hk.elim
  cases r1;exact IsiPair.tupleOf (Tx := "bool") (cs:=[.type "list",.type "tuple"]) (vs:=[false,false]) ⟨Answers.of_false_bool (by decide +kernel) F.isi_meta_list F.sub_bool_list,Answers.of_false_bool (by decide +kernel) F.isi_meta_tuple F.sub_bool_tuple,trivial⟩ rfl (wJa _ rfl) fun tk=>fin _ tk rfl
 | s=>
  cases x <;> try exact hk.elim
  obtain⟨t,rfl⟩:=r1;exact IsiPair.tupleOf (Tx := "str") (cs:=[.type "list",.type "tuple"]) (vs:=[false,false]) ⟨Answers.of_false_str (by decide +kernel) F.isi_meta_list F.sub_str_list,Answers.of_false_str (by decide +kernel) F.isi_meta_tuple F.sub_str_tuple,trivial⟩ rfl (wJa _ rfl) fun tk=>fin _ tk rfl
 | l=>
  cases x <;> try exact hk.elim
  cases r1;obtain⟨ys,hq⟩:=hk;obtain⟨its,rv,pl,_⟩:=I2.list hq;obtain⟨o,ho,hc,_⟩:=pl.isList;exact IsiPair.tupleOf (Tx := "list") (cs:=[.type "list",.type "tuple"]) (vs:=[true,false]) ⟨Answers.of_true F.isi_meta_list F.sub_list_list,Answers.of_false_list (by decide +kernel) F.isi_meta_tuple F.sub_list_tuple,trivial⟩ ⟨o,tob _ _ ho,hc⟩ (wJa _ rfl) fun tk=>fin _ tk rfl
 | t=>
  cases x <;> try exact hk.elim
  cases r1;obtain⟨ys,hq⟩:=hk;obtain⟨its,rv,pl,_⟩:=I2.tuple hq;obtain⟨o,ho,hc,_⟩:=pl;exact IsiPair.tupleOf (Tx := "tuple") (cs:=[.type "list",.type "tuple"]) (vs:=[false,true]) ⟨Answers.of_false_tuple (by decide +kernel) F.isi_meta_list F.sub_tuple_list,Answers.of_true F.isi_meta_tuple F.sub_tuple_tuple,trivial⟩ ⟨o,tob _ _ ho,hc⟩ (wJa _ rfl) fun tk=>fin _ tk rfl
end
end L2
namespace DS
open PySem PySem.Spec PyProof.Rows L2
section
variable {X:Cx} {K:Fr} {de:DE}
@[simp] def kE:D->Option D:=fun d=>(qT d).bind fun k=>some (.bl (Zc k))
theorem b6{ex:Expr}(h:PE X ex (Q4 X.K (tR K de)))(hK:X.K=K:=by rfl):PE X ex (tE K (d1 kE de)):=jj h fun U H Q ⟨H0,O0,Z,O,d,R,ed,q⟩=>by
 subst hK;obtain⟨x,e1,e2⟩:=j0 ed;obtain⟨k,e3,e2⟩:=j0 e2;cases e2;exact⟨H0,O0,Z,O,x,R,e1,fun v H' s r=>⟨k,qU e3 r,fun p hp=>q _ _ (s.trans (jp hp _)) (by rw[j5])⟩⟩
end
end DS
namespace L2
open PySem PySem.Spec PyProof.Rows
section
variable {X:Cx} {pins:List (Addr×Obj)} {U:St} {H:Hp} {s:Shared} {C a dx t:Addr}
theorem Inv.swapX{φ ψ:Heap->Prop}(I:Inv X pins U H s)(e:H a=some (.ext φ))(ok:jC X.prog X.w (upd H a (.ext ψ)) s.heap a (.ext ψ)):Inv X pins U (upd H a (.ext ψ)) s:=by
 have na:∀b,H b=none->b≠a:=fun b n z=>by rw[z,e]at n;cases n
 have oth:∀b o,H b=some o->b≠a->upd H a (.ext ψ) b=some o:=fun b o q n=>by rw[j7 n];exact q
 have ne:∀b o,H b=some o->(∀φ,o≠.ext φ)->b≠a:=fun b o q n z=>by rw[z,e]at q;exact n _ (vFa q).symm
 refine I.un (h':=s.heap) (t':=s.toks) ⟨fun b o q n _ _=>q,fun b o q n _ _=>⟨o.slots,q⟩,fun b o q n _=>?_,fun b o q _=>⟨o,q⟩,fun b xs q=>oth b _ q (ne b _ q fun _ z=>by cases z),fun b o xs q=>oth b _ q (ne b _ q fun _ z=>by cases z),fun b ps q=>⟨#[],by rw[oth b _ q (ne b _ q fun _ z=>by cases z)];simp⟩⟩ fun b o q=>?_
 ·rw[j7 (na b n)];exact n
 ·by_cases z:b=a
  ·subst z;rw[jc]at q;cases q;exact ok
  ·rw[j7 z]at q;exact(I.hok b o q).stay (fun c v hc r=>r) (fun c r=>oth c _ r (ne c _ r fun _ z=>by cases z)) fun c xs t r=>oth c _ r (ne c _ r fun _ z=>by subst z;exact t)
end
section
variable {X:Cx} {K:uXa}
theorem b7{x:Str}{np cpos:Pos}{a:Expr}{es:List Expr}{C fi:Addr}{bmB:List Value}{B newId initId:String}{fd:FuncData}{k:Nat}{ps:List Str}{fs:List Str}{ta:TA}
  (ens:PySem.W.nsIn X.K mainGlobals x=some (some (.ref C))) (exi:ya X.K C bmB newId fi=true) (FB:ExcBaseFacts B newId initId bmB) (kp:PySem.W.keepIn X.K (.ref C)=true) (ft:PySem.W.typeIn X.K (.ref fi)=some (.type "function"))
  (FI:FnOk X.prog X.w X.K X.mg X.base Jx k fi fd ps (Us C fs)) (hz:fs.length<=1000) (hps:ps.length=fs.length+1) (hb:jY X.K fd ps []) (hr:Room (k+1) X.A)
  (hg:Gl X x) (hd:(x==("__debug__" : Str))=false) (ha:PA X (a::es) ta)
  (he:starEach (a::es) X.env=(false,eval a X.env)::starEach es X.env) (hpl:(backTo cpos (starEach es X.env)).any (·.1)=false):
  PE X (.Call (.Name x np) (a::es) [] cpos) (fun U H Q=>ta U H fun vs H1=>vs.length=fs.length/\∀e dx,H1 e=none->H1 dx=none->dx≠e->Q (.ref e) (upd (upd H1 dx (xW dx (fs.zip vs).reverse)) e (xC e C (some dx)))):=by
 intro pins s U H Q I h;obtain⟨bm,N',nm,q,bs,hdct,sn,sub,ab,col,dd,k0,k1,k2,k3,k5,mN,hC,hn,hni,T⟩:=Ur I.mod.kin exi;have hm:=PySem.W.mg_of I.mod.kin I.mod.glob ens;refine wpAny_Call_Name_kw (JB I hg hm ?_ hd);refine PySem.W.callWith_K (h₀:=X.base) I.ok.mod.kin kp (wCa (ha cpos pins s U H _ I h) (fun us s1 ⟨vs,H1,I1,r,q1,qE⟩=>⟨I1.kIn,?_⟩) fun _ _ z=>z) he hpl;have hl:us.length=fs.length:=by rw[<-r.length];exact q1
 have I2a:=I1.kept (h':=s1.heap.push (Ys us)) (t':=s1.toks) fun b u q=>wIa _ q;have I2:=I2a.laid (a:=s1.heap.objs.size+1) (o:=xE C (s1.heap.objs.size+1) none) (h':=(s1.heap.push (Ys us)).push (YS C s1.heap.objs.size)) (t':=s1.toks) (fun b u q=>wIa _ q) (Nat.le_of_eq (Heap.size_push _ _)) (kr (t:=s1.heap.objs.size) (by heap_get));have f1':H1 (s1.heap.objs.size+1)=none:=I1.hok.fresh (vMa _);have r2:jd (V.ref (s1.heap.objs.size+1)::vs) (Value.ref (s1.heap.objs.size+1)::us):=.cons rfl r;have hbd:=hb { s1 with heap:=(s1.heap.push (Ys us)).push (YS C s1.heap.objs.size) } (Value.ref (s1.heap.objs.size+1)::us) I2.kIn (by rw[uFa,vXa,hl,hps]);rw[uFa]at hbd;have hsp:Us C fs (.ref (s1.heap.objs.size+1)::vs) (upd H1 (s1.heap.objs.size+1) (xE C (s1.heap.objs.size+1) none)) (fun v H'=>v=.non/\∃dx,H1 dx=none/\dx≠s1.heap.objs.size+1/\H'=upd (upd (upd H1 (s1.heap.objs.size+1) (xE C (s1.heap.objs.size+1) none)) dx (xW dx (fs.zip vs).reverse)) (s1.heap.objs.size+1) (xE C (s1.heap.objs.size+1) (some dx))) (fun _ _ _=>False):=
  ⟨_,vs,rfl,q1,jc,fun dx n1 n2=>⟨rfl,dx,by rw[j7 n2]at n1;exact n1,n2,rfl⟩⟩
 refine VS FB (T.keeps I1.bk) (I1.bk _ _ hC) (hn.keeps I1.bk) hni (by show us.length<=sizeLine;rw[hl,sizeLine_eq];omega) (fun h' kk self=>PySem.W.bind_fn (I1.kIn.keeps kk) self ft) (codeAny_mono (FI.run _ _ _ _ ⟨Value.ref (s1.heap.objs.size+1)::us,[]⟩ (Value.ref (s1.heap.objs.size+1)::us) _ _ _ (hr.make C us []) (I2.env0.make C us []) hbd r2 hsp) fun r s' hq'=>?_);cases r with
 | error ev=>exact False.elim hq'
 | ok fl=>
  cases fl with
  | ret v=>
   obtain⟨v',H',I3,rv,rfl,dx,n1,n2,rfl⟩:=I2.after hq';obtain rfl:v=Value.none:=rv;have ee:upd (upd (upd H1 (s1.heap.objs.size+1) (xE C (s1.heap.objs.size+1) none)) dx (xW dx (fs.zip vs).reverse)) (s1.heap.objs.size+1) (xE C (s1.heap.objs.size+1) (some dx)) (s1.heap.objs.size+1)=some (xE C (s1.heap.objs.size+1) (some dx)):=jc;obtain⟨⟨t,hx⟩,_⟩:=I3.hok _ _ ee;have I4:=I3.swapX (ψ:=_) ee (qr (od:=some dx) hx rfl rfl fun d z=>z);have e9:upd (upd (upd (upd H1 (s1.heap.objs.size+1) (xE C (s1.heap.objs.size+1) none)) dx (xW dx (fs.zip vs).reverse)) (s1.heap.objs.size+1) (xE C (s1.heap.objs.size+1) (some dx))) (s1.heap.objs.size+1) (xC (s1.heap.objs.size+1) C (some dx))=upd (upd H1 dx (xW dx (fs.zip vs).reverse)) (s1.heap.objs.size+1) (xC (s1.heap.objs.size+1) C (some dx)):=by
    funext b;by_cases y:b=s1.heap.objs.size+1
    ·subst y;rw[jc,jc]
    ·by_cases z:b=dx
     ·subst z;rw[j7 y,j7 y,jc,j7 y,jc]
     ·rw[j7 y,j7 y,j7 z,j7 y,j7 y,j7 z]
   exact⟨V.ref (s1.heap.objs.size+1),_,e9▸I4,rfl,qE _ dx f1' n1 n2⟩
  | next=>exact False.elim hq'
  | brk=>exact False.elim hq'
  | cont=>exact False.elim hq'
end
end L2
namespace DS
open PySem PySem.Spec PyProof.Rows L2
section
variable {X:Cx} {K:Fr} {e:Expr}
@[simp] def b8(c:Str)(fs:List Str)(l:DA)(Z:jb):Option D:=(J9 l Z).bind fun ds=>(kC ds).bind fun vs=>if vs.length=fs.length/\fs≠[]then some (.exn c (fs.zip vs).reverse)else none
theorem CZ{c:Str}{fs:List Str}{l:DA}(h:PE X e (fun U H Q=>Ji K l U H fun vs H1=>vs.length=fs.length/\∀e dx,H1 e=none->H1 dx=none->dx≠e->Q (.ref e) (upd (upd H1 dx (xW dx (fs.zip vs).reverse)) e (xC e (ji K c) (some dx))))):PE X e (tE K (b8 c fs l)):=jj h fun U H Q xx=>by
 obtain⟨H0,O0,Z,O,d,R,ed,q⟩:=xx;obtain⟨ds,e1,ed⟩:=j0 ed;obtain⟨ws,e2,ed⟩:=j0 ed;by_cases hz:ws.length=fs.length/\fs≠[]
 ·rw[if_pos hz]at ed;cases ed;refine⟨H0,O0,Z,O,ds,R,e1,fun vs H1 s1 r1=>?_⟩;have:=kD r1 e2;subst this;refine⟨hz.1,fun a dx n1 n2 n3=>q _ _ (fun b u z=>?_) ?_⟩
  ·have z1:=s1 b u z;rw[j7 (fun y=>by rw[y,n1]at z1;cases z1),j7 (fun y=>by rw[y,n2]at z1;cases z1)];exact z1
  ·rw[j5];have o1:∀b,H1 b=none->b∉O:=fun b n z=>by
    cases y:H b with
    | none=>exact R.al b z y
    | some u=>rw[s1 b u y]at n;cases n
   refine⟨a,some dx,rfl,?_,fun _=>⟨dx,rfl,?_⟩⟩
   ·rw[jg (o1 a n1),jc]
   ·rw[jg (o1 dx n2),j7 n3,jc]
 ·rw[if_neg hz]at ed;cases ed
@[simp] noncomputable def b9(ex:List Str):D->Option D
 | .exn c _=>if ex.contains c=true then some (.bl true)else none
 | _=>none
theorem C_{a:Expr}{da:DE}{pos p p2:Pos}{n:Str}{T:String}{ex:List Str}(ha:PE X a (tR K da))(hc:PE X (.Name n p2) (tC (.ty T)))(hg:Gl X "isinstance")(hm:X.mg "isinstance" = none)(he:starEach (a::[.Name n p2]) X.env=(false,eval a X.env)::starEach [.Name n p2] X.env)(hK:X.K=K)
  (hk:∀c∈ex,ExC K (ji K c)/\PySem.W.kitOne K (.ref (ji K c)) (.type T)=some true):PE X (.Call (.Name "isinstance" p) [a,.Name n p2] [] pos) (tE K (d1 (b9 ex) da)):=
 jj (Js Uq hg hm PyProof.Rows.boot_isinstance (jB ha (jB hc Jc) he) (by decide) (by decide) he) fun U H Q xx=>by
  obtain⟨H0,O0,Z,O,d,R,ed,q⟩:=xx;obtain⟨x,e1,e2⟩:=j0 ed;refine⟨H0,O0,Z,O,x,R,e1,fun v H1 s1 r1=>?_⟩;cases x with
  | exn c fv=>
   have e2:(if ex.contains c=true then some (D.bl true)else none)=some d:=e2;split at e2
   ·cases e2;have r2:=r1.full;rw[j5]at r2;obtain⟨e,od,rfl,h1,_⟩:=r2;obtain⟨k1,k2⟩:=hk c (List.contains_iff_mem.mp (by assumption));subst hK;exact⟨e,_,od,_,_,_,rfl,(fun u r=>r),h1,k1,k2,q _ H1 s1 (by rw[j5])⟩
   ·cases e2
  | _=>cases e2
end
end DS
namespace L2
open PySem PySem.Spec PyProof.Rows
section
variable {X:Cx} {M:Model} {A:Around} {s:Shared} {E:Value->Shared->Prop}
theorem Wz{a b:Value}{T id:String}{Q:Value->Shared->Prop}(ha:s.TypeIs a T)(hb:s.TypeIs b T)
  (hfi:fillsInplaceSlot (.type T) "add" true=pure false) (hfill:fillsNumberSlot (.type T) "add" = pure false) (hseq:seqSlot? (.type T) (dunderI "add")=pure (some (.builtin id)))
  (hc:wpAny M A (call (.builtin id) [a,b]) Q E s):wpAny M A (inplaceOp .Add a b) Q E s:=by
 unfold inplaceOp;refine wDa ?_;refine wAa (wpAny_typeOf ha (wAa (wpAny_of_eq hfi ?_)));show wpAny M A (if false=true then _ else _) Q E s;rw[if_neg Bool.false_ne_true];refine wAa (wpAny_binaryOp1_none (nm := "add") ha hb hfill ?_);refine wAa (wpAny_of_eq hseq ?_);exact wAa (wpAny_rule hc)
theorem xT:fillsInplaceSlot (.type "list") "add" true=pure false:=by
 unfold fillsInplaceSlot;show(typeLookup (.type "list") (dunderI "add") >>= fun fi=>pure (fi.isSome&&!isSeqSlot fi))=pure false;rw[F.slot_list_iadd.lookup];rfl
theorem xU:seqSlot? (.type "list") (dunderI "add")=pure (some (.builtin "list.__iadd__")):=by
 unfold seqSlot?;rw[F.slot_list_iadd.lookup];rfl
def DL:WW:=fun x y H Q=>∃l b xs zs,x=.ref l/\y=.ref b/\H l=some (.lst xs)/\H b=some (.lst zs)/\xs.length+zs.length<=sizeLine/\Q (.ref l) (upd H l (.lst (xs++zs)))
theorem ba:WX X .Add DL:=by
 intro pins s U H x y v u Q I rx ry h;obtain⟨l,b,xs,zs,rfl,rfl,hH,hB,hz,q⟩:=h;cases rx;cases ry;obtain⟨z,its,n,r,hl,e⟩:=I.lstM hH;obtain⟨z2,its2,n2,r2,hl2,e2⟩:=I.lstM hB;have hsz:its.toArray.size+its2.toArray.size<=sizeLine:=by rw[uLa,uLa];lia
 have hlong:¬(!its.toArray.isEmpty&&Builtin.List.listTooLong (its.toArray.size+its2.toArray.size))=true:=by
  rw[wO hsz,Bool.and_false];exact vNa
 refine Wz (T := "list") ⟨_,e,rfl⟩ ⟨_,e2,rfl⟩ xT noFill_list_add xU ?_;refine call_meets F.slot_list_iadd ⟨_,e,rfl⟩ F.entry_list_iadd (F.args_list_iadd_2 _ _)
  (AutoSeq1.list___iadd___list_list_0 l its.toArray n b its2.toArray n2 hlong (by rw[uLa];lia) (by lia)) ⟨e,e2,?_⟩
 refine⟨.ref l,_,I.lset (its':=its++its2) hH e (by simp) (r.append r2) ?_,rfl,q⟩;rw[vZa]
 lia
end
end L2
namespace DS
open PySem PySem.Spec PyProof.Rows L2
section
variable {X:Cx} {K:Fr} {st:Stmt} {i:Nat} {Px:Xp->Hp->Prop}
@[simp] def WA(i:Nat)(de:DO)(Z:jb):Option Rs:=match Z[i]? with
 | some (.ow q (.lst ds))=>(de Z).bind fun o=>match o with
  | .lst es=>if ds.length+es.length<=sizeLine then some (.nx (Z.set i (.ow q (.lst (ds++es)))))else none
  | _=>none
 | _=>none
set_option tactic.hygienic true in
theorem d4{de:DO}(h:PS X st (wz i (tF K de) DL)):PS X st (tS K Px (WA i de)):=jy h fun D U H xx=>by
 obtain⟨H0,O0,Z,O,r,R,ed,f⟩:=xx;unfold WA at ed;split at ed
 ·rename_i q ds hi;obtain⟨o,e1,e2⟩:=j0 ed;cases o with
  | lst es=>
   have e2:(if ds.length+es.length<=sizeLine then some (Rs.nx (Z.set i (.ow q (.lst (ds++es)))))else none)=some r:=e2;split at e2
   ·rename_i hz;cases e2;obtain⟨l,hq,hs,⟨vs,hl,rp⟩,lo,h0⟩:=R.ow i _ _ hi;refine⟨_,hs,H0,O0,Z,O,_,R,e1,fun b H' s nb ow=>?_⟩;obtain⟨ws,hb,rb⟩:=ow;have R':=R.grow s;have rp':=rp.same (ja s);have rb':=rb.same (jJ (O':=O) fun a h=>wMa _ h);have es:U.set i (some (V.ref l))=U:=by
     refine List.ext_getElem? fun j=>?_;by_cases c:j=i
     ·subst c;rw[hs,yD (List.getElem?_eq_some_iff.mp hs).1]
     ·rw[List.getElem?_set_ne (Ne.symm c)]
    refine⟨l,b,vs,ws,rfl,rfl,s _ _ hl,hb,by rw[rp.len,rb.len];exact hz,?_⟩;show D.nx (List.set U i (some (V.ref l))) _;rw[es];refine f _ _ O (R'.change hi hq hs lo h0 ⟨_,jc,rp'.app rb'⟩) ?_;rw[Jt lo];exact ja s
   ·cases e2
  | ins _ _ _=>cases e2
  | dct _ _=>cases e2
  | dk _ _=>cases e2
 ·cases ed
end
section
variable {X:Cx} {pins:List (Addr×Obj)} {U:L2.St} {H:Hp} {s:Shared} {a b:Addr}
theorem g_:∀{ks l:List KD},ks.Nodup->(∀k∈ks,k∈l)->ks.length<=l.length
 | [],_,_,_=>Nat.zero_le _
 | k::ks,l,nd,h=>by
  obtain⟨n1,n2⟩:=List.nodup_cons.mp nd;have hk:=h k wNa;have:=g_ (l:=l.erase k) n2 fun j hj=>(List.mem_erase_of_ne (fun z:j=k=>n1 (by rw[<-z];exact hj))).mpr (h j (wMa _ hj));rw[List.length_erase_of_mem hk]at this;have:=List.length_pos_of_mem hk;rw[vXa]
  lia
mutual
theorem Q5(I:Inv X pins U H s):∀{k:KD} {v:V} {u:Value},Jp X.K H k v->je v u->jv s.heap k u
 | .i n,v,u,h,r=>by
  rw[Jp]at h;rw[jv];rcases h with rfl | ⟨b,rfl,e⟩
  ·exact .inl r
  ·exact .inr ⟨b,r,e⟩
 | .s x,v,u,h,r=>by
  rw[Jp]at h;subst h;rw[jv];exact r
 | .t l,v,u,h,r=>by
  rw[Jp]at h;obtain⟨a,vs,rfl,t,q⟩:=h;cases r;obtain⟨its,r1,r2,_⟩:=I.tuple (show J8 X.K H a vs from t);rw[jv];exact⟨a,its.toArray,rfl,r2,by simpa using KK I q r1⟩
theorem KK(I:Inv X pins U H s):∀{ks:List KD} {vs:List V} {us:List Value},JF X.K H ks vs->jd vs us->jA s.heap ks us
 | [],vs,us,h,r=>by
  rw[JF]at h;subst h;cases r;rw[jA]
 | k::ks,vs,us,h,r=>by
  rw[JF]at h;obtain⟨v,t,rfl,q1,q2⟩:=h;cases r with
  | cons r1 r2=>
   rw[jA];exact⟨_,_,rfl,Q5 I q1 r1,KK I q2 r2⟩
end
mutual
theorem KL{K:Fr}:∀{d:D} {k:KD} {v:V},j5 K H d v->jz d=some k->Jp K H k v
 | .int i,k,v,h,e=>by
  rw[jz]at e;cases e;rw[j5]at h;rw[Jp];exact .inl h
 | .bl i,k,v,h,e=>by
  rw[jz]at e;cases e;rw[j5]at h;rw[Jp];exact .inr ⟨i,h,rfl⟩
 | .str i,k,v,h,e=>by
  rw[jz]at e;cases e;rw[j5]at h;rw[Jp];exact h
 | .tup l,k,v,h,e=>by
  rw[jz]at e;obtain⟨ks,e1,e2⟩:=j0 e;cases e2;rw[j5]at h;obtain⟨a,xs,rfl,q,rs⟩:=h;rw[Jp];exact⟨a,xs,rfl,q,G8 rs e1⟩
 | .non,k,v,h,e=>by rw[jz]at e <;> first | cases e | (intros;contradiction)
 | .lst _,k,v,h,e=>by rw[jz]at e <;> first | cases e | (intros;contradiction)
 | .ins _ _ _,k,v,h,e=>by rw[jz]at e <;> first | cases e | (intros;contradiction)
 | .obj _ _ _ _ _,k,v,h,e=>by rw[jz]at e <;> first | cases e | (intros;contradiction)
 | .scr _,k,v,h,e=>by rw[jz]at e <;> first | cases e | (intros;contradiction)
 | .dct _ _,k,v,h,e=>by rw[jz]at e <;> first | cases e | (intros;contradiction)
 | .exn _ _,k,v,h,e=>by rw[jz]at e <;> first | cases e | (intros;contradiction)
 | .mem _,k,v,h,e=>by rw[jz]at e <;> first | cases e | (intros;contradiction)
 | .dk _ _,k,v,h,e=>by rw[jz]at e <;> first | cases e | (intros;contradiction)
theorem G8{K:Fr}:∀{l:List D} {ks:List KD} {xs:List V},j1 K H l xs->yL l=some ks->JF K H ks xs
 | [],ks,xs,h,e=>by
  rw[yL]at e;cases e;rw[j1]at h;rw[JF];exact h
 | d::l,ks,xs,h,e=>by
  rw[yL]at e;obtain⟨k,e1,e⟩:=j0 e;obtain⟨ks',e2,e⟩:=j0 e;cases e;rw[j1]at h;obtain⟨v,vs,rfl,h1,h2⟩:=h;rw[JF];exact⟨_,_,rfl,KL h1 e1,G8 h2 e2⟩
end
def d5(K:Fr)(l:List (KD×Bool)):TE:=fun _ H Q=>∀p,H p=none->Q (.ref p) (upd H p (.mem K l []))
theorem xV{K:Fr}{l:List (KD×Bool)}{pos:Pos}(hl:l.length<=sizeLine):PE X (.Dict [] [] pos) (d5 K l):=fun pins s U H Q I h=>
 wpAny_Dict_empty ⟨.ref s.heap.objs.size,_,I.laid (a:=s.heap.objs.size) (o:=.mem K l []) (t':=s.toks) (fun _ _ q=>wIa _ q) (wPa _)
  ⟨hl,beq_eq_false_iff_ne.mpr (Ne.symm (wTa (Inv.big I))),[],(fun _ z=>nomatch z),(fun _ z=>nomatch z),_,#[],_,wJa _ rfl,⟨rfl,rfl,rfl⟩,rfl,rfl,List.nodup_nil⟩,rfl,h _ (I.hok.fresh (wPa _))⟩
theorem v6{l:List (KD×Bool)}{m:List KD}(I:Inv X pins U H s)(h:H a=some (.mem X.K l m)):l.length<=sizeLine/\(a==sysModules)=false/\∃xs:List (KD×Addr×Bool),(∀q∈xs,(q.1,q.2.2)∈l/\Jp X.K H q.1 (.ref q.2.1)/\q.1.dep<=8)/\(∀k∈m,k∈xs.map (·.1))/\(xs.map (·.1)).Nodup/\s.heap.DictOfH (jM X.prog X.w) a (xs.map fun q=>(q.1,q.2.1,Value.bool q.2.2)):=by
 obtain⟨z,y,xs,r,rm,o,es,ep,e1,e2,e3,e4,e5⟩:=I.hok a _ h;refine⟨z,y,xs,r,rm,e5,o,es,ep,e1,e2,e3,e4,fun x hx=>?_,by rw[List.map_map];exact e5⟩;obtain⟨q,hq,rfl⟩:=List.mem_map.mp hx;exact⟨Q5 I (r q hq).2.1 rfl,(r q hq).2.2⟩
theorem Zv{k:KD}:∀xs:List (KD×Addr×Bool),(∃q∈xs,q.1=k/\atKey (xs.map fun q=>(q.1,q.2.1,Value.bool q.2.2)) k=some (q.2.1,.bool q.2.2)) \/ (atKey (xs.map fun q=>(q.1,q.2.1,Value.bool q.2.2)) k=none/\k∉xs.map (·.1))
 | []=>.inr ⟨rfl,fun z=>nomatch z⟩
 | q::xs=>by
  unfold atKey;rw[vWa,List.find?_cons];by_cases h:q.1=k
  ·rw[decide_eq_true h];exact .inl ⟨q,wNa,h,rfl⟩
  ·rw[decide_eq_false h];rcases Zv (k:=k) xs with⟨p,hp,e,z⟩ | ⟨z,n⟩
   ·exact .inl ⟨p,wMa _ hp,e,z⟩
   ·refine .inr ⟨z,fun y=>?_⟩;rcases uTa y with y | y
    ·exact h y.symm
    ·exact n y
theorem zD{K:Fr}{l:List (KD×Bool)}{m m':List KD}(h:H a=some (.mem K l m)){k:KD}{v:V}(q:Jp K H k v):Jp K (upd H a (.mem K l m')) k v:=
 q.stay fun b u t e=>by
  rw[j7 fun z=>by rw[z,h]at e;cases e;exact t];exact e
theorem Inv.memo{l:List (KD×Bool)}{m m':List KD}{t:Nat}{xs:List (KD×Addr×Bool)}(I:Inv X pins U H s)(h:H a=some (.mem X.K l m))(z:l.length<=sizeLine)(y:(a==sysModules)=false)(r:∀q∈xs,(q.1,q.2.2)∈l/\Jp X.K H q.1 (.ref q.2.1)/\q.1.dep<=8)(nd:(xs.map (·.1)).Nodup)
  (dd:s.heap.DictOfH (jM X.prog X.w) a (xs.map fun q=>(q.1,q.2.1,Value.bool q.2.2))) (sb:∀k∈m',k∈xs.map (·.1)):Inv X pins U (upd H a (.mem X.K l m')) { s with toks:=t }:=by
 obtain⟨o,es,ep,e1,e2,e3,e4,_,_⟩:=dd;exact I.write (x:=a) (e:=a) (h':=s.heap) (t':=t) (by rw[h];trivial) (.inl rfl) (fun c z hc e=>e) ⟨_,e1⟩ ⟨z,y,xs,fun q hq=>⟨(r q hq).1,zD h (r q hq).2.1,(r q hq).2.2⟩,sb,o,es,ep,e1,e2,e3,e4,nd⟩
def d6(K:Fr):R2:=fun x y H Q=>∃a b l k dk,x=.ref b/\y=.ref a/\H a=some (.mem K l [])/\j5 K H dk (.ref b)/\Jn dk=some k/\Q (.bl true) H/\Q (.bl false) (upd H a (.mem K l [k]))
theorem Uv{n:Nat}(hr:Room n X.A):jw X (compareOp .NotIn) (d6 X.K):=by
 intro pins s U H x y v u Q I rx ry h;obtain⟨a,b,l,k,dk,rfl,rfl,ha,rb,ek,q1,q2⟩:=h;cases rx;cases ry;obtain⟨zl,hd,xs,r,rm,nd,dd⟩:=v6 I ha;refine wpAny_notIn_heap (knd:=jM X.prog X.w) (yE hr) (yW I rb ek) hd dd ?_;rcases Zv (k:=k) xs with⟨q,hq,e,z⟩ | ⟨z,n⟩
 ·rw[z];exact⟨.bl false,_,Inv.memo I ha zl hd r nd dd fun j hj=>by
   obtain rfl:=List.mem_singleton.mp hj;exact List.mem_map.mpr ⟨q,hq,e⟩,rfl,q2⟩
 ·rw[z];exact⟨.bl true,H,I.tok _,rfl,q1⟩
def Q6(K:Fr):R2:=fun x y H Q=>∃a b l k dk,x=.ref a/\y=.ref b/\H a=some (.mem K l [k])/\j5 K H dk (.ref b)/\Jn dk=some k/\∀v,(k,v)∈l->Q (.bl v) (upd H a (.mem K l []))
theorem bc{n:Nat}(hr:Room n X.A):zf X (Q6 X.K):=by
 intro value slice pins s U H x y v u Q I rx ry h hs;obtain⟨a,b,l,k,dk,rfl,rfl,ha,rb,ek,q⟩:=h;cases rx;cases ry;obtain⟨zl,hd,xs,r,rm,nd,dd⟩:=v6 I ha;rcases Zv (k:=k) xs with⟨p,hp,e,z⟩ | ⟨z,n⟩
 ·exact tail_any dd.typeIs slot_dict_getitem.lookup (wpAny_getItem_heap (knd:=jM X.prog X.w) (yE hr) (yW I rb ek) dd z ⟨.bl p.2.2,_,Inv.memo (m':=[]) I ha zl hd r nd dd fun _ hj=>(nomatch hj),rfl,q _ (e▸(r p hp).1)⟩) hs
 ·exact vDa (rm k wNa) n
theorem xX(xs:List (KD×Addr×Bool))(k:KD)(b:Addr)(c:Bool):∃ys:List (KD×Addr×Bool),storedH (xs.map fun q=>(q.1,q.2.1,Value.bool q.2.2)) k b (.bool c)=(ys.map fun q=>(q.1,q.2.1,Value.bool q.2.2))/\(∀q∈ys,q∈xs \/ q.1=k/\q.2.2=c/\(q.2.1=b \/∃p∈xs,p.1=k/\p.2.1=q.2.1))/\k∈ys.map (·.1):=by
 rcases Zv (k:=k) xs with⟨p,hp,e,z⟩ | ⟨z,n⟩
 ·refine⟨xs.map fun q=>if q.1=k then(q.1,q.2.1,c)else q,?_,fun q hq=>?_,?_⟩
  ·rw[storedH_old z,List.map_map,List.map_map];refine List.map_congr_left fun q _=>?_;show putAt k (.bool c) (q.1,q.2.1,Value.bool q.2.2)=_;unfold putAt;by_cases h:q.1=k <;> simp[h]
  ·obtain⟨p,hp,rfl⟩:=List.mem_map.mp hq;by_cases h:p.1=k
   ·rw[if_pos h];exact .inr ⟨h,rfl,.inr ⟨p,hp,h,rfl⟩⟩
   ·rw[if_neg h];exact .inl hp
  ·refine List.mem_map.mpr ⟨(p.1,p.2.1,c),List.mem_map.mpr ⟨p,hp,if_pos e⟩,e⟩
 ·refine⟨xs++[(k,b,c)],?_,fun q hq=>?_,?_⟩
  ·rw[storedH_new z,uDa];rfl
  ·rcases uWa hq with h | h
   ·exact .inl h
   ·obtain rfl:=List.mem_singleton.mp h;exact .inr ⟨rfl,rfl,.inl rfl⟩
  ·rw[uDa];exact vJa _ wNa
def d8(K:Fr):V->V->V->Hp->(Hp->Prop)->Prop:=fun o i v H Q=>∃a b l k dk c,o=.ref a/\i=.ref b/\v=.bl c/\H a=some (.mem K l [])/\j5 K H dk (.ref b)/\Jn dk=some k/\(k,c)∈l/\Q (upd H a (.mem K l [k]))
theorem xY{n:Nat}(hr:Room n X.A):ut X (d8 X.K):=by
 intro pins s U H o i v ov iv u Q I ro ri rv h;obtain⟨a,b,l,k,dk,c,rfl,rfl,rfl,ha,rb,ek,hc,q⟩:=h;cases ro;cases ri;cases rv;obtain⟨zl,hd,xs,r,rm,nd,dd⟩:=v6 I ha;have hz:(xs.map fun q=>(q.1,q.2.1,Value.bool q.2.2)).length<=sizeLine:=by
  have h1:=g_ (l:=l.map (·.1)) nd fun j hj=>by
   obtain⟨p,hp,rfl⟩:=List.mem_map.mp hj;exact List.mem_map.mpr ⟨_,(r p hp).1,rfl⟩
  rw[vYa,vYa]at h1;rw[vYa]
  lia
 obtain⟨ys,ey,hy,ky⟩:=xX xs k b c;refine wpAny_setItem_heap (hsz:=hz) (knd:=jM X.prog X.w) (yE hr) (yW I rb ek) dd fun h' dd' hs=>?_;rw[ey]at dd';obtain⟨o,es,ep,e1,e2,e3,e4,_,e5⟩:=dd';have new:jC X.prog X.w (upd H a (.mem X.K l [k])) h' a (.mem X.K l [k]):=⟨zl,hd,ys,fun q hq=>?_,fun j hj=>by obtain rfl:=List.mem_singleton.mp hj;exact ky,o,es,ep,e1,e2,e3,e4,by rw[List.map_map]at e5;exact e5⟩
 ·exact⟨_,I.write (x:=a) (e:=a) (t':=s.toks+(jM X.prog X.w).draws k) (by rw[ha];trivial) (.inl rfl) (fun c z hc e=>(hs.2 c hc).trans e) ⟨_,e1⟩ new,q⟩
 ·rcases hy q hq with h | ⟨h1,h2,h3⟩
  ·exact⟨(r q h).1,zD ha (r q h).2.1,(r q h).2.2⟩
  ·rw[h1,h2];rcases h3 with h3 | ⟨p,hp,p1,p2⟩
   ·rw[h3];exact⟨hc,zD ha (KL rb (yV ek).1),(yV ek).2⟩
   ·rw[<-p2];have:=r p hp;rw[p1]at this;exact⟨hc,zD ha this.2.1,this.2.2⟩
end
noncomputable def rest(O:List Addr)(l:Addr)(ps:List Addr):List Addr:=O.filter fun a=>!(l::ps).contains a
theorem Jk{O:List Addr}{l a:Addr}{ps:List Addr}:a∈rest O l ps↔a∈O/\a∉l::ps:=by
 unfold rest;rw[List.mem_filter];simp
section
variable {K:Fr} {H0 H H1 H':Hp} {O0:FA} {O ps ps':List Addr} {Z:jb} {U:L2.St} {i:Nat} {q:Bool} {h h':HS} {l:Addr}
structure LoI (K:Fr) (H0:Hp) (P:Addr) (Z:jb) (U:L2.St) (H:Hp) (O:List Addr) (i:Nat) (q:Bool) (h:HS) (l:Addr) (ps:List Addr):Prop where
 e:Z[i]?=some (.lo q h)
 s:U[i]?=some (some (.ref l))
 p:q=true->l=P
 x:JD K H (j4 H O) l ps h
 n:(l::ps).Nodup
 f:∀a∈l::ps,a∈O/\H0 a=none/\¬zw Z U a
 u:∀j q' h',Z[j]?=some (.lo q' h')->j=i
theorem Rel.loi(R:Rel K H0 O0 Z U H O)(e:Z[i]?=some (.lo q h)):∃l ps,LoI K H0 O0.p Z U H O i q h l ps:=by
 obtain⟨l,ps,a,b,c,d,f,u⟩:=R.lo i q h e;exact⟨l,ps,e,a,b,c,d,f,u⟩
theorem LoI.grow(L:LoI K H0 P Z U H O i q h l ps)(s:j3 H H'):LoI K H0 P Z U H' O i q h l ps:=⟨L.e,L.s,L.p,L.x.mono (fun a _ u z=>s a u z) (ja s),L.n,L.f,L.u⟩
theorem Rel.hmove(R:Rel K H0 O0 Z U H O)(L:LoI K H0 O0.p Z U H O i q h l ps)(k:j3 (j4 H (l::ps)) H')(x':JD K H' (j4 H' (l::ps'++rest O l ps)) l ps' h')(nd:(l::ps').Nodup)(np:∀a∈ps',a∈ps \/ H a=none):
  Rel K H0 O0 (Z.set i (.lo q h')) U H' (l::ps'++rest O l ps)/\j3 (j4 H O) (j4 H' (l::ps'++rest O l ps)):=by
 have kk:∀b u,H b=some u->b∉l::ps->H' b=some u:=fun b u z n=>k b u (by rw[jg n];exact z);have inO:∀a∈l::ps'++rest O l ps,a∈O \/ H a=none:=fun a ha=>by
  rcases uWa ha with z | z
  ·rcases uTa z with rfl | z
   ·exact .inl (L.f a wNa).1
   ·rcases np a z with z | z
    ·exact .inl (L.f a (wMa _ z)).1
    ·exact .inr z
  ·exact .inl (Jk.mp z).1
 have z0:∀a∈l::ps'++rest O l ps,a∈l::ps'->H0 a=none:=fun a _ z=>by
  rcases uTa z with rfl | z
  ·exact(L.f a wNa).2.1
  ·rcases np a z with z | z
   ·exact(L.f a (wMa _ z)).2.1
   ·exact R.keep.none z
 have sd:j3 (j4 H O) (j4 H' (l::ps'++rest O l ps)):=fun b u z=>by
  obtain⟨z1,z2⟩:=jt z;rw[jg (fun y=>by rcases inO b y with y | y;exact z1 y;rw[z2]at y;cases y)];exact kk b u z2 fun y=>z1 (L.f b y).1
 have hii:i < Z.length:=(uSa L.e).1;refine⟨⟨by rw[List.length_set];exact R.len,fun a ha=>?_,fun a ha=>?_,R.al0,fun a ha=>?_,fun b u z=>?_,fun j d e=>?_,fun j d e=>?_,fun j q2 o e=>?_,fun j k2 q1 q2 ds es l2 e1 e2 s1 s2=>?_,fun j q2 h2 e=>?_⟩,sd⟩
 ·exact vJa _ (Jk.mpr ⟨R.sub a ha,fun z=>R.al0 a ha (L.f a z).2.1⟩)
 ·rcases inO a ha with z | z
  ·exact R.fr a z
  ·exact .inr (R.keep.none z)
 ·rcases uWa ha with z | z
  ·obtain⟨o,e⟩:=x'.at a z;rw[e];exact fun z=>nomatch z
  ·obtain⟨z1,z2⟩:=Jk.mp z;cases y:H a with
   | none=>exact vDa y (R.al a z1)
   | some u=>rw[kk a u y z2];exact fun z=>nomatch z
 ·exact kk b u (R.keep b u z) fun y=>by rw[(L.f b y).2.1]at z;cases z
 ·rcases jf e with⟨rfl,e',_⟩ | ⟨ne,e'⟩
  ·cases e'
  ·obtain⟨v,a,b⟩:=R.cl j d e';exact⟨v,a,b.same sd⟩
 ·rcases jf e with⟨rfl,e',_⟩ | ⟨ne,e'⟩
  ·cases e'
  ·exact R.bo j d e'
 ·rcases jf e with⟨rfl,e',_⟩ | ⟨ne,e'⟩
  ·cases e'
  ·obtain⟨l2,z,a,b,c,d⟩:=R.ow j q2 o e';have nf:l2∉l::ps:=fun y=>(L.f l2 y).2.2 ⟨j,_,_,e',a⟩;exact⟨l2,z,a,b.same (fun u y=>kk l2 u y nf) sd,vJa _ (Jk.mpr ⟨c,nf⟩),d⟩
 ·rcases jf e1 with⟨rfl,e',_⟩ | ⟨n1,e1'⟩
  ·cases e'
  ·rcases jf e2 with⟨rfl,e',_⟩ | ⟨n2,e2'⟩
   ·cases e'
   ·exact R.dist j k2 _ _ _ _ l2 e1' e2' s1 s2
 ·rcases jf e with⟨rfl,e',_⟩ | ⟨ne,e'⟩
  ·cases e';refine⟨l,ps',L.s,L.p,x',nd,fun a ha=>⟨vIa _ ha,z0 a (vIa _ ha) ha,fun⟨m,q3,o3,y,z⟩=>?_⟩,fun m q3 h3 y=>?_⟩
   ·rcases jf y with⟨_,y',_⟩ | ⟨_,y'⟩
    ·cases y'
    ·have ft:zw Z U a:=⟨m,_,_,y',z⟩
     rcases uTa ha with rfl | ha
     ·exact(L.f a wNa).2.2 ft
     ·rcases np a ha with w | w
      ·exact(L.f a (wMa _ w)).2.2 ft
      ·obtain⟨l3,_,y1,y2,_⟩:=R.ow m _ _ y';rw[z]at y1;cases y1;exact y2.there w
   ·rcases jf y with⟨y0,_,_⟩ | ⟨_,y'⟩
    ·exact y0
    ·exact L.u m _ _ y'
  ·exact vDa (L.u j _ _ e') ne
noncomputable def Uw:jb->Bool
 | []=>true
 | .lo _ _::_=>false
 | _::r=>Uw r
theorem Yg:∀{Z:jb} {j:Nat},Uw Z=true->Z[j]?≠some (.lo q h)
 | [],j,_,z=>by cases j <;> cases z
 | .lo _ _::_,_,n,_=>by cases n
 | .un::r,0,_,z=>by cases z
 | .cl _::r,0,_,z=>by cases z
 | .bo _::r,0,_,z=>by cases z
 | .ow _ _::r,0,_,z=>by cases z
 | .un::r,j+1,n,z=>Yg (Z:=r) n z
 | .cl _::r,j+1,n,z=>Yg (Z:=r) n z
 | .bo _::r,j+1,n,z=>Yg (Z:=r) n z
 | .ow _ _::r,j+1,n,z=>Yg (Z:=r) n z
theorem Rel.hlay(R:Rel K H0 O0 Z U H O)(s:j3 H H')(nl:Uw (Z.set i .un)=true)(hl:H l=none)(hp:∀a∈ps,H a=none)(nd:(l::ps).Nodup)(x:JD K H' (j4 H' (l::ps++O)) l ps h):
  Rel K H0 O0 (Z.set i (.lo false h)) (U.set i (some (.ref l))) H' (l::ps++O)/\j3 (j4 H O) (j4 H' (l::ps++O)):=by
 have nn:∀a∈l::ps,H a=none:=fun a ha=>by
  rcases uTa ha with rfl | ha
  ·exact hl
  ·exact hp a ha
 have sd:j3 (j4 H O) (j4 H' (l::ps++O)):=fun b u z=>by
  obtain⟨z1,z2⟩:=jt z;rw[jg (fun y=>by rcases List.mem_append.mp y with y | y;rw[nn b y]at z2;cases z2;exact z1 y)];exact s b u z2
 have R1:=(R.un i (some (.ref l)))
 refine⟨⟨by rw[List.length_set,List.length_set];exact R.len,fun a ha=>vJa _ (R.sub a ha),fun a ha=>?_,R.al0,fun a ha=>?_,R.keep.trans s,fun j d e=>?_,fun j d e=>?_,fun j q2 o e=>?_,fun j k2 q1 q2 ds es l2 e1 e2 s1 s2=>?_,fun j q2 h2 e=>?_⟩,sd⟩
 ·rcases uWa ha with z | z
  ·exact .inr (R.keep.none (nn a z))
  ·exact R.fr a z
 ·rcases uWa ha with z | z
  ·obtain⟨o,e⟩:=x.at a z;rw[e];exact fun z=>nomatch z
  ·exact fun y=>R.al a z (s.none y)
 ·rcases jf e with⟨rfl,e',_⟩ | ⟨ne,e'⟩
  ·cases e'
  ·rw[jx ne];obtain⟨v,a,b⟩:=R.cl j d e';exact⟨v,a,b.same sd⟩
 ·rcases jf e with⟨rfl,e',_⟩ | ⟨ne,e'⟩
  ·cases e'
  ·rw[jx ne];exact R.bo j d e'
 ·rcases jf e with⟨rfl,e',_⟩ | ⟨ne,e'⟩
  ·cases e'
  ·rw[jx ne];obtain⟨l2,z,a,b,c,d⟩:=R.ow j q2 o e';exact⟨l2,z,a,b.same (s l2) sd,vJa _ c,d⟩
 ·rcases jf e1 with⟨rfl,e',_⟩ | ⟨n1,e1'⟩
  ·cases e'
  ·rcases jf e2 with⟨rfl,e',_⟩ | ⟨n2,e2'⟩
   ·cases e'
   ·rw[jx n1]at s1;rw[jx n2]at s2;exact R.dist j k2 _ _ _ _ l2 e1' e2' s1 s2
 ·rcases jf e with⟨rfl,e',hi⟩ | ⟨ne,e'⟩
  ·cases e';refine⟨l,ps,yD (by rw[R.len];exact hi),(fun z=>nomatch z),x,nd,fun a ha=>⟨vIa _ ha,R.keep.none (nn a ha),fun⟨m,q3,o3,y,z⟩=>?_⟩,fun m q3 h3 y=>?_⟩
   ·rcases jf y with⟨_,y',_⟩ | ⟨n3,y'⟩
    ·cases y'
    ·rw[jx n3]at z;obtain⟨l3,_,y1,y2,_⟩:=R.ow m _ _ y';rw[z]at y1;cases y1;exact y2.there (nn a ha)
   ·rcases jf y with⟨y0,_,_⟩ | ⟨n3,y'⟩
    ·exact y0
    ·exact vDa (by rw[jx n3];exact y') (Yg nl)
  ·exact vDa (by rw[jx ne];exact e') (Yg nl)
end
noncomputable def jN(f:Str):List Str->Option Nat
 | []=>none
 | g::r=>if g=f then some 0 else(jN f r).map (· + 1)
theorem yF{f:Str}{v:V}:∀{ns:List Str} {vs:List V} {r:List (Str×V)},ns.length=vs.length->jX f v (ns.zip vs++r)=match jN f ns with
  | some j=>ns.zip (vs.set j v)++r
  | none=>ns.zip vs++jX f v r
 | [],[],r,_=>rfl
 | g::ns,v'::vs,r,h=>by
  rw[List.zip_cons_cons,List.cons_append];show(if g=f then(g,v)::(ns.zip vs++r)else(g,v')::jX f v (ns.zip vs++r))=_;rw[jN];by_cases e:g=f
  ·rw[if_pos e,if_pos e];rfl
  ·rw[if_neg e,if_neg e,yF (by simpa using h)];cases jN f ns <;> rfl
theorem v7{f:Str}{α:Type}:∀{ns:List Str} {vs:List α} {j:Nat} {v:α},jN f ns=some j->vs[j]?=some v->(ns.zip vs).lookup f=some v
 | g::ns,[],j,v,_,e=>by cases e
 | g::ns,x::vs,j,v,h,e=>by
  rw[jN]at h;rw[List.zip_cons_cons,List.lookup_cons];by_cases z:g=f
  ·rw[if_pos z]at h;cases h;subst z;rw[beq_self_eq_true];exact e
  ·rw[if_neg z]at h;cases y:jN f ns with
   | none=>rw[y]at h;cases h
   | some k=>
    rw[y]at h;cases h;rw[show(f==g)=false from beq_eq_false_iff_ne.mpr fun w=>z w.symm];exact v7 y e
theorem Jw{f:Str}{α:Type}:∀{ns:List Str} {vs:List α},jN f ns=none->(ns.zip vs).lookup f=none
 | [],_,_=>rfl
 | _::_,[],_=>rfl
 | g::ns,x::vs,h=>by
  rw[jN]at h;rw[List.zip_cons_cons,List.lookup_cons];by_cases z:g=f
  ·rw[if_pos z]at h;cases h
  ·rw[if_neg z]at h;rw[show(f==g)=false from beq_eq_false_iff_ne.mpr fun w=>z w.symm];cases y:jN f ns with
   | none=>exact Jw y
   | some k=>rw[y]at h;cases h
theorem Jy.get{K:Fr}{Hd H:Hp}:∀{as:List Addr} {ls:List (List D)} {j:Nat} {m:List D},Jy K Hd H as ls->ls[j]?=some m->∃a vs,as[j]?=some a/\H a=some (.lst vs)/\j1 K Hd m vs
 | [],[],j,m,_,e=>by cases e
 | a::as,m::ls,0,_,h,e=>by cases e;obtain⟨⟨vs,h1,h2⟩,_⟩:=h;exact⟨a,vs,rfl,h1,h2⟩
 | a::as,_::ls,j+1,m,h,e=>Jy.get (as:=as) (ls:=ls) h.2 e
 | [],_::_,_,_,h,_=>h.elim
 | _::_,[],_,_,h,_=>h.elim
theorem Jy.set{K:Fr}{Hd Hd' H H':Hp}(sd:j3 Hd Hd'){b:Addr}{m:List D}(hb:∃vs,H' b=some (.lst vs)/\j1 K Hd' m vs):∀{as:List Addr} {ls:List (List D)} {j:Nat},Jy K Hd H as ls->(∀k a,k≠j->as[k]?=some a->∀u,H a=some u->H' a=some u)->Jy K Hd' H' (as.set j b) (ls.set j m)
 | [],[],j,_,_=>trivial
 | a::as,n::ls,0,h,s=>⟨hb,h.2.mono sd fun c hc u z=>by
   obtain⟨k,hk⟩:=List.mem_iff_getElem?.mp hc;exact s (k+1) c (Nat.succ_ne_zero _) hk u z⟩
 | a::as,n::ls,j+1,h,s=>by
  obtain⟨⟨vs,h1,h2⟩,h3⟩:=h;exact⟨⟨vs,s 0 a (Nat.succ_ne_zero _).symm rfl _ h1,h2.same sd⟩,Jy.set sd hb h3 fun k c hk e u z=>s (k+1) c (fun y=>hk (Nat.succ.inj y)) e u z⟩
 | [],_::_,_,h,_=>h.elim
 | _::_,[],_,h,_=>h.elim
theorem Jy.snoc{K:Fr}{Hd H:Hp}{b:Addr}{m:List D}(hb:∃vs,H b=some (.lst vs)/\j1 K Hd m vs):∀{as:List Addr} {ls:List (List D)},Jy K Hd H as ls->Jy K Hd H (as++[b]) (ls++[m])
 | [],[],_=>⟨hb,trivial⟩
 | a::as,n::ls,h=>⟨h.1,Jy.snoc hb h.2⟩
 | [],_::_,h=>h.elim
 | _::_,[],h=>h.elim
section
variable {X:Cx} {K:Fr} {e:Expr} {es:List Expr} {st:Stmt} {pos:Pos} {de:DE} {df:DO} {i:Nat} {C:Addr} {f:Str} {Px:Xp->Hp->Prop}
@[simp] def bf(f:Str)(d:D)(h:HS):Option HS:=match jN f h.ns with
 | some j=>some { h with ds:=h.ds.set j d }
 | none=>if h.ms.isEmpty=true then some { h with ns:=h.ns++[f],ds:=h.ds++[d] }else none
@[simp] def kG(i:Nat)(C:Addr)(f:Str)(de:DE)(Z:jb):Option Rs:=match Z[i]? with
 | some (.lo q h)=>if h.C=C/\h.ns.length+h.ms.length < 1000 then(de Z).bind fun d=>(bf f d h).bind fun h'=>some (.nx (Z.set i (.lo q h')))else none
 | _=>none
theorem Ux{f:Str}{v:V}{ns:List Str}{vs:List V}(h:ns.length=vs.length)(e:jN f ns=none):jX f v (ns.zip vs++[])=(ns++[f]).zip (vs++[v]):=by
 rw[yF h,e,List.zip_append h];rfl
theorem bg(h:PS X st (GC X.K (Jr i) (tE K de) f))(c:Cls K C)(n:Jb K C f)(hK:X.K=K:=by rfl):PS X st (tS K Px (kG i C f de)):=jy h fun D U H xx=>by
 obtain⟨H0,O0,Z,O,r,R,ed,fi⟩:=xx;subst hK;unfold kG at ed;cases hi:Z[i]? with
 | none=>rw[hi]at ed;cases ed
 | some sl=>
  rw[hi]at ed;cases sl with
  | lo q h=>
   by_cases hh:h.C=C/\h.ns.length+h.ms.length < 1000
   ·dsimp only at ed;rw[if_pos hh]at ed;obtain⟨hC,hlen⟩:=hh;subst hC;obtain⟨d,e1,ed⟩:=j0 ed;obtain⟨h',e2,ed⟩:=j0 ed;cases ed;obtain⟨l,ps,L⟩:=R.loi hi;refine⟨H0,O0,Z,O,d,R,e1,fun v H1 s1 rv=>?_⟩;have R1:=R.grow s1;have L1:=L.grow s1;obtain⟨⟨dx,vs,h1,n1,n2,rp⟩,el⟩:=L1.x;refine⟨_,L.s,l,_,dx,_,rfl,h1,c,n,?_,?_⟩
    ·rw[vZa,List.length_zip,List.length_zip,<-n1,vYa,<-n2,Nat.min_self,Nat.min_self];exact hlen
    have kp:j3 (j4 H1 (l::ps)) (upd H1 l (.ins h.C dx (jX f v (h.ns.zip vs++h.ms.zip (ps.map V.ref))))):=fun b u z=>by
     obtain⟨z1,z2⟩:=jt z;rw[j7 fun y=>z1 (by rw[y];exact List.mem_cons_self)];exact z2
    have sub:∀a∈l::ps++rest O l ps,a∈O:=fun a ha=>by
     rcases uWa ha with z | z
     ·exact(L.f a z).1
     ·exact(Jk.mp z).1
    have sd:j3 (j4 H1 O) (j4 (upd H1 l (.ins h.C dx (jX f v (h.ns.zip vs++h.ms.zip (ps.map V.ref))))) (l::ps++rest O l ps)):=by
     intro b u z;obtain⟨z1,z2⟩:=jt z;rw[jg fun y=>z1 (sub b y),j7 fun y=>z1 (by rw[y];exact(L.f l List.mem_cons_self).1)];exact z2
    have nl:=(List.nodup_cons.mp L.n).1;have el':Jy X.K (j4 (upd H1 l (.ins h.C dx (jX f v (h.ns.zip vs++h.ms.zip (ps.map V.ref))))) (l::ps++rest O l ps)) (upd H1 l (.ins h.C dx (jX f v (h.ns.zip vs++h.ms.zip (ps.map V.ref))))) ps h.ls:=el.mono sd fun a ha u z=>by
     rw[j7 fun y=>nl (by rw[<-y];exact ha)];exact z
    have x':JD X.K (upd H1 l (.ins h.C dx (jX f v (h.ns.zip vs++h.ms.zip (ps.map V.ref))))) (j4 (upd H1 l (.ins h.C dx (jX f v (h.ns.zip vs++h.ms.zip (ps.map V.ref))))) (l::ps++rest O l ps)) l ps h':=by
     unfold bf at e2;cases y:jN f h.ns with
     | some j=>
      rw[y]at e2;cases e2;refine⟨⟨dx,vs.set j v,?_,by rw[List.length_set];exact n1,n2,(rp.same sd).set (rv.same sd) j⟩,el'⟩;rw[jc,yF n1,y]
     | none=>
      rw[y]at e2;by_cases z:h.ms.isEmpty=true
      ·dsimp only at e2;rw[if_pos z]at e2;cases e2;have z:=List.isEmpty_iff.mp z;refine⟨⟨dx,vs++[v],?_,by rw[vZa,vZa,n1];rfl,n2,(rp.same sd).snoc (rv.same sd)⟩,el'⟩;show upd H1 l _ l=some (.ins h.C dx ((h.ns++[f]).zip (vs++[v])++h.ms.zip (ps.map V.ref)));rw[jc,z,List.zip_nil_left,Ux n1 y,uFa]
      ·dsimp only at e2;rw[if_neg z]at e2;cases e2
    obtain⟨R2,s2⟩:=R1.hmove L1 kp x' L.n fun a ha=>.inl ha;exact fi _ _ _ R2 ((ja s1).trans s2)
   ·dsimp only at ed;rw[if_neg hh]at ed;cases ed
  | _=>cases ed
@[simp] def bh(f:Str)(m:List D)(h:HS):Option HS:=match jN f h.ns with
 | some _=>none
 | none=>match jN f h.ms with
  | some j=>some { h with ls:=h.ls.set j m }
  | none=>some { h with ms:=h.ms++[f],ls:=h.ls++[m] }
@[simp] def kH(i:Nat)(C:Addr)(f:Str)(df:DO)(Z:jb):Option Rs:=match Z[i]? with
 | some (.lo q h)=>if h.C=C/\h.ns.length+h.ms.length < 1000 then(df Z).bind fun o=>match o with
  | .lst m=>(bh f m h).bind fun h'=>some (.nx (Z.set i (.lo q h')))
  | _=>none else none
 | _=>none
theorem VU{p:Addr}:∀{ps:List Addr} {j:Nat},ps.Nodup->p∉ps->(ps.set j p).Nodup
 | [],_,h,_=>h
 | a::ps,0,h,n=>List.nodup_cons.mpr ⟨fun z=>n (wMa _ z),(List.nodup_cons.mp h).2⟩
 | a::ps,j+1,h,n=>by
  obtain⟨h1,h2⟩:=List.nodup_cons.mp h;refine List.nodup_cons.mpr ⟨fun z=>?_,VU h2 fun z=>n (wMa _ z)⟩;rcases List.mem_or_eq_of_mem_set z with z | z
  ·exact h1 z
  ·exact n (by rw[z];exact wNa)
theorem gf{ps:List Addr}{j:Nat}{p:Addr}:(ps.set j p).map V.ref=(ps.map V.ref).set j (.ref p):=by rw[List.map_set]
theorem bi(h:PS X st (GC X.K (Jr i) (tF K df) f))(c:Cls K C)(n:Jb K C f)(hK:X.K=K:=by rfl):PS X st (tS K Px (kH i C f df)):=jy h fun D U H xx=>by
 obtain⟨H0,O0,Z,O,r,R,ed,fi⟩:=xx;subst hK;unfold kH at ed;cases hi:Z[i]? with
 | none=>rw[hi]at ed;cases ed
 | some sl=>
  rw[hi]at ed;cases sl with
  | lo q h=>
   by_cases hh:h.C=C/\h.ns.length+h.ms.length < 1000
   ·dsimp only at ed;rw[if_pos hh]at ed;obtain⟨hC,hlen⟩:=hh;subst hC;obtain⟨o,e1,ed⟩:=j0 ed;cases o with
    | lst m=>
     obtain⟨h',e2,ed⟩:=j0 ed;cases ed;obtain⟨l,ps,L⟩:=R.loi hi;refine⟨H0,O0,Z,O,.lst m,R,e1,fun p H1 s1 hp ow=>?_⟩;have R1:=R.grow s1;have L1:=L.grow s1;obtain⟨⟨dx,vs,h1,n1,n2,rp⟩,el⟩:=L1.x;obtain⟨us,w1,w2⟩:=ow;refine⟨_,L.s,l,_,dx,_,rfl,h1,c,n,?_,?_⟩
     ·rw[vZa,List.length_zip,List.length_zip,<-n1,vYa,<-n2,Nat.min_self,Nat.min_self];exact hlen
     have pO:p∉O:=R.new hp;have pl:p∉l::ps:=fun z=>pO (L.f p z).1;have lp:l≠p:=fun z=>pl (by rw[z];exact wNa);have nl:=(List.nodup_cons.mp L.n).1;generalize hH2:upd H1 l (.ins h.C dx (jX f (.ref p) (h.ns.zip vs++h.ms.zip (ps.map V.ref))))=H2;have kp:j3 (j4 H (l::ps)) H2:=fun b u z=>by
      obtain⟨z1,z2⟩:=jt z;rw[<-hH2,j7 fun y=>z1 (by rw[y];exact List.mem_cons_self)];exact s1 b u z2
     have hp2:H2 p=some (.lst us):=by rw[<-hH2,j7 lp.symm];exact w1
     have key:∀ps',(∀a∈ps',a∈ps \/ a=p)->j3 (j4 H1 O) (j4 H2 (l::ps'++rest O l ps)) \/ True:=fun _ _=>.inr trivial;have sd:∀ps':List Addr,(∀a∈ps',a∈ps \/ a=p)->j3 (j4 H1 (p::O)) (j4 H2 (l::ps'++rest O l ps)):=fun ps' hs b u z=>by
      obtain⟨z1,z2⟩:=jt z;have nb:b≠p:=fun y=>z1 (by rw[y];exact wNa);have nO:b∉O:=fun y=>z1 (wMa _ y);rw[jg fun y=>?_,<-hH2,j7 fun y=>nO (by rw[y];exact(L.f l List.mem_cons_self).1)]
      ·exact z2
      ·rcases uWa y with y | y
       ·rcases uTa y with y | y
        ·exact nO (by rw[y];exact(L.f l wNa).1)
        ·rcases hs b y with y | y
         ·exact nO (L.f b (wMa _ y)).1
         ·exact nb y
       ·exact nO (Jk.mp y).1
     have rp0:j1 X.K (j4 H O) h.ds vs:=by
      obtain⟨⟨dx',vs',h1',n1',n2',rp'⟩,_⟩:=L.x;have:=s1 _ _ h1';rw[h1]at this;have ez:h.ns.zip vs++h.ms.zip (ps.map V.ref)=h.ns.zip vs'++h.ms.zip (ps.map V.ref):=by
       injection this with this;injection this
      have ez:=List.append_cancel_right ez;have:vs=vs':=by
       have a1:=congrArg (List.map Prod.snd) ez;rw[List.map_snd_zip (by lia),List.map_snd_zip (by lia)]at a1;exact a1
      rw[this];exact rp'
     have s1p:j3 (j4 H O) (j4 H1 (p::O)):=JS s1 hp;have elk:∀a∈ps,∀u,H a=some u->H2 a=some u:=fun a ha u z=>by
      rw[<-hH2,j7 fun y=>nl (by rw[<-y];exact ha)];exact s1 a u z
     obtain⟨_,el0⟩:=L.x;unfold bh at e2;cases y:jN f h.ns with
     | some j=>rw[y]at e2;cases e2
     | none=>
      rw[y]at e2;cases w:jN f h.ms with
      | some j=>
       rw[w]at e2;cases e2;have hs:∀a∈ps.set j p,a∈ps \/ a=p:=fun a ha=>List.mem_or_eq_of_mem_set ha;have x':JD X.K H2 (j4 H2 (l::ps.set j p++rest O l ps)) l (ps.set j p) { h with ls:=h.ls.set j m }:=by
        refine⟨⟨dx,vs,?_,n1,by rw[List.length_set];exact n2,(rp0.same s1p).same (sd _ hs)⟩,?_⟩
        ·rw[<-hH2,jc,yF n1,y];dsimp only;rw[<-uFa (h.ms.zip (ps.map V.ref)),yF (by rw[vYa];exact n2),w];dsimp only;rw[uFa,gf]
        ·exact Jy.set (s1p.trans (sd _ hs)) ⟨us,hp2,w2.same (sd _ hs)⟩ el0 fun k a _ ha u z=>elk a (wYa ha) u z
       have nd':(l::ps.set j p).Nodup:=by
        refine List.nodup_cons.mpr ⟨fun z=>?_,?_⟩
        ·rcases hs l z with z | z
         ·exact nl z
         ·exact lp z
        ·exact VU (List.nodup_cons.mp L.n).2 fun z=>pl (wMa _ z)
       obtain⟨R2,s2⟩:=R.hmove L kp x' nd' fun a ha=>by
        rcases hs a ha with z | z
        ·exact .inl z
        ·exact .inr (by rw[z];exact hp)
       exact fi _ _ _ R2 s2
      | none=>
       rw[w]at e2;cases e2;have hs:∀a∈ps++[p],a∈ps \/ a=p:=fun a ha=>by
        rcases uWa ha with z | z
        ·exact .inl z
        ·exact .inr (List.mem_singleton.mp z)
       have x':JD X.K H2 (j4 H2 (l::(ps++[p])++rest O l ps)) l (ps++[p]) { h with ms:=h.ms++[f],ls:=h.ls++[m] }:=by
        refine⟨⟨dx,vs,?_,n1,by rw[vZa,vZa,n2];rfl,(rp0.same s1p).same (sd _ hs)⟩,?_⟩
        ·show H2 l=some (.ins h.C dx (h.ns.zip vs++(h.ms++[f]).zip ((ps++[p]).map V.ref)));rw[<-hH2,jc,yF n1,y];dsimp only;rw[<-uFa (h.ms.zip (ps.map V.ref)),Ux (by rw[vYa];exact n2) w,uDa];rfl
        ·exact Jy.snoc ⟨us,hp2,w2.same (sd _ hs)⟩ (el0.mono (s1p.trans (sd _ hs)) elk)
       have nd':(l::(ps++[p])).Nodup:=by
        refine List.nodup_cons.mpr ⟨fun z=>?_,?_⟩
        ·rcases hs l z with z | z
         ·exact nl z
         ·exact lp z
        ·refine List.nodup_append.mpr ⟨(List.nodup_cons.mp L.n).2,by simp,fun a ha b hb=>?_⟩;rw[List.mem_singleton.mp hb];exact fun z=>pl (wMa _ (z▸ha))
       obtain⟨R2,s2⟩:=R.hmove L kp x' nd' fun a ha=>by
        rcases hs a ha with z | z
        ·exact .inl z
        ·exact .inr (by rw[z];exact hp)
       exact fi _ _ _ R2 s2
    | _=>cases ed
   ·dsimp only at ed;rw[if_neg hh]at ed;cases ed
  | _=>cases ed
@[simp] def kK(i:Nat)(C:Addr)(f:Str)(de:DE)(Z:jb):Option Rs:=match Z[i]? with
 | some (.lo q h)=>if h.C=C/\(jN f h.ns).isNone=true then(jN f h.ms).bind fun j=>(h.ls[j]?).bind fun m=>(de Z).bind fun d=>if m.length < sizeLine then some (.nx (Z.set i (.lo q { h with ls:=h.ls.set j (m++[d]) })))else none else none
 | _=>none
theorem bj(h:PS X st (zq (gD K "list" Zq (ar X.K (Jr i) f) (Y8 (tE K de) zr))))(c:Cls K C)(n:Jb K C f)(hK:X.K=K:=by rfl):PS X st (tS K Px (kK i C f de)):=jy h fun D U H xx=>by
 obtain⟨H0,O0,Z,O,r,R,ed,fi⟩:=xx;subst hK;unfold kK at ed;cases hi:Z[i]? with
 | none=>rw[hi]at ed;cases ed
 | some sl=>
  rw[hi]at ed;cases sl with
  | lo q h=>
   by_cases hh:h.C=C/\(jN f h.ns).isNone=true
   ·dsimp only at ed;rw[if_pos hh]at ed;obtain⟨hC,hn⟩:=hh;subst hC;obtain⟨j,e1,ed⟩:=j0 ed;obtain⟨m,e2,ed⟩:=j0 ed;obtain⟨d,e3,ed⟩:=j0 ed;by_cases hz:m.length < sizeLine
    ·rw[if_pos hz]at ed;cases ed;obtain⟨l,ps,L⟩:=R.loi hi;obtain⟨⟨dx,vs,h1,n1,n2,rp⟩,el⟩:=L.x;obtain⟨p,us,ep,hp,ru⟩:=el.get e2;have hfn:jN f h.ns=none:=by simpa using hn
     have lk:(h.ns.zip vs++h.ms.zip (ps.map V.ref)).lookup f=some (V.ref p):=by
      rw[List.lookup_append,Jw hfn,v7 e1 (by rw[uAa,ep];rfl)];rfl
     refine⟨_,L.s,l,_,dx,_,_,rfl,h1,c,n,lk,.inl ⟨rfl,_,jr.of hp⟩,H0,O0,Z,O,d,R,e3,fun v H1 s1 rv=>?_⟩;have R1:=R.grow s1;have L1:=L.grow s1;refine⟨p,us,v,rfl,rfl,s1 _ _ hp,by rw[ru.len];exact hz,?_⟩;have pin:p∈ps:=wYa ep;have nl:=(List.nodup_cons.mp L.n).1;have lp:l≠p:=fun z=>nl (by rw[z];exact pin);have kp:j3 (j4 H1 (l::ps)) (upd H1 p (.lst (us++[v]))):=fun b u z=>by
      obtain⟨z1,z2⟩:=jt z;rw[j7 fun y=>z1 (by rw[y];exact List.mem_cons_of_mem _ pin)];exact z2
     have sub:∀a∈l::ps++rest O l ps,a∈O:=fun a ha=>by
      rcases uWa ha with z | z
      ·exact(L.f a z).1
      ·exact(Jk.mp z).1
     have sd:j3 (j4 H1 O) (j4 (upd H1 p (.lst (us++[v]))) (l::ps++rest O l ps)):=by
      intro b u z;obtain⟨z1,z2⟩:=jt z;rw[jg fun y=>z1 (sub b y),j7 fun y=>z1 (by rw[y];exact(L.f p (List.mem_cons_of_mem _ pin)).1)];exact z2
     have s01:j3 (j4 H O) (j4 H1 O):=ja s1;have x':JD X.K (upd H1 p (.lst (us++[v]))) (j4 (upd H1 p (.lst (us++[v]))) (l::ps++rest O l ps)) l ps { h with ls:=h.ls.set j (m++[d]) }:=by
      refine⟨⟨dx,vs,by rw[j7 lp];exact s1 _ _ h1,n1,n2,(rp.same s01).same sd⟩,?_⟩;have es:ps=ps.set j p:=by
       obtain⟨hj,ej⟩:=uSa ep;rw[<-ej,List.set_getElem_self]
      have:=Jy.set (H:=H) (Hd:=j4 H O) (H':=upd H1 p (.lst (us++[v]))) (s01.trans sd) (b:=p) (m:=m++[d]) ⟨_,jc,((ru.same s01).same sd).snoc (rv.same sd)⟩ (j:=j) el fun k a hk ha u z=>by
       rw[j7 fun y=>hk ?_]
       ·exact s1 a u z
       ·subst y;exact(List.getElem?_inj (uSa ha).1 (List.nodup_cons.mp L.n).2).mp (ha.trans ep.symm)
      rw[<-es]at this;exact this
     obtain⟨R2,s2⟩:=R1.hmove L1 kp x' L.n fun a ha=>.inl ha;exact fi _ _ _ R2 ((ja s1).trans s2)
    ·rw[if_neg hz]at ed;cases ed
   ·dsimp only at ed;rw[if_neg hh]at ed;cases ed
  | _=>cases ed
def Q7(C:Addr)(f:Str):D->Option D
 | .obj C' ns _ ms es=>if C'=C/\(jN f ns).isNone=true then(jN f ms).bind fun j=>es[j]? else none
 | _=>none
theorem bn(h:PE X e (tR K de))(c:Cls K C)(n:Jb K C f)(hb:attributeBase e f X.env (eval e X.env)=eval e X.env:=by rfl)(hK:X.K=K:=by rfl):PE X (.Attribute e f pos) (tR K (d1 (Q7 C f) de)):=jj (uz h hb) fun U H Q xx=>by
 obtain⟨H0,O0,Z,O,d,R,ed,q⟩:=xx;subst hK;obtain⟨x,e1,e2⟩:=j0 ed;refine⟨H0,O0,Z,O,x,R,e1,fun v H' s r=>?_⟩;cases x with
 | obj C' ns ds ms es=>
  have e5:(if C'=C/\(jN f ns).isNone=true then(jN f ms).bind fun j=>es[j]? else none)=some d:=e2;by_cases hh:C'=C/\(jN f ns).isNone=true
  ·rw[if_pos hh]at e5;obtain⟨hC,hn⟩:=hh;subst hC;obtain⟨j,e3,e4⟩:=j0 e5;obtain⟨a,dx,xs,ps,rfl,h1,n1,n2,_,h2⟩:=r.obj;obtain⟨p,w1,w2⟩:=h2 j d e4;exact⟨a,_,dx,_,p,rfl,h1,c,n,by rw[List.lookup_append,Jw (by simpa using hn),v7 e3 w1];rfl,q p H' s w2⟩
  ·rw[if_neg hh]at e5;cases e5
 | _=>cases e2
end
structure HPost (K:Fr) (H:Hp) (O:List Addr) (l:Addr) (ps:List Addr) (H':Hp) (ps':List Addr) (h':HS):Prop where
 s:j3 (j4 H (l::ps)) H'
 x:JD K H' (j4 H' (l::ps'++O)) l ps' h'
 n:(l::ps').Nodup
 p:∀a∈ps',a∈ps \/ H a=none
def EK(K:Fr)(E:XK)(H:Hp)(O:List Addr)(l:Addr)(ps:List Addr)(Q:VK)(h':HS):Rx->Prop
 | .ok d=>∀v H' ps',HPost K H O l ps H' ps' h'->j5 K (j4 H' (l::ps'++O)) d v->Q v H'
 | .xc p=>∀H' ps',HPost K H O l ps H' ps' h'->PX K E p H'
def zQ(K:Fr)(ks:List Bool)(F:HS->List D->Option (Rx×HS)):Sp:=fun vs H Q E=>∃O ds l ps h vs' r,vs=.ref l::vs'/\(∀a∈O,H a≠none)/\JD K H (j4 H (l::ps++O)) l ps h/\(l::ps).Nodup/\(∀a∈l::ps,a∉O)/\Jh K O (j4 H (l::ps)) ks ds vs'/\F h ds=some r/\EK K E H O l ps Q r.2 r.1
@[simp] noncomputable def KM(Z:jb)(r:Rx):Option (Rx×HS):=match (Z[0]?:Option Sl)with
 | some (Sl.lo true h)=>some (r,h)
 | _=>none
@[simp] def Ga(ks:List Bool)(n:Nat)(body:DS)(h:HS)(ds:List D):Option (Rx×HS):=(body (.lo true h::yq ks ds n)).bind fun r=>match r with
 | .nx Z=>KM Z (.ok .non)
 | .rh d Z=>KM Z (.ok d)
 | .xc p Z=>KM Z (.xc p)
 | _=>none
theorem v8{Z:jb}{r:Rx}{z:Rx×HS}(e:KM Z r=some z):Z[0]?=some (.lo true z.2)/\z.1=r:=by
 unfold KM at e;cases h:Z[0]? with
 | none=>rw[h]at e;cases e
 | some s=>
  rw[h]at e;cases s with
  | lo q h'=>
   cases q with
   | true=>cases e;exact⟨rfl,rfl⟩
   | false=>cases e
  | _=>cases e
section
variable {P:Program} {w:World} {K:Fr} {mg:Str->Option Value} {base:Heap} {x qual:Str} {st:Stmt} {f:Addr} {fd:FuncData} {N ps:List Str} {k n:Nat} {ks:List Bool} {body:DS} {F:List D->Option Rx}
theorem d9(Fu:Fun K x qual st f fd)(S:FnScope N ps (defScope st))(hk:ks.length+1=ps.length)(hn:N.length - ps.length=n)
  (hb:∀(cdv:Value) (A:Around) (outer:List Env) (s:Shared) (H:Hp) (E:XK),Room k (A.deeper (envOfC qual (defScope st) s.heap.objs.size f cdv))->jG (jS (J3 P w) P w K mg base N qual (defScope st) f cdv A outer s H E) (defBody st) (tS K (PX K E) body)):
  FnOk P w K mg base (J3 P w) (k+1) f fd ps (zQ K ks (Ga ks n body)):=by
 obtain⟨oc,od,kV,doc,pm,an,cdv,ct,osl,rfl,lk,hcd⟩:=Fu.ex;refine GF lk hcd S (fun vs H Q E h=>?_) fun A outer s H vs Q E hr h=>?_
 ·obtain⟨O,ds,l,pl,h,vs',r,rfl,_,_,_,_,ak,_⟩:=h;have:=ak.len;rw[vXa]
  lia
 ·obtain⟨O,ds,l,pl,h,vs',r0,rfl,al,x,nd,nin,ak,e,q⟩:=h;refine⟨_,hb cdv A outer s H E hr,?_⟩;obtain⟨r,e1,e2⟩:=j0 e;have hl:N.length - (V.ref l::vs').length=n:=by have:=ak.len;rw[vXa];lia
  unfold L2.JY;rw[hl];have nn:∀a∈l::pl,j4 H (l::pl) a=none:=fun a ha=>zi ha;have al':∀a∈O,j4 H (l::pl) a≠none:=fun a ha=>by
   rw[jg fun z=>nin a z ha];exact al a ha
  have R0:=Uc (n:=n) ak al';have sd:j3 (j4 (j4 H (l::pl)) O) (j4 H (l::pl++O)):=fun b u z=>by
   obtain⟨z1,z2⟩:=jt z;obtain⟨z3,z4⟩:=jt z2;rw[jg fun y=>by rcases List.mem_append.mp y with y | y;exact z3 y;exact z1 y];exact z4
  have no:∀(i:Nat) (q':Option Addr) (o':OD),(Sl.lo true h::yq ks ds n)[i]?≠some (.ow q' o'):=fun i q' o' e=>by
   cases i with
   | zero=>cases e
   | succ i=>
    obtain⟨k',d',v,_,_,h3⟩:=Jv ak (by intro z;cases z) e;cases k' <;> cases h3
  have nl:∀(i:Nat) (q':Bool) (o':HS),(Sl.lo true h::yq ks ds n)[i]?=some (.lo q' o')->i=0/\q'=true/\o'=h:=fun i q' o' e=>by
   cases i with
   | zero=>cases e;exact⟨rfl,rfl,rfl⟩
   | succ i=>
    obtain⟨k',d',v,_,_,h3⟩:=Jv ak (by intro z;cases z) e;cases k' <;> cases h3
  have R:Rel K (j4 H (l::pl)) ⟨O,l⟩ (.lo true h::yq ks ds n) (List.map some (V.ref l::vs')++List.replicate n none) H (l::pl++O):=by
   refine⟨?_,fun a h=>vJa _ h,?_,al',?_,J0,?_,?_,?_,?_,?_⟩
   ·have:=R0.len;rw[vXa,vWa,List.cons_append,vXa,this]
   ·intro a ha;rcases uWa ha with z | z
    ·exact .inr (nn a z)
    ·exact .inl z
   ·intro a ha;rcases uWa ha with z | z
    ·obtain⟨o,e⟩:=x.at a z;rw[e];exact fun z=>nomatch z
    ·exact al a z
   ·intro i d e;cases i with
    | zero=>cases e
    | succ i=>
     obtain⟨v,h1,h2⟩:=R0.cl i d e;exact⟨v,h1,h2.same sd⟩
   ·intro i d e;cases i with
    | zero=>cases e
    | succ i=>exact R0.bo i d e
   ·intro i q' o' e;exact vDa e (no i q' o')
   ·intro i j q1 q2 o1 o2 l e;exact vDa e (no i q1 o1)
   ·intro i q' o' e;obtain⟨rfl,rfl,rfl⟩:=nl i q' o' e;exact⟨l,pl,rfl,(fun _=>rfl),x,nd,fun a ha=>⟨vIa _ ha,nn a ha,fun⟨j,q2,o2,y,_⟩=>no j q2 o2 y⟩,fun j q2 h2 y=>(nl j q2 h2 y).1⟩
  have key:∀(Z:jb) (U':L2.St) (H':Hp) (O':List Addr),Rel K (j4 H (l::pl)) ⟨O,l⟩ Z U' H' O'->Z[0]?=some (.lo true r0.2)->∃ps',HPost K H O l pl H' ps' r0.2/\j3 (j4 H' O') (j4 H' (l::ps'++O)):=fun Z U' H' O' R' e=>by
   obtain⟨l2,ps',L⟩:=R'.loi e;obtain rfl:=L.p rfl;have sb:∀a∈l2::ps'++O,a∈O':=fun a ha=>by
    rcases uWa ha with z | z
    ·exact(L.f a z).1
    ·exact R'.sub a z
   refine⟨ps',⟨R'.keep,L.x.mono (fun a _ u z=>z) (jJ sb),L.n,fun a ha=>?_⟩,jJ sb⟩;have z:=(L.f a (wMa _ ha)).2.1;by_cases y:a∈l2::pl
   ·rcases uTa y with y | y
    ·subst y;exact vDa ha (List.nodup_cons.mp L.n).1
    ·exact .inl y
   ·rw[jg y]at z;exact .inr z
  refine⟨j4 H (l::pl),⟨O,l⟩,_,l::pl++O,r,R,e1,?_⟩;cases r with
  | nx Z=>
   obtain⟨e3,e4⟩:=v8 e2;intro U' H' O' R' _;obtain⟨ps',hp,_⟩:=key Z U' H' O' R' e3;rw[e4]at q;exact q _ H' ps' hp (by rw[j5])
  | rh d Z=>
   obtain⟨e3,e4⟩:=v8 e2;intro v U' H' O' R' rv;obtain⟨ps',hp,sd'⟩:=key Z U' H' O' R' e3;rw[e4]at q;exact q v H' ps' hp (rv.same sd')
  | xc p Z=>
   obtain⟨e3,e4⟩:=v8 e2;intro U' H' O' R';obtain⟨ps',hp,_⟩:=key Z U' H' O' R' e3;rw[e4]at q;exact q H' ps' hp
  | rt d=>cases e2
  | rf o=>cases e2
  | bk Z=>cases e2
  | ct Z=>cases e2
end
section
variable {X:Cx} {K:Fr} {E:XK} {e a:Expr} {es:List Expr} {st:Stmt} {pos p np apos:Pos} {dx:jb->Option (Rx×jb)} {i kk:Nat} {g:DG} {C:Addr} {m x:Str} {l:DA} {ks:List Bool} {k:Nat} {f:Addr} {fd:FuncData} {ps:List Str} {da:DE}
abbrev Q8:=jb->Option (Rx×jb)
def Vg(K:Fr)(E:XK)(H0:Hp)(O0:FA)(U:L2.St)(H:Hp)(O:List Addr)(Q:VK)(Z:jb):Rx->Prop
 | .ok d=>∀v H' O',Rel K H0 O0 Z U H' O'->j3 (j4 H O) (j4 H' O')->j5 K (j4 H' O') d v->Q v H'
 | .xc p=>∀H' O',Rel K H0 O0 Z U H' O'->PX K E p H'
def tY(K:Fr)(E:XK)(dx:Q8):TE:=fun U H Q=>∃H0 O0 Z O r,Rel K H0 O0 Z U H O/\dx Z=some r/\Vg K E H0 O0 U H O Q r.2 r.1
@[simp] noncomputable def Q9(dx:Q8)(k:D->DS)(Z:jb):Option Rs:=(dx Z).bind fun r=>match r.1 with
 | .ok d=>k d r.2
 | .xc p=>some (.xc p r.2)
theorem bp(h:PS X st (JQ (tY K E dx) (JX i))):PS X st (tS K (PX K E) (Q9 dx fun d Z=>some (.nx (Z.set i (.cl d))))):=jy h fun D U H xx=>by
 obtain⟨H0,O0,Z,O,r,R,ed,f⟩:=xx;obtain⟨⟨r',Z'⟩,e1,e2⟩:=j0 ed;refine⟨H0,O0,Z,O,_,R,e1,?_⟩;cases r' with
 | ok d=>cases e2;exact fun v H' O' R' s q=>f _ H' O' (R'.set q i) s
 | xc p=>cases e2;exact fun H' O' R'=>f U H' O' R'
theorem xZ(h:PS X st (zq (tY K E dx))):PS X st (tS K (PX K E) (Q9 dx fun _ Z=>some (.nx Z))):=jy h fun D U H xx=>by
 obtain⟨H0,O0,Z,O,r,R,ed,f⟩:=xx;obtain⟨⟨r',Z'⟩,e1,e2⟩:=j0 ed;refine⟨H0,O0,Z,O,_,R,e1,?_⟩;cases r' with
 | ok d=>cases e2;exact fun v H' O' R' s q=>f _ H' O' R' s
 | xc p=>cases e2;exact fun H' O' R'=>f U H' O' R'
theorem Zw{O O':List Addr}{H H':Hp}(s:j3 (j4 H O) (j4 H' O')):∀{ks:List Bool} {ds:List D} {vs:List V},ks.all id=true->Jh K O H ks ds vs->Jh K O' H' ks ds vs
 | [],[],[],_,_=>trivial
 | k::ks,_::_,_::_,h,a=>by
  rw[List.all_cons,Bool.and_eq_true]at h;obtain⟨h1,h2⟩:=h;have h1:k=true:=h1;subst h1;exact⟨j5.same s a.1,Zw s h2 a.2⟩
 | [],[],_::_,_,h=>h.elim
 | [],_::_,_,_,h=>h.elim
 | _::_,[],_,_,h=>h.elim
 | _::_,_::_,[],_,h=>h.elim
theorem dg{H0 H1:Hp}{O0:FA}{O:List Addr}{Z:jb}{U:L2.St}{q:Bool}{h:HS}{a:Addr}{pl:List Addr}{ds:List D}{vs:List V}{F:HS->List D->Option (Rx×HS)}{r:Rx×HS}{Q:VK}(R:Rel K H0 O0 Z U H1 O)(L:LoI K H0 O0.p Z U H1 O i q h a pl)(hk:ks.all id=true)(ak:Jh K O H1 ks ds vs)(e:F h ds=some r)
  (fi:∀H,j3 (j4 H O) (j4 H1 O)->Vg K E H0 O0 U H O Q (Z.set i (.lo q r.2)) r.1->True) (f:Vg K E H0 O0 U H1 O Q (Z.set i (.lo q r.2)) r.1):zQ K ks F (.ref a::vs) H1 Q E:=by
 have sb:∀b∈a::pl++rest O a pl,b∈O:=fun b hb=>by
  rcases uWa hb with z | z
  ·exact(L.f b z).1
  ·exact(Jk.mp z).1
 refine⟨rest O a pl,ds,a,pl,h,vs,r,rfl,fun b hb=>R.al b (Jk.mp hb).1,L.x.mono (fun _ _ _ z=>z) (jJ sb),L.n,fun b hb z=>(Jk.mp z).2 hb,Zw (fun b u z=>?_) hk ak,e,?_⟩
 ·obtain⟨z1,z2⟩:=jt z;rw[jg fun y=>z1 (Jk.mp y).1,jg fun y=>z1 (L.f b y).1];exact z2
 ·obtain⟨r1,h'⟩:=r;cases r1 with
  | ok d=>
   intro v H' ps' hp rv;obtain⟨R2,s2⟩:=R.hmove L hp.s hp.x hp.n hp.p;exact f v H' _ R2 s2 rv
  | xc p=>
   intro H' ps' hp;obtain⟨R2,s2⟩:=R.hmove L hp.s hp.x hp.n hp.p;exact f H' _ R2
theorem Vg.mono{H0 H H1:Hp}{O0:FA}{O:List Addr}{U:L2.St}{Q:VK}{Z:jb}{r:Rx}(s:j3 (j4 H O) (j4 H1 O))(f:Vg K E H0 O0 U H O Q Z r):Vg K E H0 O0 U H1 O Q Z r:=by
 cases r with
 | ok d=>exact fun v H' O' R t rv=>f v H' O' R (s.trans t) rv
 | xc p=>exact f
@[simp] def Uy(i:Nat)(C:Addr)(m:Str)(F:HS->List D->Option (Rx×HS))(l:DA)(Z:jb):Option (Rx×jb):=match Z[i]? with
 | some (.lo q h)=>if h.C=C/\(jN m h.ns).isNone=true/\(jN m h.ms).isNone=true then(J9 l Z).bind fun ds=>(F h ds).bind fun r=>some (r.1,Z.set i (.lo q r.2))else none
 | _=>none
theorem bq{F:HS->List D->Option (Rx×HS)}(hx:JM (J3 X.prog X.w) X E)(h:PE X e (Zm C m (zQ K ks F) [] E (Jr i) (Ji K l)))(hks:l.map (·.1)=ks)(hall:ks.all id=true):PE X e (tY K E (Uy i C m F l)):=jj h fun U H Q xx=>by
 obtain⟨H0,O0,Z,O,r,R,ed,f⟩:=xx;subst hks;unfold Uy at ed;cases hi:Z[i]? with
 | none=>rw[hi]at ed;cases ed
 | some sl=>
  rw[hi]at ed;cases sl with
  | lo q h=>
   by_cases hh:h.C=C/\(jN m h.ns).isNone=true/\(jN m h.ms).isNone=true
   ·dsimp only at ed;rw[if_pos hh]at ed;obtain⟨hC,hn,hm⟩:=hh;subst hC;obtain⟨ds,e1,ed⟩:=j0 ed;obtain⟨r',e2,ed⟩:=j0 ed;cases ed;obtain⟨a,pl,L⟩:=R.loi hi;obtain⟨⟨dx,vs,h1,n1,n2,rp⟩,el⟩:=L.x;refine⟨_,L.s,a,dx,_,rfl,h1,by rw[List.lookup_append,Jw (by simpa using hn),Jw (by simpa using hm)];rfl,H0,O0,Z,O,ds,R,e1,fun vs H1 s1 ak=>?_⟩
    (try dsimp only)
    rw[uFa];exact dg (R.grow s1) (L.grow s1) hall ak e2 (fun _ _ _=>trivial) (f.mono (ja s1))
   ·dsimp only at ed;rw[if_neg hh]at ed;cases ed
  | _=>cases ed
noncomputable abbrev Vh(C:Addr):HS:=⟨C,[],[],[],[]⟩
theorem x_{H:Hp}{a dx:Addr}{Hd:Hp}(h:H a=some (.ins C dx [])):JD K H Hd a [] (Vh C):=⟨⟨dx,[],h,rfl,rfl,j1.nil⟩,trivial⟩
theorem kL{H H1:Hp}{O:List Addr}{ds:List D}{vs:List V}{F:HS->List D->Option (Rx×HS)}{r:Rx×HS}{Q:VK}{E':XK}{y dy:Addr}(s1:j3 H H1)(al:∀a∈O,H1 a≠none)(hall:ks.all id=true)(ak:Jh K O H1 ks ds vs)(e:F (Vh C) ds=some r)(ny:H1 y=none)(nd:H1 dy=none)(hne:dy≠y)
  (f:match r.1 with
   | .ok d=>d=.non/\∀H' pl,j3 H1 H'->JD K H' (j4 H' (y::pl++O)) y pl r.2->(y::pl).Nodup->(∀a∈pl,H1 a=none)->Q (.ref y) H'
   | .xc p=>∀H',j3 H1 H'->PX K E' p H'):zQ K ks F (.ref y::vs) (upd (upd H1 dy (.own y)) y (.ins C dy [])) (fun v H2=>v=.non/\Q (.ref y) H2) E':=by
 have yO:y∉O:=fun z=>al y z ny;have sB:j3 H1 (upd (upd H1 dy (.own y)) y (.ins C dy [])):=fun c u z=>by
  rw[j7 (jo z ny),j7 (jo z nd)];exact z
 have sC:j3 H1 (j4 (upd (upd H1 dy (.own y)) y (.ins C dy [])) [y]):=fun c u z=>by
  rw[jg (by intro w;simp at w;exact jo z ny w)];exact sB c u z
 refine⟨O,ds,y,[],Vh C,vs,r,rfl,fun b hb z=>al b hb (sB.none z),x_ jc,by simp,fun b hb=>by rw[List.mem_singleton.mp hb];exact yO,Zw (ja sC) hall ak,e,?_⟩;obtain⟨r1,h'⟩:=r;have np:∀(H':Hp) (pl:List Addr),HPost K (upd (upd H1 dy (.own y)) y (.ins C dy [])) O y [] H' pl h'->∀a∈pl,H1 a=none:=fun H' pl hp a ha=>by
  rcases hp.p a ha with z | z
  ·cases z
  ·exact sB.none z
 cases r1 with
 | ok d=>
  intro v H' pl hp rv;obtain⟨rfl,f⟩:=f;rw[j5]at rv;exact⟨rv,f H' pl (sC.trans hp.s) hp.x hp.n (np H' pl hp)⟩
 | xc p=>exact fun H' pl hp=>f H' (sC.trans hp.s)
@[simp] def Uz(i:Nat)(C:Addr)(F:HS->List D->Option (Rx×HS))(l:DA)(Z:jb):Option Rs:=if Uw (Z.set i .un)=true then(J9 l Z).bind fun ds=>(F (Vh C) ds).bind fun r=>match r.1 with
 | .ok .non=>some (.nx (Z.set i (.lo false r.2)))
 | _=>none else none
theorem X0{Px:Xp->Hp->Prop}{E':XK}{F:HS->List D->Option (Rx×HS)}(h:PS X st (JQ (Zn C (zQ K ks F) [] E' (Ji K l)) (JX i)))(hks:l.map (·.1)=ks)(hall:ks.all id=true):PS X st (tS K Px (Uz i C F l)):=jy h fun D U H xx=>by
 obtain⟨H0,O0,Z,O,r,R,ed,f⟩:=xx;subst hks;unfold Uz at ed;by_cases nl:Uw (Z.set i .un)=true
 ·rw[if_pos nl]at ed;obtain⟨ds,e1,ed⟩:=j0 ed;obtain⟨⟨r1,h'⟩,e2,ed⟩:=j0 ed;cases r1 with
  | xc p=>cases ed
  | ok d=>
   cases d <;> cases ed;refine⟨H0,O0,Z,O,ds,R,e1,fun vs H1 s1 ak y dy ny nd hne=>?_⟩
   (try dsimp only)
   rw[uFa];refine kL (E':=E') (Q:=fun x H1=>JX i x U H1 D.nx) s1 (R.grow s1).al hall ak e2 ny nd hne ⟨rfl,fun H' pl s x n p=>?_⟩;obtain⟨R2,s2⟩:=R.hlay (s1.trans s) nl (s1.none ny) (fun a ha=>s1.none (p a ha)) n x;exact f _ _ _ R2 s2
 ·rw[if_neg nl]at ed;cases ed
@[simp] def br(C:Addr)(F:HS->List D->Option (Rx×HS))(l:DA)(Z:jb):Option Rx:=(J9 l Z).bind fun ds=>(F (Vh C) ds).bind fun r=>match r.1 with
 | .ok .non=>if r.2.ms.isEmpty=true then some (.ok (.ins r.2.C r.2.ns r.2.ds))else none
 | .xc p=>some (.xc p)
 | _=>none
theorem bt{F:HS->List D->Option (Rx×HS)}(h:PE X e (Zn C (zQ K ks F) [] E (Ji K l)))(hks:l.map (·.1)=ks)(hall:ks.all id=true):PE X e (tX K E (br C F l)):=jj h fun U H Q xx=>by
 obtain⟨H0,O0,Z,O,r,R,ed,f⟩:=xx;subst hks;obtain⟨ds,e1,ed⟩:=j0 ed;obtain⟨⟨r1,h'⟩,e2,ed⟩:=j0 ed;refine⟨H0,O0,Z,O,ds,R,e1,fun vs H1 s1 ak y dy ny nd hne=>?_⟩;rw[uFa];refine kL s1 (R.grow s1).al hall ak e2 ny nd hne ?_;cases r1 with
 | xc p=>cases ed;exact fun H' s=>f H' (s1.trans s)
 | ok d=>
  cases d <;> try (cases ed;done)
  dsimp only at ed;by_cases hm:h'.ms.isEmpty=true
  ·rw[if_pos hm]at ed;cases ed;refine⟨rfl,fun H' pl s x n p=>f _ H' (s1.trans s) ?_⟩;obtain⟨⟨dx,vs',h1,n1,n2,rp⟩,el⟩:=x;have hm:=List.isEmpty_iff.mp hm;have yO:y∉O:=fun z=>(R.grow s1).al y z ny;rw[j5];refine⟨y,dx,vs',rfl,?_,n1,rp.same (jJ fun a ha=>vJa _ ha)⟩;rw[jg yO,h1,hm,List.zip_nil_left,uFa]
  ·rw[if_neg hm]at ed;cases ed
def bu(C:Addr)(m:Str)(F:List D->Option Rx)(x:D)(ds:List D):Option Rx:=match x with
 | .ins C' ns _=>if C'=C/\(jN m ns).isNone=true then F (x::ds)else none
 | .obj C' ns _ ms _=>if C'=C/\(jN m ns).isNone=true/\(jN m ms).isNone=true then F (x::ds)else none
 | _=>none
@[simp] def KN(C:Addr)(m:Str)(F:List D->Option Rx)(da:DE)(l:DA)(Z:jb):Option Rx:=(da Z).bind fun x=>(J9 l Z).bind fun ds=>bu C m F x ds
theorem bv{F:List D->Option Rx}(h:PE X e (Zm C m (Zb K (false::ks) F) [] E (tR K da) (Ji K l)))(hks:l.map (·.1)=ks):PE X e (tX K E (KN C m F da l)):=jj h fun U H Q xx=>by
 obtain⟨H0,O0,Z,O,r,R,ed,f⟩:=xx;subst hks;obtain⟨x,e1,ed⟩:=j0 ed;obtain⟨ds,e2,ed⟩:=j0 ed;refine⟨H0,O0,Z,O,x,R,e1,fun v H1 s1 rx=>?_⟩;have fin:∀a,v=.ref a->F (x::ds)=some r->Ji K l U H1 fun vs H2=>Zb K (false::l.map (·.1)) F (v::(vs++[])) H2 Q E:=fun a _ e3=>by
  refine⟨H0,O0,Z,O,ds,R.grow s1,e2,fun vs H2 s2 ak=>?_⟩
  (try dsimp only)
  rw[uFa];refine⟨O,x::ds,r,(R.grow (s1.trans s2)).al,⟨rx.same s2,ak⟩,e3,?_⟩;cases r with
  | ok d=>exact fun v H' s r=>f v H' ((s1.trans s2).trans s) r
  | xc p=>exact fun H' s=>f H' ((s1.trans s2).trans s)
 cases x with
 | ins C' ns xs=>
  have e5:(if C'=C/\(jN m ns).isNone=true then F (.ins C' ns xs::ds)else none)=some r:=ed;by_cases hh:C'=C/\(jN m ns).isNone=true
  ·rw[if_pos hh]at e5;obtain⟨hC,hn⟩:=hh;subst hC;have rx0:=rx;obtain⟨a,dx,vs,rfl,h1,n1,_⟩:=rx0.ins;exact⟨a,dx,_,rfl,h1,Jw (by simpa using hn),fin a rfl e5⟩
  ·rw[if_neg hh]at e5;cases e5
 | obj C' ns xs ms ys=>
  have e5:(if C'=C/\(jN m ns).isNone=true/\(jN m ms).isNone=true then F (.obj C' ns xs ms ys::ds)else none)=some r:=ed;by_cases hh:C'=C/\(jN m ns).isNone=true/\(jN m ms).isNone=true
  ·rw[if_pos hh]at e5;obtain⟨hC,hn,hm⟩:=hh;subst hC;have rx0:=rx;obtain⟨a,dx,vs,us,rfl,h1,_⟩:=rx0.obj;exact⟨a,dx,_,rfl,h1,by rw[List.lookup_append,Jw (by simpa using hn),Jw (by simpa using hm)];rfl,fin a rfl e5⟩
  ·rw[if_neg hh]at e5;cases e5
 | _=>cases ed
end
noncomputable def yi(f:Str):List Str->Option Nat
 | []=>none
 | g::r=>if g=f then some 0 else(yi f r).map (· + 1)
noncomputable abbrev SK(ks:List Str)(us:List V):List (JL×V):=(ks.map Sum.inr).zip us
section
variable {X:Cx} {pins:List (Addr×Obj)} {U:L2.St} {H:Hp} {s:Shared} {a b:Addr} {kvs:List (JL×V)} {ep:Nat} {k:Str} {K:Fr}
theorem Y9(I:Inv X pins U H s)(h:H a=some (.dK kvs ep)):kvs.length<=sizeLine/\(a==sysModules)=false/\∃vs es,KV kvs vs/\Jq s.heap a es ep/\KeysOf (Jj X.prog X.w) es/\Pairs (Jj X.prog X.w) es.toList vs/\(vs.map (·.1)).Nodup:=by
 obtain⟨z,y,vs,r,o,es,e1,e2,e3,e4,e5,e6⟩:=(show jC X.prog X.w H s.heap a (.dK kvs ep) from I.hok a _ h)
 exact⟨z,y,vs,es,r,⟨o,e1,e2,e3⟩,e4,e5,e6⟩
theorem Zx{vs:List (JL×Value)}{es:Array DictEntry}(r:Jq s.heap a es ep)(e4:KeysOf (Jj X.prog X.w) es)(e5:Pairs (Jj X.prog X.w) es.toList vs)(e6:(vs.map (·.1)).Nodup):s.heap.DictOf (Jj X.prog X.w) a vs:=by
 obtain⟨o,e1,e2,e3⟩:=r;exact⟨o,es,ep,e1,e2,e3,e4,e5,e6⟩
theorem kM:∀{ks:List Str} {us:List V} {vs:List (JL×Value)},KV (SK ks us) vs->ks.length=us.length->match yi k ks with
  | some j=>∃v u,us[j]?=some v/\valueAt vs (.inr k)=some u/\je v u
  | none=>valueAt vs (.inr k)=none
 | [],[],vs,r,_=>by cases r;rfl
 | g::ks,v::us,vs,r,h=>by
  cases r with
  | @cons p q ps qs h1 t=>
   obtain⟨e1,e2⟩:=h1;have e1:Sum.inr g=q.1:=e1;rw[yi];by_cases e:g=k
   ·rw[if_pos e];refine⟨v,q.2,rfl,?_,e2⟩;unfold valueAt;rw[List.find?_cons,<-e1,e];simp
   ·rw[if_neg e];have ih:=kM t (by simpa using h);have ev:valueAt (q::qs) (.inr k)=valueAt qs (.inr k):=by
     unfold valueAt;rw[List.find?_cons,<-e1];have:decide ((Sum.inr g:JL)=Sum.inr k)=false:=vBa fun z=>e (Sum.inr.inj z);rw[this]
    rw[ev];cases z:yi k ks with
    | none=>rw[z]at ih;exact ih
    | some j=>rw[z]at ih;exact ih
theorem X8{ks:List Str}{us:List V}{vs:List (JL×Value)}(r:KV (SK ks us) vs)(h:ks.length=us.length){j:Nat}(e:yi k ks=some j):∃v u,us[j]?=some v/\valueAt vs (.inr k)=some u/\je v u:=by
 have:=kM (k:=k) r h;rw[e]at this;exact this
theorem Qa{ks:List Str}{us:List V}{vs:List (JL×Value)}(r:KV (SK ks us) vs)(h:ks.length=us.length):(valueAt vs (.inr k)).isSome=(yi k ks).isSome:=by
 have:=kM (k:=k) r h;cases e:yi k ks with
 | none=>rw[e]at this;rw[this];rfl
 | some j=>rw[e]at this;obtain⟨_,u,_,z,_⟩:=this;rw[z];rfl
@[simp] def Yb(ks:List Str)(k:Str):List Str:=if (yi k ks).isSome=true then ks else ks++[k]
def JZ{α:Type}(ks:List Str)(us:List α)(k:Str)(v:α):List α:=match yi k ks with
 | some j=>us.set j v
 | none=>us++[v]
theorem KO{ks:List Str}{us:List V}{v:V}(h:ks.length=us.length):(Yb ks k).length=(JZ ks us k v).length:=by
 unfold Yb JZ;cases e:yi k ks with
 | none=>simp[h]
 | some j=>simp[h]
theorem KP{u:Value}{v:V}(rv:je v u):∀{ks:List Str} {us:List V} {vs:List (JL×Value)},KV (SK ks us) vs->ks.length=us.length->(vs.map (·.1)).Nodup->KV (SK ks (match yi k ks with
  | some j=>us.set j v
  | none=>us)) (vs.map fun kv=>if kv.1=.inr k then(kv.1,u)else kv)/\(vs.any fun kv=>decide (kv.1=.inr k))=(yi k ks).isSome
 | [],[],vs,r,_,_=>by cases r;exact⟨.nil,rfl⟩
 | g::ks,w::us,vs,r,h,nd=>by
  cases r with
  | @cons p q ps qs h1 t=>
   obtain⟨e1,e2⟩:=h1;have e1:Sum.inr g=q.1:=e1;obtain⟨n1,n2⟩:=List.nodup_cons.mp nd;obtain⟨i1,i2⟩:=KP rv t (by simpa using h) n2;rw[yi,vWa,List.any_cons];by_cases e:g=k
   ·subst e;rw[if_pos rfl,if_pos e1.symm];refine⟨?_,by rw[decide_eq_true e1.symm];rfl⟩;have no:∀x∈qs,x.1≠Sum.inr g:=fun x hx z=>n1 (by
     show q.1∈_;rw[<-e1,<-z];exact List.mem_map.mpr ⟨x,hx,rfl⟩)
    have em:(qs.map fun kv=>if kv.1=.inr g then(kv.1,u)else kv)=qs:=by
     refine(List.map_congr_left fun x hx=>?_).trans (List.map_id qs);rw[if_neg (no x hx)];rfl
    rw[em];exact .cons ⟨e1,rv⟩ t
   ·have nq:¬q.1=Sum.inr k:=fun z=>e (Sum.inr.inj (e1.trans z));rw[if_neg e,if_neg nq,decide_eq_false nq,Bool.false_or,i2];refine⟨?_,by rw[Option.isSome_map]⟩;cases z:yi k ks with
    | none=>rw[z]at i1;exact .cons ⟨e1,e2⟩ i1
    | some j=>rw[z]at i1;exact .cons ⟨e1,e2⟩ i1
theorem vS{α β:Type}{F:α->β->Prop}:∀{l:List α} {m:List β} {l':List α} {m':List β},Paired F l m->Paired F l' m'->Paired F (l++l') (m++m')
 | [],[],_,_,.nil,q=>q
 | _::_,_::_,_,_,.cons h t,q=>.cons h (vS t q)
theorem bw{u:Value}{v:V}(rv:je v u){ks:List Str}{us:List V}{vs:List (JL×Value)}(r:KV (SK ks us) vs)(h:ks.length=us.length)(nd:(vs.map (·.1)).Nodup):KV (SK (Yb ks k) (JZ ks us k v)) (stored vs (.inr k) u):=by
 obtain⟨i1,i2⟩:=KP (k:=k) rv r h nd;unfold stored Yb JZ;rw[i2];cases z:yi k ks with
 | none=>
  rw[z]at i1;rw[if_neg (by simp),if_neg (by simp)];unfold SK;rw[uDa,List.zip_append (by rw[vYa];exact h)];exact vS r (.cons ⟨rfl,rv⟩ .nil)
 | some j=>
  rw[z]at i1;exact i1
def Qb:R2:=fun x y H Q=>∃a ks us ep k j v,x=.ref a/\y=.str k/\H a=some (.dK (SK ks us) ep)/\ks.length=us.length/\yi k ks=some j/\us[j]?=some v/\Q v H
theorem dh:zf X Qb:=by
 intro value slice pins s U H x y v u Q I rx ry h hs;obtain⟨a,ks,us,ep,k,j,v,rfl,rfl,ha,hl,e1,e2,q⟩:=h;cases rx;obtain⟨t,rfl⟩:=ry;obtain⟨z,hd,vs,es,r,rd,ke,pr,nd⟩:=Y9 I ha;have dd:=Zx (s:=s) rd ke pr nd;obtain⟨v',u',e3,e4,rv⟩:=X8 r hl e1;rw[e2]at e3;cases e3;exact tail_any dd.typeIs slot_dict_getitem.lookup (wpAny_getItem_of (yJ _ _ _ _) dd.mapOf e4 ⟨_,H,I.tok _,rv,q⟩) hs
def WB(neg:Bool):R2:=fun x y H Q=>∃a ks us ep k,y=.ref a/\x=.str k/\H a=some (.dK (SK ks us) ep)/\ks.length=us.length/\Q (.bl (xor neg (yi k ks).isSome)) H
theorem WC:jw X (compareOp .In) (WB false):=by
 intro pins s U H x y v u Q I rx ry h;obtain⟨a,ks,us,ep,k,rfl,rfl,ha,hl,q⟩:=h;cases ry;obtain⟨t,rfl⟩:=rx;obtain⟨z,hd,vs,es,r,rd,ke,pr,nd⟩:=Y9 I ha;refine wpAny_in_of (yJ _ _ _ _) hd (Zx (s:=s) rd ke pr nd).mapOf ⟨_,H,I.tok _,?_,q⟩;rw[Qa r hl,Bool.false_xor];rfl
theorem gh:jw X (compareOp .NotIn) (WB true):=by
 intro pins s U H x y v u Q I rx ry h;obtain⟨a,ks,us,ep,k,rfl,rfl,ha,hl,q⟩:=h;cases ry;obtain⟨t,rfl⟩:=rx;obtain⟨z,hd,vs,es,r,rd,ke,pr,nd⟩:=Y9 I ha;refine wpAny_notIn_of (yJ _ _ _ _) hd (Zx (s:=s) rd ke pr nd).mapOf ⟨_,H,I.tok _,?_,q⟩;rw[Qa r hl,Bool.true_xor];rfl
def Qc:V->V->V->Hp->(Hp->Prop)->Prop:=fun o i v H Q=>∃a ks us ep k,o=.ref a/\i=.str k/\H a=some (.dK (SK ks us) ep)/\ks.length=us.length/\ks.length < sizeLine/\∀ep',Q (upd H a (.dK (SK (Yb ks k) (JZ ks us k v)) ep'))
theorem bx:ut X Qc:=by
 intro pins s U H o i v ov iv u Q I ro ri rv h;obtain⟨a,ks,us,ep,k,rfl,rfl,ha,hl,hz,q⟩:=h;cases ro;obtain⟨t,rfl⟩:=ri;obtain⟨z,hd,vs,es,r,rd,ke,pr,nd⟩:=Y9 I ha;refine wpAny_setItem_pairs (hsz:=by rw[<-Paired.length r];exact z) (yJ X.prog X.w k t) (Zx (s:=s) rd ke pr nd) fun h' dd' hs=>?_;obtain⟨o,es',ep',e1,e2,e3,e4,e5,e6⟩:=dd';have ln:(SK (Yb ks k) (JZ ks us k v)).length<=sizeLine:=by
  unfold SK;rw[List.length_zip,vYa,KO (v:=v) hl,Nat.min_self];unfold JZ;split
  ·rw[List.length_set];lia
  ·rw[vZa];simp;lia
 have new:jC X.prog X.w (upd H a (.dK (SK (Yb ks k) (JZ ks us k v)) ep')) h' a (.dK (SK (Yb ks k) (JZ ks us k v)) ep'):=⟨ln,hd,_,bw rv r hl nd,o,es',e1,e2,e3,e4,e5,e6⟩
 exact⟨_,I.write (x:=a) (e:=a) (by rw[ha];trivial) (.inl rfl) (fun c z hc e=>(hs.2 c hc).trans e) ⟨_,e1⟩ new,q ep'⟩
def dj:TE:=fun _ H Q=>∀p,H p=none->Q (.ref p) (upd H p (.dK [] 0))
theorem X9{pos:Pos}:PE X (.Dict [] [] pos) dj:=fun pins s U H Q I h=>
 wpAny_Dict_empty ⟨.ref s.heap.objs.size,_,I.laid (a:=s.heap.objs.size) (o:=.dK [] 0) (t':=s.toks) (fun _ _ q=>wIa _ q) (wPa _)
  ⟨Nat.zero_le _,beq_eq_false_iff_ne.mpr (Ne.symm (wTa (Inv.big I))),[],.nil,_,#[],wJa _ rfl,⟨rfl,rfl,rfl⟩,rfl,(by intro e he;simp at he),.nil,List.nodup_nil⟩,rfl,h _ (I.hok.fresh (wPa _))⟩
theorem kN:JG X (.type "dict") (fun xs H Q=>∃a kvs ep,xs=[.ref a]/\H a=some (.dK kvs ep)/\∀l ep',H l=none->Q (.ref l) (upd H l (.dK kvs ep'))):=by
 intro pins s U H xs us Q I r h;obtain⟨a,kvs,ep,rfl,e,q⟩:=h;cases r with
 | cons r1 r2=>
 cases r2;cases r1;obtain⟨z,hd,vs,es,r,rd,ke,pr,nd⟩:=Y9 I e;refine kt_call_dict hd (Zx (s:=s) rd ke pr nd) (by rw[<-Paired.length r];exact z) fun h' dd' hs=>?_;obtain⟨o,es',ep',e1,e2,e3,e4,e5,e6⟩:=dd';refine⟨.ref s.heap.objs.size,_,I.laid (a:=s.heap.objs.size) (o:=.dK kvs ep') (t':=s.toks) (fun b q hq=>?_) (wPa _) ⟨z,beq_eq_false_iff_ne.mpr (Ne.symm (wTa (Inv.big I))),vs,r,o,es',e1,e2,e3,e4,e5,e6⟩,rfl,q _ _ (I.hok.fresh (wPa _))⟩;exact(hs.2 b (wTa (wLa hq))).trans (wIa _ hq)
theorem KQ:JG X (.builtin "len") (fun xs H Q=>∃a kvs ep,xs=[.ref a]/\H a=some (.dK kvs ep)/\Q (.int kvs.length) H):=by
 intro pins s U H xs us Q I r h;obtain⟨a,kvs,ep,rfl,e,q⟩:=h;cases r with
 | cons r1 r2=>
 cases r2;cases r1;obtain⟨z,hd,vs,es,r,rd,ke,pr,nd⟩:=Y9 I e;refine call_len_dict hd (Zx (s:=s) rd ke pr nd) (by rw[<-Paired.length r];rw[sizeLine_eq]at z;lia) ?_;rw[<-Paired.length r];exact⟨.int kvs.length,H,I.tok _,⟨_,rfl⟩,q⟩
theorem vc{P:Program}{w:World}{es:List DictEntry}{vs:List (JL×Value)}{kvs:List (JL×V)}(hp:Pairs (Jj P w) es vs)(hk:KV kvs vs):es.length=kvs.length/\∀(i:Nat) (p:JL×V),kvs[i]?=some p->∃e,es[i]?=some e/\(Jj P w).is p.1 e.key=true/\je p.2 e.val:=by
 induction hp generalizing kvs with
 | nil=>cases hk;exact⟨rfl,fun i p e=>by cases i <;> cases e⟩
 | cons h1 h2 t ih=>
  cases hk with
  | cons r1 rt=>
   obtain⟨i1,i2⟩:=ih rt;refine⟨by rw[vXa,vXa,i1],fun i p z=>?_⟩;cases i with
   | zero=>cases z;exact⟨_,rfl,by rw[r1.1];exact h1,by rw[h2];exact r1.2⟩
   | succ i=>exact i2 i p z
theorem Xa{P:Program}{w:World}{x:Str}{v:Value}(h:(Jj P w).is (.inr x) v=true):je (.str x) v:=by
 rw[Gs]at h;rcases jU h with⟨i,t,e,_⟩ | ⟨y,t,e,rfl⟩
 ·cases e
 ·cases e;exact⟨t,rfl⟩
def DM(a:Addr)(ks:List Str)(us:List V)(ep:Nat):It:=
 ⟨fun i H=>H a=some (.dK (SK ks us) ep)/\i < ks.length,fun i H x H'=>∃p,H p=none/\x=.ref p/\∀k u,ks[i]?=some k->us[i]?=some u->H'=upd H p (.tup [.str k,u]),fun i H=>H a=some (.dK (SK ks us) ep)/\ks.length<=i⟩
theorem bA{ks:List Str}{us:List V}{i:Nat}{k:Str}{u:V}(h1:ks[i]?=some k)(h2:us[i]?=some u):(SK ks us)[i]?=some (.inr k,u):=by
 unfold SK;rw[List.getElem?_zip_eq_some];exact⟨by rw[uAa,h1];rfl,h2⟩
theorem gj{P:Program}{w:World}{K:uXa}{es:List Expr}{x1:Nat}{tp:Pos}{ks:List Str}{us:List V}{ep:Nat}(hlen:ks.length=us.length)(a it:Addr):Turn P w K (.Tuple es x1 tp) (DM a ks us ep) [it] it (fun i h=>∃ok ov,IsItemIter h it a i ks.length ep ok ov) where
 mem:=by simp
 obj:=fun i h st b hb=>by
  have e:b=it:=by simpa using hb
  subst e;obtain⟨_,_,st⟩:=st;exact⟨_,st,fun v z=>by cases z⟩
 keep:=fun i h h' st k=>let ⟨ok,ov,st⟩:=st;⟨ok,ov,k it (by simp) _ st⟩
 item:=by
  intro X hP hw hK hc i pins s U H E I hf st hg;subst hP hw hK;obtain⟨ok,ov,st⟩:=st;obtain⟨ea,hi⟩:=hg;obtain⟨z,hd,vs,es,r,rd,ke,pr,nd⟩:=Y9 I ea;obtain⟨hl,at'⟩:=vc pr r;have h1:ks[i]?=some ks[i]:=by simp[hi]
  have h2:us[i]?=some us[i]:=by simp[show i < us.length by lia]
  obtain⟨y,ey,ek,er⟩:=at' i _ (bA h1 h2);have hl:es.size=ks.length:=by
   rw[<-Array.length_toList,hl];unfold SK;rw[List.length_zip,vYa,hlen,Nat.min_self]
  rw[<-hl]at st⊢;have lt:it < s.heap.objs.size:=wLa st;refine VO st rd (by simpa using ey) fun h' b1 b3 bz bk=>⟨_,rfl,wpAny_letOwnedTupleGo_items b1 fun h2' c1 c2=>?_⟩
  have kp:∀c o,c∉[it]->s.heap.get? c=some o->h2'.get? c=some o:=fun c o hc z=>by
   have hc:c≠it:=by simpa using hc
   exact c2.extBut c o hc (bk c o hc z)
  have ht:IsTup h2' s.heap.objs.size ([y.key,y.val]:List Value).toArray:=⟨_,c2.extBut _ _ (Nat.ne_of_gt lt) b3,rfl,_,rfl⟩
  have I2:=I.tupled (t':=s.toks) (h':=h2') rfl hf kp (vs:=[.str ks[i],us[i]]) (us:=[y.key,y.val]) (.cons (Xa ek) (.cons er .nil)) yg ht;refine⟨.ref s.heap.objs.size,_,I2,rfl,⟨s.heap.objs.size,I.hok.fresh (wPa _),rfl,fun k u hk hu=>?_⟩,⟨_,_,c1⟩,fun c hc=>?_⟩
  ·rw[h1]at hk;rw[h2]at hu;cases hk;cases hu;rfl
  ·rw[j7,(hf c hc).1];have:c=it:=by simpa using hc
   rw[this];exact wTa lt
 done:=by
  intro X hP hw hK hc i pins s U H E I hf st hg;subst hP hw hK;obtain⟨ok,ov,st⟩:=st;obtain⟨ea,hi⟩:=hg;obtain⟨z,hd,vs,es,r,rd,ke,pr,nd⟩:=Y9 I ea;obtain⟨hl,_⟩:=vc pr r;have hl:es.size=ks.length:=by
   rw[<-Array.length_toList,hl];unfold SK;rw[List.length_zip,vYa,hlen,Nat.min_self]
  obtain⟨f0,f1,f2,f3,f4,f5⟩:=hf it (by simp);rw[<-hl]at st;exact Uf (I.ok.hd hc) st rd (by rw[hl];exact hi) fun h' eb=>⟨rfl,I.turned (t':=s.toks) (fun b o hb e=>eb b o hb e) f0 f1 f3 f4 f5⟩
 self:=fun A i s Q E st h=>by
  obtain⟨ok,ov,st⟩:=st;have ty:s.TypeIs (.ref it) "dict_itemiterator" := ⟨_,st,rfl⟩
  refine wpAny_pyIter_slot ty F.slot_dict_itemiterator_iter (wpAny_call_entry F.slot_dict_itemiterator_iter ty VP ?_ (F.args_dict_itemiterator_iter_1 _));exact(show wpAny _ _ (ret (.ref it)) _ _ s from wBa ⟨_,rfl, "dict_itemiterator",_,ty,F.slot_dict_itemiterator_next.lookup,h⟩)
def Xb(tl:TE):TI:=fun U H R=>tl U H fun x H1=>∃a ks us ep,x=.ref a/\ks.length=us.length/\H1 a=some (.dK (SK ks us) ep)/\R (DM a ks us ep) H1
theorem KR{l:Expr}{tl:TE}{es:List Expr}{x1:Nat}{tp ap cp:Pos}(hl:PE X l tl)(hbase:attributeBase l "items" X.env (eval l X.env)=eval l X.env)(hline:(ap.endLine==cp.line)=true):PI X (.Tuple es x1 tp) (.Call (.Attribute l "items" ap) [] [] cp) (Xb tl):=by
 intro pins s U H R I h;refine wpAny_Call_method0_late hbase hline (jm (hl pins s U H _ I h) fun v s1 xx=>?_);obtain⟨x,H1,I1,r1,q1⟩:=xx;obtain⟨a,ks,us,ep,rfl,hlen,ea,q⟩:=q1;cases r1;obtain⟨z,hd,vs,es,r,rd,ke,pr,nd⟩:=Y9 I1 ea;obtain⟨hl,_⟩:=vc pr r;have hl:es.size=ks.length:=by
  rw[<-Array.length_toList,hl];unfold SK;rw[List.length_zip,vYa,hlen,Nat.min_self]
 refine⟨"dict", "dict.items",F.plainAttrs_dict,F.slot_dict_items,F.type_dict_items,rd.ty,?_,Calls.callWith_builtin rfl (PySem.evalArgs_none (VM hd rd ?_))⟩
 ·intro b e;cases e;obtain⟨o,g,c,_⟩:=rd;exact⟨o,g,c.2.1⟩
 have k1:∀b o,s1.heap.get? b=some o->(s1.heap.push { cls:=.type "dict_items",data:=.fields #[.ref a] }).get? b=some o:=fun b o e=>wIa _ e;have hv:(s1.heap.push { cls:=.type "dict_items",data:=.fields #[.ref a] }).IsItemsView s1.heap.objs.size a:=⟨_,wJa _ rfl,rfl,rfl⟩
 have I2:Inv X pins U H1 { s1 with heap:=s1.heap.push { cls:=.type "dict_items",data:=.fields #[.ref a] } }:=I1.kept (t':=s1.toks) k1;generalize s1.heap.push { cls:=.type "dict_items",data:=.fields #[.ref a] }=h2 at k1 hv I2;refine VN (s:={ s1 with heap:=h2 }) hv (rd.at fun o e=>k1 _ o e) ⟨h2.objs.size,[h2.objs.size],_,_,H1,rfl,I2.kept (t':=s1.toks) fun b o e=>wIa _ e,gj (ks:=ks) (us:=us) (ep:=ep) hlen a _,?_,fun b hb=>?_,q⟩
 ·rw[<-hl];exact⟨_,_,wJa _ rfl⟩
 ·have e:b=h2.objs.size:=by simpa using hb
  subst e;exact I2.fpOk (wPa _) (I2.hok.fresh (wPa _))
def kO:D->D->Option D
 | .dk ks vs,.str k=>(yi k ks).bind fun j=>vs[j]?
 | _,_=>none
theorem bB:jH K Qb kO:=by
 intro O H a b d x y Q ha hb _ e q;unfold kO at e;split at e
 ·obtain⟨j,e1,e2⟩:=j0 e;obtain⟨p,us,ep,rfl,h1,h2,h3⟩:=ha.dk;obtain⟨v,e3,rv⟩:=h3.get e2;exact⟨p,_,us,ep,_,j,v,rfl,hb.str,h1,h2,e1,e3,q v H (j3.refl H) rv⟩
 ·cases e
def kP(neg:Bool):D->D->Option D
 | .str k,.dk ks _=>some (.bl (xor neg (yi k ks).isSome))
 | _,_=>none
theorem Qd{neg:Bool}:jH K (WB neg) (kP neg):=by
 intro O H a b d x y Q ha hb _ e q;unfold kP at e;split at e
 ·cases e;obtain⟨p,us,ep,rfl,h1,h2,h3⟩:=hb.dk;exact⟨p,_,us,ep,_,rfl,ha.str,h1,h2,q _ H (j3.refl H) (by rw[j5])⟩
 ·cases e
theorem j1.putS{H:Hp}{vs:List D}{us:List V}{d:D}{v:V}{ks:List Str}(r:j1 K H vs us)(rv:j5 K H d v):j1 K H (JZ ks vs k d) (JZ ks us k v):=by
 unfold JZ;cases yi k ks with
 | none=>exact r.snoc rv
 | some j=>exact r.set rv j
@[simp] def kQ(i:Nat)(dkk de:DE)(Z:jb):Option Rs:=match Z[i]? with
 | some (.ow q (.dk ks vs))=>(de Z).bind fun d=>(dkk Z).bind fun k=>match k with
  | .str k=>if ks.length < sizeLine then some (.nx (Z.set i (.ow q (.dk (Yb ks k) (JZ ks vs k d)))))else none
  | _=>none
 | _=>none
variable {st:Stmt} {i:Nat} {dkk de:DE} {Px:Xp->Hp->Prop} {pos:Pos}
theorem bC(h:PS X st (JQ (tE K de) (Gu (Jr i) (tE K dkk) Qc))):PS X st (tS K Px (kQ i dkk de)):=jy h fun D U H xx=>by
 obtain⟨H0,O0,Z,O,r,R,ed,f⟩:=xx;unfold kQ at ed;cases hi:Z[i]? with
 | none=>rw[hi]at ed;cases ed
 | some sl=>
 rw[hi]at ed;cases sl with
 | ow q oo=>
  cases oo <;> try (cases ed;done)
  obtain⟨d,e1,ed⟩:=j0 ed;obtain⟨k,e2,ed⟩:=j0 ed;cases k with
  | str k=>
   by_cases hz:ks.length < sizeLine
   ·dsimp only at ed;rw[if_pos hz]at ed;cases ed;obtain⟨l,hq,hs,⟨us,ep,hl,hk,rv⟩,lo,h0⟩:=R.ow i _ _ hi;refine⟨H0,O0,Z,O,d,R,e1,fun v H1 s1 rd=>⟨_,hs,H0,O0,Z,O,_,R.grow s1,e2,fun w H2 s2 rw'=>?_⟩⟩;have s12:=s1.trans s2;have R':=R.grow s12;rw[j5]at rw';subst rw';refine⟨l,ks,us,ep,k,rfl,rfl,s12 _ _ hl,hk,hz,fun ep'=>f _ _ O (R'.change hi hq hs lo h0 ⟨_,ep',jc,KO hk,(rv.same (ja s12)).putS (rd.same (ja s2))⟩) ?_⟩;rw[Jt lo];exact ja s12
   ·dsimp only at ed;rw[if_neg hz]at ed;cases ed
  | _=>cases ed
 | _=>cases ed
@[simp] noncomputable def Qe(_:jb):Option OD:=some (.dk [] [])
theorem bD:PE X (.Dict [] [] pos) (tF K Qe):=jj X9 fun U H Q xx=>by
 obtain⟨H0,O0,Z,O,o,R,ed,q⟩:=xx;cases ed;exact fun p hp=>q p _ (jp hp _) hp ⟨[],0,jc,rfl,j1.nil⟩
noncomputable def UA:List D->Option OD
 | [.dk ks vs]=>some (.dk ks vs)
 | _=>none
theorem Xc:qG K (fun xs H Q=>∃a kvs ep,xs=[.ref a]/\H a=some (.dK kvs ep)/\∀l ep',H l=none->Q (.ref l) (upd H l (.dK kvs ep'))) UA:=by
 intro O H ks ds vs o Q h e q;unfold UA at e;split at e
 ·cases e;obtain⟨v,rfl,r⟩:=yk h;obtain⟨p,us,ep,rfl,h1,h2,h3⟩:=r.dk;exact⟨p,_,ep,rfl,h1,fun l ep' hl=>q _ _ (jp hl _) hl ⟨us,ep',jc,h2,h3.same (JS (jp hl _) hl)⟩⟩
 ·cases e
noncomputable def kR:List D->Option D
 | [.dk ks _]=>some (.int ks.length)
 | _=>none
theorem bE:Fn K (fun xs H Q=>∃a kvs ep,xs=[.ref a]/\H a=some (.dK kvs ep)/\Q (.int kvs.length) H) kR:=by
 intro O H ks ds vs d Q h hn e q;unfold kR at e;split at e
 ·cases e;obtain⟨v,rfl,r⟩:=yk h;obtain⟨p,us,ep,rfl,h1,h2,h3⟩:=r.dk;refine⟨p,_,ep,rfl,h1,q _ H (j3.refl H) ?_⟩;rw[j5,List.length_zip,vYa,<-h2,Nat.min_self]
 ·cases e
noncomputable def KS:D->Option (List D)
 | .dk ks vs=>some (List.zipWith (fun k v=>D.tup [.str k,v]) ks vs)
 | _=>none
@[simp] def Gb(de:DE)(Z:jb):Option (List D):=(de Z).bind KS
theorem RP.dk{H0 H:Hp}{O0:FA}{O:List Addr}{ks:List Str}{vs:List D}{v:V}(r:RP K H0 O0 H O (.dk ks vs) v):∃p us ep,v=.ref p/\ks.length=us.length/\∀(H':Hp) (O':List Addr),j3 H0 H'->j3 (j4 H0 O0.l) (j4 H' O')->j3 (j4 H O) (j4 H' O')->H' p=some (.dK (SK ks us) ep)/\j1 K (j4 H' O') vs us:=by
 rcases r with r | r | ⟨l,o,rfl,z2,z3⟩ | ⟨_,_,_,_,z2,_⟩
 ·rw[j5]at r;obtain⟨p,us,ep,rfl,w1,w2,w3⟩:=r;exact⟨p,us,ep,rfl,w2,fun H' O' t0 t1 t2=>⟨(jt (t2 _ _ w1)).2,w3.same t2⟩⟩
 ·rw[j5]at r;obtain⟨p,us,ep,rfl,w1,w2,w3⟩:=r;exact⟨p,us,ep,rfl,w2,fun H' O' t0 t1 t2=>⟨(jt (t1 _ _ w1)).2,w3.same t1⟩⟩
 ·cases o <;> cases z2;obtain⟨us,ep,w1,w2,w3⟩:=z3;exact⟨l,us,ep,rfl,w2,fun H' O' t0 t1 t2=>⟨t0 _ _ w1,w3.same t1⟩⟩
 ·cases z2
set_option tactic.hygienic true in
theorem WD{e:Expr}{es:List Expr}{x1:Nat}{tp ap cp:Pos}(h:PE X e (tP K de))(hb:attributeBase e "items" X.env (eval e X.env)=eval e X.env)(hl:(ap.endLine==cp.line)=true):PI X (.Tuple es x1 tp) (.Call (.Attribute e "items" ap) [] [] cp) (yl K (Gb de)):=YG (KR h hb hl) fun U H R xx=>by
 obtain⟨H0,O0,Z,O,items,Re,ed,q⟩:=xx;obtain⟨x,e1,e2⟩:=j0 ed;refine⟨H0,O0,Z,O,x,Re,e1,fun v H1 s1 r=>?_⟩;have R1:=Re.grow s1;unfold KS at e2;split at e2
 ·cases e2;obtain⟨p,us,ep,rfl,hlen,al⟩:=r.dk;refine⟨p,_,us,ep,rfl,hlen,(al H1 O R1.keep R1.in0 (j3.refl _)).1,q _ H1 s1 fun i H' O' t0 t1 t2 ta=>?_⟩;obtain⟨g1,g4⟩:=al H' O' t0 t1 t2;have l4:=g4.len;refine⟨fun d hd=>?_,fun hi=>⟨g1,by rw[hi,List.length_zipWith];lia⟩⟩;rw[List.getElem?_zipWith]at hd;split at hd
  ·rename_i dk dv hk hv;cases hd;obtain⟨u,hu,ru⟩:=g4.get hv;refine⟨⟨g1,(uSa hk).1⟩,fun x'' H'' yy=>?_⟩;obtain⟨pp,hpp,rfl,yy⟩:=yy;rw[yy _ _ hk hu];exact⟨jp hpp _,GY (fun z=>ta pp z hpp) hpp (by rw[j5]) ru⟩
  ·cases hd
 ·cases e2
end
def kS(l:List (KD×Bool))(k:KD)(b:Bool):Bool:=(l.any fun p=>Y3 p.1 k&&(p.2==b))&&l.all fun p=>!(Y3 p.1 k)||(p.2==b)
theorem Xd{l:List (KD×Bool)}{k:KD}{b:Bool}(h:kS l k b=true):(k,b)∈l/\∀v,(k,v)∈l->v=b:=by
 unfold kS at h;rw[Bool.and_eq_true,List.any_eq_true,List.all_eq_true]at h;obtain⟨⟨⟨j,c⟩,h1,h2⟩,h3⟩:=h;rw[Bool.and_eq_true,vk]at h2;obtain⟨e1,e2⟩:=h2;have e1:j=k:=e1;have e2:c=b:=by simpa using e2
 subst e1 e2;refine⟨h1,fun v hv=>?_⟩;have:=h3 _ hv;rw[Bool.or_eq_true]at this;rcases this with z | z
 ·have y:Y3 j j=true:=vk.mpr rfl;have z:(!(Y3 j j))=true:=z;rw[y]at z;cases z
 ·simpa using z
section
variable {K:Fr} {H:Hp} {a:Addr} {l:List (KD×Bool)} {m m':List KD}
mutual
theorem UB(h:H a=some (.mem K l m)):∀{d:D} {k:KD} {v:V},jz d=some k->j5 K H d v->j5 K (upd H a (.mem K l m')) d v
 | .int i,k,v,e,r=>by rw[j5]at r⊢;exact r
 | .bl i,k,v,e,r=>by rw[j5]at r⊢;exact r
 | .str i,k,v,e,r=>by rw[j5]at r⊢;exact r
 | .tup ds,k,v,e,r=>by
  rw[jz]at e;obtain⟨ks,e1,e2⟩:=j0 e;rw[j5]at r⊢;obtain⟨b,xs,rfl,t,rs⟩:=r;have t:vo K H b xs:=t;exact⟨b,xs,rfl,t.stay fun c u tf q=>by
   rw[j7 fun z=>by rw[z,h]at q;cases q;exact tf];exact q,VV h e1 rs⟩
 | .non,k,v,e,r=>by rw[jz]at e <;> first | cases e | (intros;contradiction)
 | .lst _,k,v,e,r=>by rw[jz]at e <;> first | cases e | (intros;contradiction)
 | .ins _ _ _,k,v,e,r=>by rw[jz]at e <;> first | cases e | (intros;contradiction)
 | .obj _ _ _ _ _,k,v,e,r=>by rw[jz]at e <;> first | cases e | (intros;contradiction)
 | .scr _,k,v,e,r=>by rw[jz]at e <;> first | cases e | (intros;contradiction)
 | .dct _ _,k,v,e,r=>by rw[jz]at e <;> first | cases e | (intros;contradiction)
 | .exn _ _,k,v,e,r=>by rw[jz]at e <;> first | cases e | (intros;contradiction)
 | .mem _,k,v,e,r=>by rw[jz]at e <;> first | cases e | (intros;contradiction)
 | .dk _ _,k,v,e,r=>by rw[jz]at e <;> first | cases e | (intros;contradiction)
theorem VV(h:H a=some (.mem K l m)):∀{ds:List D} {ks:List KD} {vs:List V},yL ds=some ks->j1 K H ds vs->j1 K (upd H a (.mem K l m')) ds vs
 | [],ks,vs,e,r=>by rw[j1]at r⊢;exact r
 | d::ds,ks,vs,e,r=>by
  rw[yL]at e;obtain⟨k,e1,e⟩:=j0 e;obtain⟨ks',e2,e⟩:=j0 e;rw[j1]at r;obtain⟨v,vs',rfl,r1,r2⟩:=r;exact j1.cons (UB h e1 r1) (VV h e2 r2)
end
@[simp] def ui(js jk i:Nat)(de1 de2:DE)(Z:jb):Option Rs:=if i≠js/\i≠jk then(match (dC jk Z)with
 | some (.mem l)=>(dV js Z).bind fun dk=>(Jn dk).bind fun k=>(de1 Z).bind fun d1=>(de2 (Z.set i (.cl d1))).bind fun v=>match v with
  | .bl b=>if kS l k b=true then some (.rt (.bl b))else none
  | _=>none
 | _=>none)else none
variable {X:Cx} {s k y:Str} {p1 p2 p3 p4 p5 p6 p7 p8 p9 p10 p11 p12 p13 p14:Pos} {e1 e2:Expr} {js jk i n:Nat} {de1 de2:DE} {Px:Xp->Hp->Prop}
theorem dl{Z:jb}{j:Nat}{d:D}(h:dC j Z=some d):Z[j]?=some (.cl d):=by
 unfold dC at h;split at h
 ·cases h;assumption
 ·cases h
theorem dn{H0 H:Hp}{O0:FA}{O:List Addr}{Z:jb}{U:L2.St}{j:Nat}{d:D}(R:Rel K H0 O0 Z U H O)(ed:dV j Z=some d):∃v,U[j]?=some (some v)/\RB K O H d v:=by
 unfold dV at ed;split at ed
 ·cases ed;obtain⟨v,e1,r⟩:=R.cl j _ (by assumption);exact⟨v,e1,.inl r⟩
 ·cases ed;obtain⟨v,e1,r⟩:=R.bo j _ (by assumption);refine⟨v,e1,?_⟩;rcases r with r | ⟨l,o,e2,e3,h1⟩ | ⟨l,ps,o,e2,e3,h1⟩
  ·exact .inl (r.same R.in0)
  ·exact .inr (.inl ⟨l,o,e2,e3,h1.same (R.keep l) R.in0⟩)
  ·exact .inr (.inr ⟨l,ps,o,e2,e3,h1.mono (fun a _ u z=>R.keep a u z) R.in0⟩)
 ·cases ed;obtain⟨l,_,e1,h1,_⟩:=R.ow j _ _ (by assumption);exact⟨_,e1,.inr (.inl ⟨l,_,rfl,rfl,h1⟩)⟩
 ·cases ed;obtain⟨l,ps,e1,_,h1,_⟩:=R.lo j _ _ (by assumption);exact⟨_,e1,.inr (.inr ⟨l,ps,_,rfl,rfl,h1⟩)⟩
 ·cases ed
theorem Xe(hr:Room n X.A)(hs:∀p,PE X (.Name s p) (Jr js))(hk:∀p,PE X (.Name k p) (Jr jk))(ha:PS X (.Assign [.Name y p4] e1 p5) (JQ (tE K de1) (JX i)))(he:PE X e2 (tE K de2))(hK:X.K=K)
  (h1:swapsWithSole [.Subscript (.Name k p6) (.Name s p7) p8] e2 p9.line X.env=pure false) (h2:swappedStores [.Subscript (.Name k p6) (.Name s p7) p8] e2 X.env=pure none):
  jG X [.If (.Compare (.Name s p1) [.NotIn] [.Name k p2] p3) [.Assign [.Name y p4] e1 p5,.Assign [.Subscript (.Name k p6) (.Name s p7) p8] e2 p9] [] p10,.Return (some (.Subscript (.Name k p11) (.Name s p12) p13)) p14] (tS K Px (ui js jk i de1 de2)):=by
 subst hK;refine Z8 (zp (WV (gz (Uv hr) (hs p1) (hk p2) rfl) (zp ha (z9 (za he (vq (hk p6) (hs p7) (xY hr) fun _=>rfl) h1 h2))) gr) (z9 (zT (GH (bc hr) (hk p11) (hs p12) fun _ _=>rfl)))) fun D U H xx=>?_;obtain⟨H0,O0,Z,O,r,R,ed,f⟩:=xx;unfold ui at ed;by_cases hi:i≠js/\i≠jk
 ·rw[if_pos hi]at ed;obtain⟨hi1,hi2⟩:=hi;cases hm:dC jk Z with
  | none=>rw[hm]at ed;cases ed
  | some dm=>
  rw[hm]at ed;cases dm <;> try (cases ed;done)
  obtain⟨dk,w1,ed⟩:=j0 ed;obtain⟨kk,w2,ed⟩:=j0 ed;obtain⟨d1,w3,ed⟩:=j0 ed;obtain⟨v,w4,ed⟩:=j0 ed;cases v with
  | bl bb=>
   by_cases ht:kS l kk bb=true
   ·dsimp only at ed;rw[if_pos ht]at ed;cases ed;obtain⟨t1,t2⟩:=Xd ht;obtain⟨v0,z0,q0⟩:=R.cl jk _ (dl hm);rw[j5]at q0;obtain⟨a,rfl,q0⟩:=q0;have ha0:=J0 _ _ q0;obtain⟨v1,z1,q1⟩:=dn R w1;obtain⟨b,rfl,rb⟩:=vL q1 w2;have fin:∀(U':L2.St) (H':Hp),U'[js]?=some (some (.ref b))->U'[jk]?=some (some (.ref a))->j3 H H'->XH (gw (Q6 X.K) (Jr jk) (Jr js)) D U' (upd H' a (.mem X.K l [kk])):=fun U' H' y1 y2 sH=>by
     have ha':=sH _ _ ha0;refine⟨_,y2,_,y1,a,b,l,kk,dk,rfl,rfl,jc,UB ha' (yV w2).1 (rb.same sH),w2,fun v hv=>?_⟩;have eH:upd (upd H' a (.mem X.K l [kk])) a (.mem X.K l [])=H':=by
      funext c;by_cases w:c=a
      ·subst w;rw[jc,ha']
      ·rw[j7 w,j7 w]
     rw[eH,t2 v hv];exact f _ H' (R.keep.trans sH) (by rw[j5])
    refine⟨_,z1,_,z0,a,b,l,kk,dk,rfl,rfl,ha0,rb,w2,⟨true,rfl,yC ⟨H0,O0,Z,O,d1,R,w3,fun v H1 s1 rv1=>?_⟩⟩,⟨false,rfl,yB (fin U H z1 z0 (j3.refl H))⟩⟩;refine⟨H0,O0,_,O,.bl bb,(R.grow s1).set rv1 i,w4,fun v2 H2 s2 rv2=>?_⟩;rw[j5]at rv2;subst rv2;have y0:(U.set i (some v))[jk]?=some (some (.ref a)):=by rw[jx (Ne.symm hi2)];exact z0
    have y1:(U.set i (some v))[js]?=some (some (.ref b)):=by rw[jx (Ne.symm hi1)];exact z1
    exact⟨_,y0,_,y1,a,b,l,kk,dk,bb,rfl,rfl,rfl,(s1.trans s2) _ _ ha0,rb.same (s1.trans s2),w2,t1,fin _ H2 y1 y0 (s1.trans s2)⟩
   ·dsimp only at ed;rw[if_neg ht]at ed;cases ed
  | _=>cases ed
 ·rw[if_neg hi]at ed;cases ed
end
end DS
namespace L2
open PySem PySem.Spec PyProof.Rows PySem.Builtin PySem.Builtin.Str
variable {X:Cx}
theorem KT:jw X (compareOp .LtE) (fun x y H Q=>∃i j,x=.str i/\y=.str j/\Q (.bl (!(decide (j.cps.toList < i.cps.toList)))) H):=by
 intro pins s U H x y v u Q I rx ry h;obtain⟨i,j,rfl,rfl,q⟩:=h;obtain⟨t,rfl⟩:=rx;obtain⟨t',rfl⟩:=ry;exact PySem.P.le_str (ju I q rfl)
theorem VW:∀(l:List (Str×Tok)),jd ((l.map (·.1)).map V.str) (strValues l)
 | []=>.nil
 | (x,t)::l=>.cons ⟨t,rfl⟩ (VW l)
def bF:V->List V->Hp->VK->Prop:=fun x vs H Q=>∃a b,x=.str a/\vs=[.str b]/\1<=b.length/\a.length < sizeLine/\∀p,H p=none->Q (.ref p) (upd H p (.lst ((Txt.split a b).map V.str)))
theorem WE:qj X "str.split" bF:=by
 intro pins s U H x vs v us Q I rx rv h;obtain⟨a,b,rfl,rfl,hb,ha,q⟩:=h;obtain⟨t,rfl⟩:=rx;obtain⟨w',rfl,u,rfl⟩:=rv.one;have hw:=split_weight a b hb;have hy:(b.length==0)=false:=by rw[beq_eq_false_iff_ne];omega
 have fin:∀(l:List (Str×Tok)) (k:Nat),l.map (·.1)=Txt.split a b->EP X pins U Q (.ref s.heap.objs.size) { s with toks:=k,heap:=s.heap.push { cls:=.type "list",data:=.seq (strValues l).toArray } }:=fun l k e=>by
  have r:=VW l;rw[e]at r;exact⟨.ref s.heap.objs.size,_,I.laid (t':=k) (fun b o e=>wIa _ e) (wPa _) (show jC X.prog X.w _ _ _ (.lst _) from⟨by rw[vYa];omega,strValues l,_,r,wJa _ rfl⟩),rfl,q _ (I.hok.fresh (wPa _))⟩
 cases h1:(decide (a.length < b.length)||decide (strKind a < strKind b))
 ·cases hf:(occurrences a b 0 a.length (a.length+1)).isEmpty
  ·have es:Txt.split a b=partsBetween a (occurrences a b 0 a.length (a.length+1)) b.length:=(if_neg (ne_true_of_eq_false h1)).trans (if_neg (ne_true_of_eq_false hf));have hz2:(partsBetween a (occurrences a b 0 a.length (a.length+1)) b.length).length<=sizeLine:=by rw[<-es];omega
   refine call_meets F.slot_str_split (typeIs_str _ _ _) F.entry_str_split (F.args_str_split_2 _ _) (meets_str_split_sep a b t u h1 hy hf (by omega) hz2) ?_;show wants _ _ _ { s with toks:=_,heap:=s.heap.push { cls:=.type "list",data:=.seq (strsFrom s.toks (partsBetween a (occurrences a b 0 a.length (a.length+1)) b.length)).toArray } };rw[strsFrom_eq];exact fin (numbered s.toks _) _ ((numbered_texts _ _).trans es.symm)
  ·exact call_meets F.slot_str_split (typeIs_str _ _ _) F.entry_str_split (F.args_str_split_2 _ _) (meets_str_split_not_found a b t u h1 hy hf) (fin [(a,t)] _ ((if_neg (ne_true_of_eq_false h1)).trans (if_pos hf)).symm)
 ·exact call_meets F.slot_str_split (typeIs_str _ _ _) F.entry_str_split (F.args_str_split_2 _ _) (meets_str_split_cannot_occur a b t u h1) (fin [(a,t)] _ (if_pos h1).symm)
def dw:V->List V->Hp->VK->Prop:=fun x vs H Q=>∃a b,x=.str a/\vs=[.str b]/\1<=b.length/\a.length < sizeLine/\∀p,H p=none->Q (.ref p) (upd H p (.tup [.str (Txt.partition a b).1,.str (Txt.partition a b).2.1,.str (Txt.partition a b).2.2]))
theorem Xf:qj X "str.partition" dw:=by
 intro pins s U H x vs v us Q I rx rv h;obtain⟨a,b,rfl,rfl,hb,ha,q⟩:=h;obtain⟨t,rfl⟩:=rx;obtain⟨w',rfl,u,rfl⟩:=rv.one;have hy:(b.length==0)=false:=by rw[beq_eq_false_iff_ne];omega
 have fin:∀(k ta tb tc:Nat),EP X pins U Q (.ref s.heap.objs.size) { s with toks:=k,heap:=s.heap.push { cls:=.type "tuple",data:=.seq [.str (Txt.partition a b).1 ta,.str (Txt.partition a b).2.1 tb,.str (Txt.partition a b).2.2 tc].toArray } }:=fun k ta tb tc=>
  ⟨.ref s.heap.objs.size,_,I.laid (t':=k) (fun b o e=>wIa _ e) (wPa _) (show jC X.prog X.w _ _ _ (.tup _) from⟨by show 3<=sizeLine;decide,[.str (Txt.partition a b).1 ta,.str (Txt.partition a b).2.1 tb,.str (Txt.partition a b).2.2 tc],.cons (show je (.str _) _ from⟨ta,rfl⟩) (.cons (show je (.str _) _ from⟨tb,rfl⟩) (.cons (show je (.str _) _ from⟨tc,rfl⟩) .nil)),IsTup.new _ _⟩),rfl,q _ (I.hok.fresh (wPa _))⟩
 refine call_meets F.slot_str_partition (typeIs_str _ _ _) F.entry_str_partition (F.args_str_partition_2 _ _) (meets_str_partition a b t u hy (by omega)) ?_;unfold Txt.partition at fin
 revert fin
 cases occurrences a b 0 a.length 1 with
 | nil=>intro fin;exact fin _ _ _ _
 | cons i r=>intro fin;exact fin _ _ _ _
def EL:V->Option Int->Option Int->Hp->VK->Prop:=fun x lo hi H Q=>∃z,x=.str z/\z.length<=sizeLine/\Q (.str (Txt.slice z lo hi)) H
theorem Gc{v:Value}{o:Option Int}(p:IsPart v o):∃q:Option (Int×Tok),partValue q=v/\q.map (·.1)=o:=by
 cases p with
 | none=>exact⟨none,rfl,rfl⟩
 | int i t=>exact⟨some (i,t),rfl,rfl⟩
theorem bG:qg X EL:=by
 intro pins s U H x v vl vu lo hi sl Q I rx hs pl pu h;obtain⟨z,rfl,hz,q⟩:=h;obtain⟨t,rfl⟩:=rx;obtain⟨l,rfl,rfl⟩:=Gc pl;obtain⟨u,rfl,rfl⟩:=Gc pu;obtain⟨o,ho,hc,hd⟩:=hs;exact⟨"str",_,F.slot_str_getitem.lookup,typeIs_str _ _ _,wpAny_getItem_str_slice (l:=l) (u:=u) (st:=none) ⟨o,ho,hc,hd⟩ rfl (post_val_or_str ⟨wSa (Txt.slice_le z _ _) hz,fun t' k=>⟨.str _,H,I.tok _,⟨_,rfl⟩,q⟩⟩)⟩
end L2
namespace DS
open PySem PySem.Spec PyProof.Rows L2
section
variable {X:Cx} {K:Fr} {e a b:Expr} {de da db:DE} {pos:Pos}
def WF(x:Str):It:=⟨fun i _=>i < x.cps.size,fun i H v H'=>H'=H/\∃c,x.cps[i]?=some c/\v=.str ⟨#[c]⟩,fun i _=>x.cps.size<=i⟩
theorem Xg{x:Str}{i:Nat}(h:i < x.cps.size):x.cps[i]?=some x.cps[i]:=by simp[h]
theorem WG{P:Program}{w:World}{K:uXa}{tg:Expr}(it:Addr)(x:Str)(t:Tok)(ty:String)(hty:ty = "str_ascii_iterator" \/ ty = "str_iterator"):Turn P w K tg (WF x) [it] it (fun i h=>h.IsStrIter it ty x t i) where
 mem:=by simp
 obj:=fun i h st b hb=>by
  have e:b=it:=by simpa using hb
  subst e;obtain⟨o,e,c,d⟩:=st;exact⟨o,e,fun v z=>by rw[d]at z;cases z⟩
 keep:=fun i h h' st k=>by
  obtain⟨o,e,c⟩:=st;exact⟨o,k it (by simp) o e,c⟩
 item:=by
  intro X hP hw hK hc i pins s U H E I hf st hg;subst hP hw hK;have hx:=Xg (show i < x.cps.size from hg);obtain⟨f0,f1,f2,f3,f4,f5⟩:=hf it (by simp);have fin:∀(h':Heap),h'.IsStrIter it ty x t (i+1)->Heap.SameBut it s.heap h'->∃u,some (Value.str ⟨#[x.cps[i]]⟩ s.toks)=some u/\wpAny (model X.prog X.w) X.A (letOwnedTupleGo tg (.ref it) u) (fun _ s2=>∃v H',Inv X pins U H' s2/\je v u/\(WF x).yld i H v H'/\s2.heap.IsStrIter it ty x t (i+1)/\∀b∈[it],H' b=none) E { s with heap:=h',toks:=s.toks+1 }:=fun h' st' sb=>by
   have I1:Inv X pins U H { s with heap:=h',toks:=s.toks+1 }:=I.turned (t':=s.toks+1) (fun b o hb e=>(sb.2 b hb).trans e) f0 f1 f3 f4 f5;obtain⟨o,e,c,d⟩:=id st';exact⟨_,rfl,Zl (s:={ s with heap:=h',toks:=s.toks+1 }) e c d (by rcases hty with rfl | rfl <;> decide) ⟨.str ⟨#[x.cps[i]]⟩,H,I1,⟨_,rfl⟩,⟨rfl,_,hx,rfl⟩,st',fun b hb=>(hf b hb).1⟩⟩
  rcases hty with rfl | rfl
  ·exact wpAny_pyNext_ascii_item st hx fin
  ·exact wpAny_pyNext_wide_item st hx fin
 done:=by
  intro X hP hw hK hc i pins s U H E I hf st hg;subst hP hw hK;have hx:x.cps[i]?=none:=by simpa using (show x.cps.size<=i from hg)
  obtain⟨f0,f1,f2,f3,f4,f5⟩:=hf it (by simp);have fin:∀h',Heap.ExtBut it s.heap h'->(none:Option Value)=none/\Inv X pins U H { s with heap:=h' }:=fun h' eb=>⟨rfl,I.turned (t':=s.toks) (fun b o hb e=>eb b o hb e) f0 f1 f3 f4 f5⟩
  rcases hty with rfl | rfl
  ·exact wpAny_pyNext_ascii_end (I.ok.hd hc) st hx fin
  ·exact wpAny_pyNext_wide_end (I.ok.hd hc) st hx fin
 self:=fun _ _ _ _ _ st h=>by
  rcases hty with rfl | rfl
  ·exact wpAny_pyIter_striter_ascii st h
  ·exact wpAny_pyIter_striter_wide st h
noncomputable def UC(x:Str):List D:=x.cps.toList.map fun c=>D.str ⟨#[c]⟩
@[simp] def bH(de:DE)(Z:jb):Option (List D):=(de Z).bind fun d=>match d with
 | .str x=>some (UC x)
 | _=>none
theorem bI{H0 H:Hp}{O0:FA}{O:List Addr}(x:Str):uW K (WF x) H0 O0 H O (UC x):=fun i H' O' _ _ _ _=>by
 have hl:(UC x).length=x.cps.size:=by simp[UC]
 refine⟨fun d hd=>?_,fun hi=>by show x.cps.size<=i;omega⟩;have hi:i < x.cps.size:=by have:=(uSa hd).1;omega
 refine⟨hi,fun v H'' yy=>?_⟩;obtain⟨rfl,c,hc,rfl⟩:=yy;unfold UC at hd;rw[uAa]at hd;have:x.cps.toList[i]?=some c:=by simpa using hc
 rw[this]at hd;cases hd;exact⟨j3.refl _,by rw[j5]⟩
theorem dz{tg:Expr}(h:PE X e (tP K de))(hK:X.K=K:=by rfl):PI X tg e (yl K (bH de)):=fun pins s U H R I xx=>by
 subst hK;obtain⟨H0,O0,Z,O,items,Re,ed,q⟩:=xx;obtain⟨d,e1,ed⟩:=j0 ed;cases d with
 | str x=>
  cases ed;refine jm (h pins s U H (fun v H'=>j3 H H'/\v=.str x) I ⟨H0,O0,Z,O,_,Re,e1,fun v H' s' r=>⟨s',?_⟩⟩) fun v s1 yy=>?_
  ·have R1:=Re.grow s';exact(r.at R1.keep R1.in0 (j3.refl _)).str
  ·obtain⟨w,H1,I1,rv,ss,rfl⟩:=yy;obtain⟨t,rfl⟩:=rv;refine wpAny_pyIter_strU ?_;refine⟨s1.heap.objs.size,[s1.heap.objs.size],_,_,H1,rfl,I1.kept (t':=s1.toks) fun b o e=>wIa _ e,WG _ x t (strIterType x) (by unfold strIterType;split <;> simp),⟨_,wJa _ rfl,rfl,rfl⟩,fun b hb=>?_,q _ H1 ss (bI x)⟩;have e:b=s1.heap.objs.size:=by simpa using hb
   subst e;exact I1.fpOk (wPa _) (I1.hok.fresh (wPa _))
 | _=>cases ed
theorem Zd{H:Hp}:∀{ts:List Str} {vs:List V},j1 K H (ts.map D.str) vs↔vs=ts.map V.str
 | [],vs=>by rw[uJa,j1];rfl
 | x::ts,vs=>by
  rw[vWa,j1];constructor
  ·rintro⟨v,r,rfl,h1,h2⟩;rw[j5]at h1;rw[h1,Zd.mp h2];rfl
  ·rintro rfl;exact⟨.str x,_,rfl,by rw[j5],Zd.mpr rfl⟩
noncomputable def UD:D->D->Option OD
 | .str x,.str y=>if 1<=y.length/\x.length < sizeLine then some (.lst ((Txt.split x y).map D.str))else none
 | _,_=>none
noncomputable def kT:D->D->Option D
 | .str x,.str y=>if 1<=y.length/\x.length < sizeLine then some (.tup [.str (Txt.partition x y).1,.str (Txt.partition x y).2.1,.str (Txt.partition x y).2.2])else none
 | _,_=>none
set_option tactic.hygienic true in
theorem Xh{ap:Pos}(ha:PE X a (tR K da))(hb:PE X b (tR K db))(hbase:attributeBase a "split" X.env (eval a X.env)=eval a X.env)(hl:(ap.endLine==pos.line)=true)(hs:∀r:List Expr,starEach (b::r) X.env=(false,eval b X.env)::starEach r X.env)(hK:X.K=K):PE X (.Call (.Attribute a "split" ap) [b] [] pos) (tF K (Kr UD da db)):=by
 subst hK;refine jj (ub PySem.F.plainAttrs_str PySem.F.slot_str_split PySem.F.type_str_split WE ha (jB hb Jc (hs _)) hbase (by rw[hs];rfl) hl (hs _) rfl) fun U H Q xx=>?_;obtain⟨H0,O0,Z,O,d,R,ed,q⟩:=xx;obtain⟨x,e1,ed⟩:=j0 ed;obtain⟨y,e2,ed⟩:=j0 ed;refine⟨H0,O0,Z,O,x,R,e1,fun v H1 s1 r1=>?_⟩;unfold UD at ed;split at ed
 ·split at ed
  ·rename_i hz;cases ed;have ev:=r1.str;subst ev;refine⟨rfl,H0,O0,Z,O,_,R.grow s1,e2,fun v2 H2 s2 r2=>?_⟩;have e2':=r2.str;subst e2';refine⟨_,_,rfl,rfl,hz.1,hz.2,fun p hp=>q p _ ((s1.trans s2).trans (jp hp _)) ((s1.trans s2).none hp) ?_⟩;exact⟨_,jc,Zd.mpr rfl⟩
  ·cases ed
 ·cases ed
set_option tactic.hygienic true in
theorem bJ{ap:Pos}(ha:PE X a (tR K da))(hb:PE X b (tR K db))(hbase:attributeBase a "partition" X.env (eval a X.env)=eval a X.env)(hl:(ap.endLine==pos.line)=true)(hs:∀r:List Expr,starEach (b::r) X.env=(false,eval b X.env)::starEach r X.env)(hK:X.K=K):PE X (.Call (.Attribute a "partition" ap) [b] [] pos) (tE K (d2 kT da db)):=by
 subst hK;refine jj (ub PySem.F.plainAttrs_str PySem.F.slot_str_partition PySem.F.type_str_partition Xf ha (jB hb Jc (hs _)) hbase (by rw[hs];rfl) hl (hs _) rfl) fun U H Q xx=>?_;obtain⟨H0,O0,Z,O,d,R,ed,q⟩:=xx;obtain⟨x,e1,ed⟩:=j0 ed;obtain⟨y,e2,ed⟩:=j0 ed;refine⟨H0,O0,Z,O,x,R,e1,fun v H1 s1 r1=>?_⟩;unfold kT at ed;split at ed
 ·split at ed
  ·rename_i hz;cases ed;have ev:=r1.str;subst ev;refine⟨rfl,H0,O0,Z,O,_,R.grow s1,e2,fun v2 H2 s2 r2=>?_⟩;have e2':=r2.str;subst e2';refine⟨_,_,rfl,rfl,hz.1,hz.2,fun p hp=>q _ _ ((s1.trans s2).trans (jp hp _)) ?_⟩;exact Ju ((R.grow (s1.trans s2)).new hp) hp (j1.cons (by rw[j5]) (j1.cons (by rw[j5]) (j1.cons (by rw[j5]) j1.nil)))
  ·cases ed
 ·cases ed
@[simp] noncomputable def kU:List D->Option D
 | [.str x]=>if x.length<=sizeLine then some (.int x.length)else none
 | _=>none
set_option tactic.hygienic true in
theorem bK:Fn K (fun xs H Q=>∃z,xs=[.str z]/\z.length<=sizeLine/\Q (.int z.length) H) kU:=by
 intro O H ks ds vs d Q h hn e q;unfold kU at e;split at e
 ·split at e
  ·rename_i hz;cases e;obtain⟨v,rfl,r⟩:=yk h;exact⟨_,by rw[r.str],hz,q _ H (j3.refl H) (by rw[j5])⟩
  ·cases e
 ·cases e
noncomputable def WH:D->D->Option D
 | .str x,.str y=>some (.bl (!(decide (y.cps.toList < x.cps.toList))))
 | _,_=>none
theorem dA:jH K (fun x y H Q=>∃i j,x=.str i/\y=.str j/\Q (.bl (!(decide (j.cps.toList < i.cps.toList)))) H) WH:=by
 intro O H a b d x y Q ha hb hn e q;unfold WH at e;split at e
 ·cases e;exact⟨_,_,ha.str,hb.str,q _ H (j3.refl H) (by rw[j5])⟩
 ·cases e
def WI:D->D->Option D
 | .str z,.int i=>if z.length<=sizeLine then(atI z.cps.toList i).bind fun c=>some (.str ⟨#[c]⟩)else none
 | _,_=>none
set_option tactic.hygienic true in
theorem dB:jH K wM WI:=by
 intro O H a b d x y Q ha hb hn e q;unfold WI at e;split at e
 ·split at e
  ·rename_i hz;obtain⟨c,e1,e⟩:=j0 e;cases e;exact⟨_,_,c,ha.str,hb.int,hz,e1,q _ H (j3.refl H) (by rw[j5])⟩
  ·cases e
 ·cases e
noncomputable def uj(d:D)(lo hi:Option Int):Option D:=match d with
 | .str z=>if z.length<=sizeLine then some (.str (Txt.slice z lo hi))else none
 | _=>none
@[simp] def kW(de:DE)(p q:VH)(Z:jb):Option D:=(de Z).bind fun d=>(p Z).bind fun lo=>(q Z).bind fun hi=>uj d lo hi
theorem bL{lo hi:Option Expr}{p q:VH}{p2:Pos}(he:PE X e (tR K de))(hl:PO X lo (vG K p))(hu:PO X hi (vG K q))(hK:X.K=K:=by rfl):PE X (.Subscript e (.Slice lo hi none p2) pos) (tE K (kW de p q)):=jj (ZP bG he hl hu) fun U H Q xx=>by
 obtain⟨H0,O0,Z,O,d,R,ed,qq⟩:=xx;subst hK;obtain⟨x,e1,ed⟩:=j0 ed;obtain⟨l,e2,ed⟩:=j0 ed;obtain⟨u,e3,ed⟩:=j0 ed;refine⟨H0,O0,Z,O,x,R,e1,fun v H1 s1 r=>⟨H0,O0,Z,O,l,R.grow s1,e2,fun H2 s2=>⟨H0,O0,Z,O,u,R.grow (s1.trans s2),e3,fun H3 s3=>?_⟩⟩⟩;unfold uj at ed;split at ed
 ·split at ed
  ·cases ed;refine⟨_,r.str,by assumption,qq _ _ ((s1.trans s2).trans s3) (by rw[j5])⟩
  ·cases ed
 ·cases ed
end
end DS
namespace L2
open PySem PySem.Spec PyProof.Rows
section
variable {X:Cx} {x1 x2 x3:Str} {p1 p2 p3 tp hpos epos:Pos} {D1 D2 D3:Addr} {kk:Nat} {b₀:Stmt} {su rest:List Stmt} {hs:List ExceptHandler} {u:TS} {e:Expr}
theorem dE(g1:Gl X x1)(m1:X.mg x1=some (.ref D1))(d1:(x1==("__debug__" : Str))=false)(g2:Gl X x2)(m2:X.mg x2=some (.ref D2))(d2:(x2==("__debug__" : Str))=false)(g3:Gl X x3)(m3:X.mg x3=some (.ref D3))(d3:(x3==("__debug__" : Str))=false)
  (hu:∀e,jG (X.sui e) (b₀::su) u):PH X (.ExceptHandler (some (.Tuple [.Name x1 p1,.Name x2 p2,.Name x3 p3] kk tp)) none (b₀::su) hpos::hs) (fun cls od e D U H=>PySem.W.exmAny X.K cls [.ref D1,.ref D2,.ref D3]=some true/\u D U H):=by
 intro pins U H' e cls od s D L hq;obtain⟨hmt,hE⟩:=hq;obtain⟨B,a0,fl₅,mv,mvT⟩:=L.fl;have I5:Inv X pins U H' s:=mv s.heap fl₅.1 (gW _);obtain⟨oe,ws,hoe,hoec,hoed,hoe0⟩:=fl₅.first;have LT:PySem.W.Looks (model X.prog X.w) s.heap (typeOf (.ref e)) cls:=by
  have:=(PySem.W.Looks.ld (M:=model X.prog X.w) (part:=none) hoe).andThen (f:=fun o=>pure o.cls) .now;rw[hoec]at this;exact this
 refine wpAny_handleBy_cons (codeAny_handlers_test ?_) (by intro q;cases q);refine wpAny_Tuple ?_;refine wpAny_items_cons (JB (X:=X.sui e) I5.sui g1 m1 ?_ d1);refine wpAny_items_cons (JB (X:=X.sui e) I5.sui g2 m2 ?_ d2);refine wpAny_items_cons (JB (X:=X.sui e) I5.sui g3 m3 ?_ d3);refine wpAny_items_nil ⟨by size_fits,?_⟩;have kp:∀q o,s.heap.get? q=some o->(s.heap.push { cls:=.type "tuple",data:=.seq [Value.ref D1,.ref D2,.ref D3].toArray }).get? q=some o:=fun _ _ z=>wIa _ z;refine(PySem.W.exm_tup3 (I5.kIn.keeps kp) (LT.keeps kp) (wJa s.heap rfl) hmt).here ?_;refine codeAny_handlers_suite ?_;refine lands_againW (PySem.W.flying_keeps fl₅ kp) fun h₆ fl₆ sm₆=>?_;have J6:=(mv h₆ fl₆.1 ((Heap.UpToSlots.of_keeps kp).trans sm₆)).sui (e:=e);have hd:=I5.ok.hd;refine wCa (hu e pins _ _ _ _ J6 hE) (fun fw s8 hs=>?_) (fun _ _ z=>False.elim z);cases fw with
 | next=>obtain⟨U',H2,J,z⟩:=hs;exact⟨_,_,J.unsui hd,z⟩
 | brk=>obtain⟨U',H2,J,z⟩:=hs;exact⟨_,_,J.unsui hd,z⟩
 | cont=>obtain⟨U',H2,J,z⟩:=hs;exact⟨_,_,J.unsui hd,z⟩
 | ret v=>obtain⟨v',U',H2,J,rv,z⟩:=hs;exact⟨v',_,_,J.unsui hd,rv,z⟩
theorem WJ{tb:Z9}(h:VR X e tb)(hsw:swapsWith e none epos.line X.env=pure false):yX X (.Expr e epos::rest) tb:=fun pins s U H Er I q=>
 wGa (wpAny_Expr_any (wCa (h pins s U H Er I q) (fun _ _ z=>False.elim z) fun _ _ z=>z) I.quiet hsw)
theorem bM{te:TE}{tb:Z9}(h:PE X.nox e te)(hr:yX X rest tb)(hsw:swapsWith e none epos.line X.env=pure false):yX X (.Expr e epos::rest) (fun U H Er=>te U H fun _ H1=>tb U H1 Er):=fun pins s U H Er I q=>
 wGa (wpAny_Expr_any (wCa (h pins s U H _ (I.wish _) q) (fun u s1 xx=>by
  obtain⟨v,H1,I1,r,q1⟩:=xx;exact hr pins s1 U H1 Er I1.unwish q1) fun _ _ z=>False.elim z) I.quiet hsw)
end
end L2
namespace DS
open PySem PySem.Spec PyProof.Rows L2
section
variable {X:Cx} {K:Fr} {E:XK} {e:Expr} {bd su rest:List Stmt} {b₀:Stmt} {hs:List ExceptHandler} {h₀:ExceptHandler} {tpos epos:Pos} {dx dx1 dx2:DX} {db d:DS} {Px:Xp->Hp->Prop} {cs:List Str}
@[simp] noncomputable def kX(dx:DX)(db:DS)(cs:List Str)(d:DS)(Z:jb):Option Rs:=match dx Z with
 | some (.xc p)=>if cs.contains p.1=true then d Z else none
 | _=>db Z
def bN(K:Fr)(cs:List Str)(u:TS):TH:=fun cls od e D U H=>∃c,cs.contains c=true/\cls=.ref (ji K c)/\u D U H
theorem bO(hbd:yX X bd (Yt K dx))(hd:jG X.nox bd (tS K Px db))(hh:PH X (h₀::hs) (bN K cs (tS K Px d)))(hst:X.stack=X.env::X.outer)(hfr:X.env.frame=some X.env.locals):PS X (.Try bd (h₀::hs) [] [] tpos) (tS K Px (kX dx db cs d)):=
 jy (Q0 (KI hbd hh hst hfr) (gU hd)) fun D U H xx=>by
  obtain⟨H0,O0,Z,O,r,R,ed,f⟩:=xx;unfold kX at ed;have no:db Z=some r->(Ws (Yt K dx) (bN K cs (tS K Px d)) D U H \/ tS K Px db D U H):=fun ed=>.inr ⟨H0,O0,Z,O,r,R,ed,f⟩;cases e1:dx Z with
  | none=>rw[e1]at ed;exact no ed
  | some rr=>
   rw[e1]at ed;cases rr with
   | ok d=>exact no ed
   | xc p=>
    dsimp only at ed;by_cases hc:cs.contains p.1=true
    ·rw[if_pos hc]at ed;refine .inl ⟨H0,O0,Z,O,p,R,e1,fun H' s=>?_⟩;unfold PX;cases e2:p.2 with
     | nil=>exact fun e he=>⟨p.1,hc,rfl,H0,O0,Z,O,r,R.grow s,ed,f.mono (ja s)⟩
     | cons _ _=>
      intro dx hdx e he;have s2:=jp hdx (xW dx p.2);rw[<-e2];exact⟨p.1,hc,rfl,H0,O0,Z,O,r,(R.grow s).grow s2,ed,f.mono (ja (s.trans s2))⟩
    ·rw[if_neg hc]at ed;cases ed
@[simp] noncomputable def Qf(dx1 dx2:DX)(Z:jb):Option Rx:=(dx1 Z).bind fun r=>match r with
 | .xc p=>some (.xc p)
 | .ok _=>dx2 Z
@[simp] noncomputable def bP(dx:DX)(Z:jb):Option D:=(dx Z).bind fun r=>match r with
 | .ok d=>some d
 | _=>none
theorem bQ(h1:VR X e (Yt K dx1))(hE:PE X.nox e (tE K (bP dx1)))(hr:yX X rest (Yt K dx2))(hsw:swapsWith e none epos.line X.env=pure false):yX X (.Expr e epos::rest) (Yt K (Qf dx1 dx2)):=fun pins s U H Er I xx=>by
 obtain⟨H0,O0,Z,O,p,R,ed,q⟩:=xx;obtain⟨r1,e1,e2⟩:=j0 ed;cases r1 with
 | xc p'=>
  cases e2;exact WJ h1 hsw pins s U H Er I ⟨H0,O0,Z,O,p,R,e1,q⟩
 | ok d=>
  refine bM hE hr hsw pins s U H Er I ⟨H0,O0,Z,O,d,R,by unfold bP;rw[e1];rfl,fun v H1 s1 _=>⟨H0,O0,Z,O,p,R.grow s1,e2,fun H' s=>q H' (s1.trans s)⟩⟩
end
section
variable {K:Fr} {H0 H H':Hp} {O0:FA} {O N:List Addr} {Z:jb} {U:L2.St}
theorem Rel.push(R:Rel K H0 O0 Z U H O)(s:j3 H H')(nn:∀a∈N,H a=none)(al:∀a∈N,H' a≠none):Rel K H0 O0 Z U H' (N++O):=by
 have sd:j3 (j4 H O) (j4 H' (N++O)):=fun b u z=>by
  obtain⟨z1,z2⟩:=jt z;rw[jg (fun y=>by rcases List.mem_append.mp y with y | y;rw[nn b y]at z2;cases z2;exact z1 y)];exact s b u z2
 refine⟨R.len,fun a ha=>vJa _ (R.sub a ha),fun a ha=>?_,R.al0,fun a ha=>?_,R.keep.trans s,fun j d e=>?_,R.bo,fun j q2 o e=>?_,R.dist,fun j q2 h2 e=>?_⟩
 ·rcases uWa ha with z | z
  ·exact .inr (R.keep.none (nn a z))
  ·exact R.fr a z
 ·rcases uWa ha with z | z
  ·exact al a z
  ·exact fun y=>R.al a z (s.none y)
 ·obtain⟨v,a,b⟩:=R.cl j d e;exact⟨v,a,b.same sd⟩
 ·obtain⟨l2,z,a,b,c,d⟩:=R.ow j q2 o e;exact⟨l2,z,a,b.same (s l2) sd,vJa _ c,d⟩
 ·obtain⟨l,ps,a,b,c,d,f,u⟩:=R.lo j q2 h2 e;exact⟨l,ps,a,b,c.mono (fun a _ u z=>s a u z) sd,d,fun a ha=>⟨vJa _ (f a ha).1,(f a ha).2⟩,u⟩
end
section
variable {X:Cx} {K:Fr} {E:XK} {e:Expr} {C:Addr} {m:Str} {l l':DA} {ks ks':List Bool} {F G:HS->List D->Option (Rx×HS)} {tb:List (D×List (KD×Bool))}
@[simp] def bR(C:Addr)(m:Str)(F G:HS->List D->Option (Rx×HS))(l l':DA)(Z:jb):Option Rx:=(J9 l Z).bind fun ds=>(F (Vh C) ds).bind fun r=>match r.1 with
 | .ok .non=>if r.2.C=C/\(jN m r.2.ns).isNone=true/\(jN m r.2.ms).isNone=true then(J9 l' Z).bind fun es=>(G r.2 es).bind fun z=>some z.1 else none
 | _=>none
@[simp] def bS(dx:DX)(db:DE)(Z:jb):Option Rx:=(dx Z).bind fun r=>match r with
 | .xc p=>some (.xc p)
 | .ok d=>(db Z).bind fun y=>(zM d y).map .ok
theorem EM{dx:DX}{db:DE}{a b:Expr}{pos:Pos}(ha:PE X a (tX X.K E dx))(hb:PE X b (tR X.K db))(hs:Zp b):PE X (.Subscript a b pos) (tX X.K E (bS dx db)):=jj (GH Ke ha hb hs) fun U H Q xx=>by
 obtain⟨H0,O0,Z,O,r,R,ed,q⟩:=xx;obtain⟨r2,e2,ed⟩:=j0 ed;refine⟨H0,O0,Z,O,r2,R,e2,?_⟩;cases r2 with
 | xc p=>cases ed;exact fun H' s=>q H' s
 | ok d=>
  obtain⟨y,e3,ed⟩:=j0 ed;obtain⟨d',e4,rfl⟩:=Option.map_eq_some_iff.mp ed;exact fun vx H1 s1 rx=>⟨H0,O0,Z,O,y,R.grow s1,e3,fun vy H2 s2 ry=>aR O H2 d y d' vx vy Q (.inl (rx.same (ja s2))) ry (fun p hp=>(R.grow (s1.trans s2)).new hp) e4 fun v H' s r=>q v H' ((s1.trans s2).trans s) r⟩
theorem Qg{t':TA}(h:PE X e (Zm C m (zQ K ks' G) [] E (Zn C (zQ K ks F) [] E (Ji K l)) t'))(ht:∀U H Q,Ji K l' U H Q->t' U H Q)(hks:l.map (·.1)=ks)(hall:ks.all id=true)(hks':l'.map (·.1)=ks')(hall':ks'.all id=true):PE X e (tX K E (bR C m F G l l')):=jj h fun U H Q xx=>by
 obtain⟨H0,O0,Z,O,r,R,ed,f⟩:=xx;subst hks hks';obtain⟨ds,e1,ed⟩:=j0 ed;obtain⟨⟨r1,h'⟩,e2,ed⟩:=j0 ed;cases r1 with
 | xc p=>cases ed
 | ok d=>
  cases d <;> try (cases ed;done)
  dsimp only at ed;by_cases hh:h'.C=C/\(jN m h'.ns).isNone=true/\(jN m h'.ms).isNone=true
  ·rw[if_pos hh]at ed;obtain⟨hC,hn,hm⟩:=hh;obtain⟨es,e3,ed⟩:=j0 ed;obtain⟨z,e4,ed⟩:=j0 ed;cases ed;refine⟨H0,O0,Z,O,ds,R,e1,fun vs H1 s1 ak y dy ny nd hne=>?_⟩
   (try dsimp only)
   rw[uFa];refine kL (E':=E) (Q:=fun x H2=>∃a dx fs,x=.ref a/\H2 a=some (.ins C dx fs)/\List.lookup m fs=none/\t' U H2 fun vs H3=>zQ K (l'.map (·.1)) G (x::(vs++[])) H3 Q E) s1 (R.grow s1).al hall ak e2 ny nd hne ⟨rfl,fun H2 pl s x n p=>?_⟩;obtain⟨⟨dx,ws,h1,n1,n2,rp⟩,el⟩:=id x;have nn:∀a∈y::pl,H a=none:=fun a ha=>by
    rcases uTa ha with z | z
    ·rw[z];exact s1.none ny
    ·exact s1.none (p a z)
   have R2:=R.push (s1.trans s) nn fun a ha=>by obtain⟨o,z⟩:=x.at a ha;rw[z];exact fun z=>nomatch z
   refine⟨y,dx,_,rfl,by rw[h1,hC],by rw[List.lookup_append,Jw (by simpa using hn),Jw (by simpa using hm)];rfl,ht _ _ _ ⟨H0,O0,Z,_,es,R2,e3,fun us H3 s3 ak3=>?_⟩⟩
   (try dsimp only)
   rw[uFa];have R3:=R2.grow s3;have sO:∀a∈y::pl,a∉O:=fun a ha z=>R.al a z (nn a ha);refine⟨O,es,y,pl,h',us,z,rfl,fun a ha=>R3.al a (vJa _ ha),x.mono (fun a _ u z=>s3 a u z) (ja s3),n,sO,Zw (fun b u z=>?_) hall' ak3,e4,?_⟩
   ·obtain⟨z1,z2⟩:=jt z;rw[jg fun w=>z1 (List.mem_append_right _ w),jg fun w=>z1 (List.mem_append_left _ w)];exact z2
   ·have key:∀(H4:Hp) (pl':List Addr),HPost K H3 O y pl H4 pl' z.2->j3 H H4:=fun H4 pl' hp b u w=>hp.s b u (by
     rw[jg fun w'=>by rw[nn b w']at w;cases w];exact s3 _ _ (s _ _ (s1 _ _ w)))
    obtain⟨z1,z2⟩:=z;cases z1 with
    | ok d=>exact fun v H4 pl' hp rv=>f v H4 (key H4 pl' hp) (rv.same (jJ fun a ha=>vJa _ ha))
    | xc p=>exact fun H4 pl' hp=>f H4 (key H4 pl' hp)
  ·rw[if_neg hh]at ed;cases ed
@[simp] noncomputable def Qi(tb:D->List (KD×Bool))(j:Nat)(Z:jb):Option D:=(dV j Z).bind fun d=>if (tb d).length<=sizeLine then some (.mem (tb d))else none
theorem bT{pos:Pos}{tb:D->List (KD×Bool)}{j:Nat}:PE X (.Dict [] [] pos) (tE K (Qi tb j)):=fun pins s U H Q I xx=>by
 obtain⟨H0,O0,Z,O,d,R,ed,q⟩:=xx;obtain⟨x,e1,ed⟩:=j0 ed;by_cases hz:(tb x).length<=sizeLine
 ·rw[if_pos hz]at ed;cases ed;exact xV hz pins s U H Q I fun p hp=>q _ _ (jp hp _) (by rw[j5];exact⟨p,rfl,by rw[jg (R.new hp)];exact jc⟩)
 ·rw[if_neg hz]at ed;cases ed
end
end DS
set_option backward.match.sparseCases false
namespace CP
open PySem PySem.Spec PyProof.Rows L2 DS
inductive GI where
 | con (i:Int)
 | fE (k:Nat) (ps:List Str) (ks:List Bool) (F:List D->Option D)
 | fF (k:Nat) (ps:List Str) (ks:List Bool) (F:List D->Option OD)
 | mk (k:Nat) (ps:List Str) (ks:List Bool) (F:Addr->List D->Option OD) (G:List D->Option OD)
 | fX (k:Nat) (ps:List Str) (ks:List Bool) (F:List D->Option Rx)
 | fH (k:Nat) (ps:List Str) (ks:List Bool) (F:HS->List D->Option (Rx×HS))
 | mH (k:Nat) (ps:List Str) (ks:List Bool) (C:Addr) (F:HS->List D->Option (Rx×HS))
 | blt
structure XT where
 ex:List Str:=[]
 ct:List (Str×List Str×List Str):=[]
 xf:List (Str×Str):=[]
 xp:List Str:=[]
 xq:List (Str×List Str):=[]
 ve:Bool:=false
 c3:List (List Str×List Str):=[]
structure Gm where
 cm:Bool
 xm:Bool
 xt:XT
 N:List Str
 sc:Scope
 fn:Bool
 kF:Bool
 C:Addr
 gs:List (Str×GI)
 ms:List (Str×GI)
 fl:List Str
 hs:List ((Nat×Nat×Nat)×List Nat)
 sh:List (Nat×Nat)
 ow:List Nat
 hC:Addr:=0
 hm:List (Str×GI):=[]
 hfl:List Str:=[]
 hls:List Str:=[]
 tb:D->List (KD×Bool):=fun _=>[]
inductive Dn where
 | E (d:DE) | F (d:DO)
noncomputable def Dn.e:Dn->DE
 | .E d=>d
 | .F d=>dL d
noncomputable def Vi(x:Str):List Str->Option Nat
 | []=>none
 | y::r=>if x=y then some 0 else(Vi x r).map (· + 1)
noncomputable def kd(sc:Scope)(x:Str):Option NameKind:=sc.names.lookup x
noncomputable def zE(sc:Scope)(x:Str):Bool:=match kd sc x with
 | some .local=>true
 | some .cell=>true
 | some .free=>true
 | _=>false
noncomputable def UE(sc:Scope)(x:Str):Bool:=match kd sc x with
 | some .local=>true
 | some .cell=>true
 | _=>false
noncomputable def UF(sc:Scope)(x:Str):Bool:=match kd sc x with
 | some .local=>true
 | _=>false
noncomputable def yz(Γ:Gm)(x:Str):Bool:=(match kd Γ.sc x with
 | some .globalImplicit=>true
 | _=>false)&&!(x==("__debug__" : Str))
noncomputable def cG(c:Bool)(o:Option α):Option α:=if c then o else none
def slot(Γ:Gm)(x:Str):Option Nat:=(Vi x Γ.N).bind fun i=>if zE Γ.sc x&&(!(x==("__debug__" : Str))&&!(x==("__classdict__" : Str)))then some i else none
def nm(Γ:Gm):Expr->Option Nat
 | .Name x _=>slot Γ x
 | _=>none
def VX(Γ:Gm)(x:Str):Option Nat:=(Vi x Γ.N).bind fun i=>if UE Γ.sc x&&(Γ.fn||UF Γ.sc x)then some i else none
noncomputable def J1:Expr->Bool
 | .Starred _ _=>false
 | _=>true
structure Rc where
 n:Gm->Expr->Option Dn
 t:Gm->Expr->Option DT
 g:Gm->Nat->Expr->Option DG
section
variable (r:Rc) (Γ:Gm)
noncomputable def cV(f:Nat->DE)(e:Expr):Option DE:=match nm Γ e with
 | some i=>some (f i)
 | none=>(r.n Γ e).map Dn.e
def cA:List Bool->List Expr->Option DA
 | [],[]=>some []
 | k::ks,e::es=>if J1 e then(cV r Γ (if k then dC else dV) e).bind fun d=>(cA ks es).bind fun l=>some ((k,d)::l)else none
 | _,_=>none
def bU:Operator->Option (D->D->Option D)
 | .Add=>some zx
 | .Sub=>some wY
 | .Mult=>some Z_
 | .Mod=>some YQ
 | .FloorDiv=>some GQ
 | .Pow=>some wZ
 | _=>none
def Vj:CmpOp->Option (D->D->Option D)
 | .Eq=>some Ua
 | .NotEq=>some ZH
 | .Lt=>some uQ
 | .LtE=>some J_
 | .Gt=>some aP
 | .GtE=>some Dr
 | .In=>some (qS false)
 | .NotIn=>some (qS true)
 | .Is=>some V5
 | .IsNot=>some GR
noncomputable def cB(f:DE->DE->DE):List Expr->Option DE
 | []=>none
 | [a]=>cV r Γ dC a
 | a::b=>(cV r Γ dV a).bind fun d=>(cB f b).bind fun d'=>some (f d d')
noncomputable def cW(f:DT->DT->DT):List Expr->Option DT
 | []=>none
 | [a]=>r.t Γ a
 | a::b=>(r.t Γ a).bind fun d=>(cW f b).bind fun d'=>some (f d d')
def part:Option Expr->Option VH
 | none=>some fun _=>some none
 | some e=>(cV r Γ dV e).map fun d=>fun Z=>(d Z).bind uU
noncomputable def YT(p:Pos):Option (List Nat):=Γ.hs.lookup (p.line,p.col,p.endCol)
def hc(p:Pos):Nat:=match YT Γ p with
 | some (c::_)=>c
 | _=>0
noncomputable def Yu:Expr->Bool
 | .Call _ _ _ _=>false
 | _=>true
noncomputable def Vk:Expr->Bool
 | .Slice _ _ _ _=>false
 | _=>true
def WK(x:Str)(c:Nat):Option (List D->Option D):=if x = "len" then some (if c=9 then kU else if c=7 then kR else yc)else if x = "tuple" then some Yn else if x = "all" then some ZU else if x = "max" then some W4 else if x = "sum" then some km else if x = "any" then some Wm else none
def WL(x:Str)(h:Bool):Option (List D->Option OD):=if x = "list" then some (if h then vM else GV)else if x = "dict" then some UA else none
def Gd(x:Str):Bool:=yz Γ x&&(match Γ.gs.lookup x with | some .blt=>true | _=>false)
noncomputable def zk:Expr->Option Str
 | .Name x _=>some x
 | _=>none
noncomputable def bV:Expr->Option (Expr×Expr)
 | .Subscript c d _=>some (c,d)
 | _=>none
noncomputable def DN:Stmt->Option Expr
 | .Return o _=>o
 | _=>none
noncomputable def bW:Stmt->Option (Expr×Expr)
 | .Assign ts e _=>(match ts with
  | [t]=>some (t,e)
  | _=>none)
 | _=>none
noncomputable def DP:Expr->Option (Expr×Expr)
 | .Compare a ops bs _=>(match ops,bs with
  | [op],[b]=>(match op with
   | .NotIn=>some (a,b)
   | _=>none)
  | _,_=>none)
 | _=>none
def DQ:Stmt->Option (Expr×Expr×Stmt×Stmt)
 | .If c b o _=>(match b,o with
  | [t1,t2],[]=>(DP c).map fun p=>(p.1,p.2,t1,t2)
  | _,_=>none)
 | _=>none
theorem KU{e c d:Expr}(h:bV e=some (c,d)):∃p,e=.Subscript c d p:=by
 cases e <;> cases h;exact⟨_,rfl⟩
theorem bX{s:Stmt}{e:Expr}(h:DN s=some e):∃p,s=.Return (some e) p:=by
 cases s <;> cases h;exact⟨_,rfl⟩
theorem KW{s:Stmt}{t e:Expr}(h:bW s=some (t,e)):∃p,s=.Assign [t] e p:=by
 cases s with
 | Assign ts e p=>
  rcases ts with _ | ⟨t,_ | ⟨_,_⟩⟩ <;> cases h
  exact⟨_,rfl⟩
 | _=>cases h
theorem bZ{e a b:Expr}(h:DP e=some (a,b)):∃p,e=.Compare a [.NotIn] [b] p:=by
 cases e with
 | Compare a' ops bs p=>
  rcases ops with _ | ⟨op,_ | ⟨_,_⟩⟩ <;> rcases bs with _ | ⟨b',_ | ⟨_,_⟩⟩ <;> try (cases h;done)
  cases op <;> cases h;exact⟨_,rfl⟩
 | _=>cases h
theorem b_{s t1 t2:Stmt}{a b:Expr}(h:DQ s=some (a,b,t1,t2)):∃p p',s=.If (.Compare a [.NotIn] [b] p) [t1,t2] [] p':=by
 cases s with
 | If c bd o p=>
  rcases bd with _ | ⟨_,_ | ⟨_,_ | ⟨_,_⟩⟩⟩ <;> rcases o with _ | ⟨_,_⟩ <;> try (cases h;done)
  obtain⟨⟨a',b'⟩,h1,h2⟩:=Option.map_eq_some_iff.mp h;cases h2;obtain⟨p,rfl⟩:=bZ h1;exact⟨_,_,rfl⟩
 | _=>cases h
theorem JO{e:Expr}{x:Str}(h:zk e=some x):∃p,e=.Name x p:=by
 cases e <;> cases h;exact⟨_,rfl⟩
noncomputable def WM(x:Str):Option String:=if x = "list" then some "list" else if x = "tuple" then some "tuple" else if x = "bool" then some "bool" else if x = "str" then some "str" else if x = "int" then some "int" else none
def Qj(e:Expr):Option DI:=match YT Γ e.pos with
 | some (9::_)=>(cV r Γ dP e).map bH
 | some (_::_)=>(cV r Γ dP e).map q_
 | _=>(cV r Γ dP e).map YH
def B0(tup:Bool)(x:Str)(as:List Expr):Option DI:=
 if Gd Γ x then(match as with
  | [a]=>if x = "range" then cG (J1 a) ((cV r Γ dV a).map GX)
   else if x = "enumerate" then cG (J1 a&&tup) ((cV r Γ dP a).map qJ)
   else if x = "reversed" then cG (J1 a) ((cV r Γ dP a).map Ax)else none
  | [a,b]=>if x = "zip" then cG (J1 a&&J1 b&&tup) ((cV r Γ dP a).bind fun d=>(cV r Γ dP b).map fun d'=>W5 d d')else none
  | _=>none)else none
noncomputable def Yc:Expr->Bool
 | .Tuple _ _ _=>true
 | _=>false
noncomputable def uk:Expr->Bool
 | .Set _ _ _=>false
 | _=>true
def B3(tg e f:Expr)(as:List Expr)(ks:List Keyword)(p:Pos):Option DI:=match f with
 | .Name x _=>(match ks with
  | []=>(match B0 r Γ (Yc tg) x as with
   | some d=>some d
   | none=>Qj r Γ e)
  | _::_=>none)
 | .Attribute a m ap=>(match as,ks with
  | [],[]=>cG (m==("items" : Str)&&Yc tg&&Yu a&&ap.endLine==p.line) (if hc Γ p=7 then(cV r Γ dP a).map Gb else(cV r Γ dP a).map KC)
  | _,_=>none)
 | _=>none
def cI(tg:Expr)(e:Expr):Option DI:=match e with
 | .Call f as ks p=>B3 r Γ tg e f as ks p
 | _=>cG (uk e) (Qj r Γ e)
noncomputable def B4(scope sc:Scope):Scope:={ scope with names:=scope.names.map fun(n,k)=>if k==.free&&sc.kind==.function&&sc.names.lookup n==some .cell then(n,.cell)else(n,k) }
noncomputable def DR:Nat->Expr->List Str
 | 0,_=>[]
 | _+1,.Name x _=>[x]
 | n+1,.Tuple es _ _=>(es.map (DR n)).flatten
 | _,_=>[]
noncomputable def Vl:List Str->Bool
 | []=>true
 | x::r=>!(r.contains x)&&Vl r
noncomputable def WN:List Nat->Bool
 | []=>true
 | x::r=>!(r.contains x)&&WN r
noncomputable def B5(scope:Scope)(p:Str×Nat):Bool:=(match Γ.N[p.2]? with
  | some y=>y==p.1
  | none=>false)&&(match kd Γ.sc p.1 with
  | some .cell=>true
  | some .free=>true
  | _=>false)&&(match kd scope p.1 with
  | some .free=>true
  | _=>false)
noncomputable def DU(scope:Scope):Bool:=(match scope.kind with | .function=>true | _=>false)&&(scope.names.all fun y=>y.2 != .local||scope.names.lookup y.1==some .local)&&(scope.names.all fun y=>y.2 != .cell) &&
 (scope.names.all fun y=>y.2 != .free||Γ.sc.names.lookup y.1==some .cell||Γ.sc.names.lookup y.1==some .free)
def B6(p:Pos):List (Str×Nat):=((YT Γ p).getD []).map fun j=>(Γ.N.getD j "",j)
def Zy(own:List Str)(caps:List (Str×Nat))(scope:Scope):Gm:={ Γ with N:=own++caps.map (·.1),sc:=B4 scope Γ.sc,fn:=false }
def B7(elt tg iter:Expr)(ifs:List Expr)(scope:Scope)(p:Pos):Option DO:=
 let own:=DR 5 tg
 let caps:=B6 Γ p
 let Δ:=Zy Γ own caps scope
 cG (DU Γ scope&&caps.all (B5 Γ scope)&&Vl Δ.N&&WN (caps.map fun z:Str×Nat=>z.2)&&uk iter&&Γ.cm)
  ((cI r Γ tg iter).bind fun di=>(r.g Δ own.length tg).bind fun g=>(match ifs with
   | []=>some yo
   | [c]=>r.t Δ c
   | _=>none).bind fun dc=>(cV r Δ dC elt).bind fun de=>some (zN own.length (caps.map fun z:Str×Nat=>z.2) di g dc de))
def WO(es:List Expr):Option Dn:=match es with
 | [a,t]=>(match t with
  | .Name t _=>if Γ.xt.ve&&t==("ValueError" : Str)then cG (J1 a&&Gd Γ t) ((cV r Γ dV a).map fun d=>.E (d1 (b9 Γ.xt.ex) d))else if Γ.xt.ex.contains t then cG (J1 a&&yz Γ t) ((cV r Γ dV a).map fun d=>.E (d1 (AU Γ.xt.ex t) d))else cG (J1 a&&Gd Γ t) ((WM t).bind fun T=>(cV r Γ dV a).map fun d=>.E (d1 (Y0 T) d))
  | .Tuple ts _ _=>(match ts with
   | [t,u]=>(zk t).bind fun t=>(zk u).bind fun u=>cG (J1 a&&Gd Γ t&&Gd Γ u&&t==("list" : Str)&&u==("tuple" : Str)) ((cV r Γ dV a).map fun d=>.E (d1 kE d))
   | _=>none)
  | _=>none)
 | _=>none
def fW(es:List Expr):GI->Option Dn
 | .fE _ _ ks F=>(cA r Γ ks es).map fun l=>.E (jD F l)
 | .fF _ _ ks F=>(cA r Γ ks es).map fun l=>.F (zA F l)
 | .fX _ _ ks F=>(cA r Γ ks es).map fun l=>.E (jD (Q1 F) l)
 | .mk _ _ ks _ G=>(cA r Γ ks es).map fun l=>.F (G_ G l)
 | _=>none
def fY(x:Str)(es:List Expr)(p:Pos):Option Dn:=(cA r Γ (es.map fun _=>false) es).bind fun l=>(match WK x (hc Γ p)with
  | some f=>some (.E (jD f l))
  | none=>(WL x (YT Γ p).isSome).map fun f=>.F (zA f l))
def Qk(x:Str)(es:List Expr)(p:Pos):Option Dn:=cG (yz Γ x&&!es.isEmpty) ((Γ.gs.lookup x).bind fun g=>if x = "isinstance" then(match g with
 | .blt=>WO r Γ es
 | _=>none)else cG Γ.cm (match g with
 | .blt=>fY r Γ x es p
 | g=>fW r Γ es g))
noncomputable def B8:Const->Option Dn
 | .int i=>some (.E (dK (.int i)))
 | .bool i=>some (.E (dK (.bl i)))
 | .none=>some (.E (dK .non))
 | .str i=>some (.E (dK (.str i)))
 | _=>none
def B9(op:UnaryOp)(a:Expr):Option Dn:=match op with
 | .USub=>(cV r Γ dV a).map fun d=>.E (aX d)
 | .Not=>(cV r Γ dV a).map fun d=>.E (qA d)
 | _=>none
def DV(a:Expr)(op:Operator)(b:Expr)(p:Pos):Option Dn:=(cV r Γ dV a).bind fun d=>(cV r Γ dV b).bind fun d'=>(match YT Γ p with
  | some _=>(match op with
   | .Add=>some (.F (Kr GS d d'))
   | _=>none)
  | none=>(bU op).map fun f=>.E (d2 f d d'))
def EN:CmpOp->Option (D->D->Option D)
 | .In=>some (kj false)
 | .NotIn=>some (kj true)
 | .Is=>some kn
 | .IsNot=>some uh
 | _=>none
def EO:CmpOp->Option (D->D->Option D)
 | .LtE=>some WH
 | _=>none
def EQ:CmpOp->Option (D->D->Option D)
 | .In=>some (kP false)
 | .NotIn=>some (kP true)
 | _=>none
def Vm(p:Pos)(o:CmpOp):Option (D->D->Option D):=if hc Γ p=9 then EO o else Vj o
def Ql(p:Pos)(o:CmpOp):Option (D->D->Option D):=if hc Γ p=7 then EQ o else if (YT Γ p).isSome then EN o else Vj o
def DW(a:Expr)(os:List CmpOp)(bs:List Expr)(p:Pos):Option DE:=match os,bs with
 | [o],[b]=>cG (!behindInMarks o b) ((cV r Γ dV a).bind fun d=>(cV r Γ dV b).bind fun d'=>(Ql Γ p o).map fun f=>d2 f d d')
 | [o,o'],[b,c]=>cG (!lastMarks [o,o'] [b,c]) ((cV r Γ dV a).bind fun d=>(cV r Γ dV b).bind fun d'=>(cV r Γ dV c).bind fun d''=>(Vm Γ p o).bind fun f=>(Vm Γ p o').map fun f'=>JN f f' d d' d'')
 | [o,o',o''],[b,c,e]=>cG (!lastMarks [o,o',o''] [b,c,e]) ((cV r Γ dV a).bind fun d=>(cV r Γ dV b).bind fun d'=>(cV r Γ dV c).bind fun d''=>(cV r Γ dV e).bind fun d3=>
   (Vj o).bind fun f=>(Vj o').bind fun f'=>(Vj o'').map fun f''=>Zr f f' f'' d d' d'' d3)
 | _,_=>none
def Ba(p:Pos):D->D->Option D:=if hc Γ p=9 then WI else if hc Γ p=7 then kO else if (YT Γ p).isSome then Wi else zM
def DY(a b:Expr)(p:Pos):Option Dn:=match b with
 | .Slice lo hi st _=>(match st with
  | none=>(cV r Γ dV a).bind fun d=>(part r Γ lo).bind fun x=>(part r Γ hi).map fun y=>(match YT Γ p with
   | some (9::_)=>.E (kW d x y)
   | some _=>.E (qF d x y)
   | none=>.F (ud d x y))
  | some _=>none)
 | b=>cG (Vk b) ((cV r Γ dV a).bind fun d=>(cV r Γ dV b).map fun d'=>.E (d2 (Ba Γ p) d d'))
def Qm(elt:Expr)(gs:List Comprehension)(scope:Scope)(p:Pos):Option DO:=match gs with
 | [⟨tg,iter,ifs,a⟩]=>cG (a==0) (B7 r Γ elt tg iter ifs scope p)
 | _=>none
def Bb(a:Expr)(m:Str)(ap:Pos)(es:List Expr)(p:Pos):Option Dn:=match es with
 | []=>(match a with
  | .Name x np=>cG (ap.endLine==p.line&&Γ.cm) ((cV r Γ dV (.Name x np)).bind fun d=>match Γ.ms.lookup m with
   | some (.fE _ _ _ F)=>some (.E (d1 (GZ Γ.C m F) d))
   | _=>none)
  | _=>none)
 | [b]=>cG (ap.endLine==p.line&&J1 b&&Yu a) ((cV r Γ dV a).bind fun d=>(cV r Γ dV b).bind fun d'=>if m = "split" then some (.F (Kr UD d d'))else if m = "partition" then some (.E (d2 kT d d'))else none)
 | _=>none
def DZ(f:Expr)(es:List Expr)(ks:List Keyword)(p:Pos):Option Dn:=match ks with
 | []=>(match f with
  | .Name x _=>(match Γ.xt.xq.lookup x with
   | some fs=>cG (yz Γ x&&!es.isEmpty&&Γ.cm) ((cA r Γ (es.map fun _=>true) es).map fun l=>.E (b8 x fs l))
   | none=>Qk r Γ x es p)
  | .Attribute a m ap=>Bb r Γ a m ap es p
  | _=>none)
 | _=>none
def cN(e:Expr):Option Dn:=match e with
 | .Name x _=>cG (yz Γ x) (match Γ.gs.lookup x with
  | some (.con i)=>some (.E (dK (.int i)))
  | _=>none)
 | .Constant c _ _=>B8 c
 | .UnaryOp op a _=>B9 r Γ op a
 | .BinOp a op b p=>DV r Γ a op b p
 | .Compare a os bs p=>cG Γ.cm ((DW r Γ a os bs p).map .E)
 | .BoolOp op vs _=>(match op with
  | .And=>(cB r Γ yj vs).map .E
  | .Or=>(cB r Γ W3 vs).map .E)
 | .IfExp c a b _=>(r.t Γ c).bind fun t=>(cV r Γ dC a).bind fun d=>(cV r Γ dC b).map fun d'=>.E (aY t d d')
 | .Tuple es _ _=>cG (Nat.ble es.length 1000) ((cA r Γ (es.map fun _=>true) es).map fun l=>.E (GU l))
 | .List es _=>cG (Nat.ble es.length 1000) ((cA r Γ (es.map fun _=>true) es).map fun l=>.F (ZS l))
 | .Dict ks vs p=>(match ks,vs with
  | [],[]=>if hc Γ p=7 then some (.F Qe)else(match YT Γ p with
   | some [8,j]=>some (.E (Qi Γ.tb j))
   | _=>some (.F qZ))
  | _,_=>none)
 | .Attribute a f _=>if Γ.fl.contains f then cG (Yu a) ((cV r Γ dV a).map fun d=>.E (d1 (uV Γ.C f) d))else if Γ.hfl.contains f then cG (Yu a) ((cV r Γ dV a).map fun d=>.E (d1 (uV Γ.hC f) d))else cG (Yu a) ((cV r Γ dV a).map fun d=>.E (d1 (AW Γ.xt.xf f) d))
 | .Subscript a b p=>cG Γ.cm (DY r Γ a b p)
 | .ListComp elt gs scope p=>(Qm r Γ elt gs scope p).map .F
 | .Call f es ks p=>DZ r Γ f es ks p
 | _=>none
noncomputable def KY:Expr->Bool
 | .UnaryOp .Not _ _=>false
 | .BoolOp _ _ _=>false
 | .IfExp _ _ _ _=>false
 | .Compare _ _ _ _=>false
 | _=>true
def D_(a:Expr)(os:List CmpOp)(bs:List Expr)(p:Pos):Option DT:=match os,bs with
 | [o],[b]=>cG (!behindInMarks o b) ((cV r Γ dV a).bind fun d=>(cV r Γ dV b).bind fun d'=>(Ql Γ p o).map fun f=>yx (d2 f d d'))
 | [o,o'],[b,c]=>cG (!lastMarks [o,o'] [b,c]) ((cV r Γ dV a).bind fun d=>(cV r Γ dV b).bind fun d'=>(cV r Γ dV c).bind fun d''=>(Vm Γ p o).bind fun f=>(Vm Γ p o').map fun f'=>yx (JN f f' d d' d''))
 | _,_=>none
def cT(e:Expr):Option DT:=match e with
 | .Compare a os bs p=>cG Γ.cm (D_ r Γ a os bs p)
 | .UnaryOp op a p=>(match op with
  | .Not=>(r.t Γ a).map YF
  | op=>cG (KY (.UnaryOp op a p)) ((cV r Γ dV (.UnaryOp op a p)).map y_))
 | .BoolOp op vs _=>(match op with
  | .And=>cW r Γ GT vs
  | .Or=>cW r Γ V6 vs)
 | .Attribute a f p=>if Γ.hls.contains f then cG (Yu a) ((cV r Γ dV a).map fun d=>y_ (d1 (Q7 Γ.hC f) d))else cG (KY (.Attribute a f p)) ((cV r Γ dV (.Attribute a f p)).map y_)
 | e=>cG (KY e) ((cV r Γ dV e).map y_)
def Qn(k:Nat):List Expr->Option Kt
 | []=>some gZ
 | e::es=>cG (J1 e) ((r.g Γ k e).bind fun g=>(Qn k es).map fun gs=>gC g gs)
def Bc(k:Nat):Expr->Option DG
 | .Name x _=>(VX Γ x).bind fun i=>cG (Nat.blt i k) (some (gN i))
 | .Tuple es _ _=>cG Γ.cm ((Qn r Γ k es).map fun gs=>gT es.length gs)
 | _=>none
end
def rc:Nat->Rc
 | 0=>⟨fun _ _=>none,fun _ _=>none,fun _ _ _=>none⟩
 | n+1=>⟨fun Γ e=>if hc Γ e.pos=21 then some (.E fun _=>none)else cN (rc n) Γ e,fun Γ e=>if hc Γ e.pos=21 then some fun _=>none else cT (rc n) Γ e,Bc (rc n)⟩
noncomputable def kY:Stmt->Nat
 | .Return _ p=>p.line
 | .Assign _ _ p=>p.line
 | .AugAssign _ _ _ p=>p.line
 | .For _ _ _ _ p=>p.line
 | .While _ _ _ p=>p.line
 | .If _ _ _ p=>p.line
 | .Expr _ p=>p.line
 | .Raise _ _ p=>p.line
 | _=>0
section
variable (r:Rc) (q:Gm->List Stmt->Option DS.DS) (Γ:Gm)
noncomputable def cF(e:Expr):Option DO:=match r.n Γ e with
 | some (.F d)=>some d
 | _=>none
noncomputable def y9:Expr->Bool
 | .ListComp _ _ _ _=>false
 | .SetComp _ _ _ _=>false
 | .DictComp _ _ _ _ _=>false
 | _=>true
def ef(scope:Scope)(x:Str)(np vp:Pos):Bool:=(match Γ.sc.kind with | .function=>true | _=>false)&&UF Γ.sc x&&np.line==vp.line&&!(scope.names.any fun(n,k)=>n==x&&(k==.local||k==.cell))
def eg(x:Str)(np:Pos)(e:Expr):Option DS.DS:=(VX Γ x).bind fun i=>match e with
 | .ListComp elt gs scope p=>(Qm r Γ elt gs scope p).bind fun d=>cG (ef Γ scope x np p) (some (if Γ.ow.contains i then ZX i d else yd i (dL d)))
 | e=>cG (y9 e) (if Γ.ow.contains i then(cF r Γ e).map (ZX i)else(cV r Γ dC e).map (yd i))
def Be(t e:Expr):Option DS.DS:=match t with
 | .Name x np=>eg r Γ x np e
 | .Attribute o f _=>(nm Γ o).bind fun i=>if Γ.hfl.contains f then cG (y9 e) ((cV r Γ dC e).map fun d=>kG i Γ.hC f d)else if Γ.hls.contains f then cG (y9 e) ((cF r Γ e).map fun d=>kH i Γ.hC f d)else cG (y9 e&&Γ.fl.contains f) ((cV r Γ dC e).map fun d=>YL i Γ.C f d)
 | .Subscript o j p=>(nm Γ o).bind fun i=>cG (y9 e&&Vk j&&Γ.cm) (if hc Γ p=7 then(cV r Γ dC j).bind fun dx=>(cV r Γ dC e).map fun d=>kQ i dx d else if (YT Γ p).isSome then(cV r Γ dC j).bind fun dx=>(cV r Γ dC e).map fun d=>Wj i dx d
   else(cV r Γ dV j).bind fun dx=>(cV r Γ dC e).map fun d=>k6 i dx d)
 | .Tuple es n p=>cG (y9 e&&!Yc e) ((cV r Γ dC e).bind fun d=>(r.g Γ Γ.N.length (.Tuple es n p)).map fun g=>u_ d g)
 | _=>none
def Bf(t:Expr)(op:Operator)(e:Expr):Option DS.DS:=match t with
 | .Name x _=>(VX Γ x).bind fun i=>if Γ.ow.contains i then(match op with
  | .Add=>(cF r Γ e).map (WA i)
  | _=>none)else(cV r Γ dV e).bind fun d=>(match op with
  | .Add=>some (Wa i (fun i j=>i+j) d)
  | .Sub=>some (Wa i (fun i j=>i - j) d)
  | _=>none)
 | _=>none
def eh(f:Expr)(es:List Expr)(ks:List Keyword)(p:Pos):Option DS.DS:=match f,es,ks with
 | .Attribute o m ap,[e],[]=>(nm Γ o).bind fun i=>cG (m==("append" : Str)&&J1 e&&ap.endLine==p.line) ((cV r Γ dC e).map fun d=>Zs i d)
 | .Attribute o m ap,[k,e],[]=>(nm Γ o).bind fun i=>cG (m==("insert" : Str)&&J1 k&&J1 e&&ap.endLine==p.line) ((cV r Γ dV k).bind fun x=>(cV r Γ dC e).map fun d=>Wn i x d)
 | _,_,_=>none
def Bg(f:Expr)(es:List Expr)(ks:List Keyword)(p:Pos):Option DS.DS:=match f with
 | .Attribute a m ap=>(match a with
  | .Attribute o f _=>(match es with
   | [e]=>(match ks with
    | []=>(nm Γ o).bind fun i=>cG (m==("append" : Str)&&J1 e&&ap.endLine==p.line&&Γ.hls.contains f) ((cV r Γ dC e).map fun d=>kK i Γ.hC f d)
    | _=>none)
   | _=>none)
  | _=>none)
 | _=>none
def eA(e:Expr):Option DS.DS:=match e with
 | .Call f es ks p=>(match Bg r Γ f es ks p with
  | some d=>some d
  | none=>(match eh r Γ f es ks p with
   | some d=>some d
   | none=>(cV r Γ dV (.Call f es ks p)).map ue))
 | e=>cG (y9 e) ((cV r Γ dV e).map ue)
def ZK(e:Expr):Option DX:=match e with
 | .Call f es ks _=>(match f,ks with
  | .Name x _,[]=>cG (yz Γ x&&!es.isEmpty&&Γ.cm) (match Γ.gs.lookup x with
   | some (.fX _ _ ks F)=>(cA r Γ ks es).map fun l=>vR F l
   | _=>none)
  | _,_=>none)
 | _=>none
def Bh(e:Expr):Option DX:=match e with
 | .Call f es ks _=>(match f,es,ks with
  | .Name x _,[a,b],[]=>cG (yz Γ x&&Γ.cm&&J1 a&&J1 b) (match Γ.gs.lookup x with
   | some (.fF _ _ [false,true] F)=>(cV r Γ dV a).bind fun da=>(ZK r Γ b).map fun dx=>AZ (AY F) da dx
   | _=>none)
  | _,_,_=>none)
 | _=>none
def eB(es:List Expr)(m:Str)(a:Expr):Option DX:=match a with
 | .Name y p=>cG (!es.isEmpty) (match Γ.hm.lookup m with
  | some (.fX _ _ ks F)=>(cV r Γ dV (.Name y p)).bind fun d=>(cA r Γ ks es).map fun l=>KN Γ.hC m F d l
  | _=>none)
 | .Call f as ks _=>(match f,ks with
  | .Name y _,[]=>(match Γ.hm.lookup y,Γ.hm.lookup m with
   | some (.mH _ _ ks1 C F),some (.fH _ _ ks2 G)=>cG (yz Γ y&&C==Γ.hC&&!as.isEmpty&&ks1.all id&&ks2.all id) ((cA r Γ ks1 as).bind fun l=>(cA r Γ ks2 es).map fun l'=>bR Γ.hC m F G l l')
   | _,_=>none)
  | _,_=>none)
 | _=>none
def Bi(e:Expr):Option DX:=match e with
 | .Call f es ks p=>(match f,ks with
  | .Name x _,[]=>cG (yz Γ x&&!es.isEmpty&&Γ.cm) (match Γ.hm.lookup x with
   | some (.mH _ _ ks C F)=>cG (ks.all id&&!(C==Γ.hC)) ((cA r Γ ks es).map fun l=>br C F l)
   | _=>none)
  | .Attribute a m ap,[]=>cG (ap.endLine==p.line&&Γ.cm&&Nat.blt es.length 20) (eB r Γ es m a)
  | _,_=>none)
 | _=>none
def Bj(e:Expr):Option DX:=match e with
 | .Subscript a b _=>cG (Vk b) ((Bi r Γ a).bind fun dx=>(cV r Γ dV b).map fun db=>bS dx db)
 | e=>Bi r Γ e
def KZ(e:Expr):Option DX:=if Γ.xm then(match ZK r Γ e with
 | some dx=>some dx
 | none=>(match Bh r Γ e with
  | some dx=>some dx
  | none=>Bj r Γ e))else none
def Qo(e:Expr):Option Q8:=if Γ.xm then(match e with
 | .Call f es ks p=>(match f,ks with
  | .Attribute a m ap,[]=>cG (ap.endLine==p.line&&Γ.cm&&Nat.blt es.length 20&&!es.isEmpty) ((nm Γ a).bind fun i=>match Γ.hm.lookup m with
   | some (.fH _ _ ks F)=>cG (ks.all id) ((cA r Γ ks es).map fun l=>Uy i Γ.hC m F l)
   | _=>none)
  | _,_=>none)
 | _=>none)else none
def eD(t e:Expr):Option DS.DS:=match t,e with
 | .Name x _,.Call f es ks _=>(match f,ks with
  | .Name y _,[]=>(VX Γ x).bind fun i=>cG (yz Γ y&&!es.isEmpty&&Γ.cm) (match Γ.hm.lookup y with
   | some (.mH _ _ ks C F)=>cG (ks.all id&&C==Γ.hC) ((cA r Γ ks es).map fun l=>Uz i C F l)
   | _=>none)
  | _,_=>none)
 | _,_=>none
noncomputable def ER:Expr->Bool
 | .Constant c _ _=>(match c with
  | .str _=>true
  | _=>false)
 | _=>false
def eE(e:Expr):Option DS.DS:=match e with
 | .Call f es ks _=>(match f,ks with
  | .Name x _,[]=>cG (Γ.xm&&yz Γ x) (match Γ.xt.xq.lookup x with
   | some fs=>cG (!es.isEmpty) ((cA r Γ (es.map fun _=>true) es).map fun l=>AS x fs l)
   | none=>cG (Γ.xt.xp.contains x) (match es with
    | [a]=>cG (ER a) (some (DJ x))
    | _=>none))
  | _,_=>none)
 | _=>none
def vT:List Stmt->Option DX
 | [s]=>(match s with
  | .Expr e _=>ZK r Γ e
  | .Assign ts e _=>(match ts with
   | [t]=>(match t with
    | .Name _ _=>ZK r Γ e
    | _=>none)
   | _=>none)
  | .Return (some e) _=>ZK r Γ e
  | _=>none)
 | s::t=>(match s with
  | .Expr e _=>(ZK r Γ e).bind fun d=>(vT t).map fun d'=>Qf d d'
  | _=>none)
 | _=>none
noncomputable abbrev Gm.sui(Γ:Gm):Gm:={ Γ with cm:=false,xm:=false }
noncomputable abbrev Gm.nox(Γ:Gm):Gm:={ Γ with xm:=false }
def Bl:List ExceptHandler->Option (List Hd)
 | []=>some []
 | .ExceptHandler t n b _::hs=>(match t,n,b with
  | some (.Name x _),some n,b₀::su=>(Γ.xt.ct.lookup x).bind fun c=>(slot Γ n).bind fun i=>cG (yz Γ x&&UF Γ.sc n) ((q Γ.sui (b₀::su)).bind fun d=>(Bl hs).map fun l=>⟨c.1,c.2,i,d⟩::l)
  | _,_,_=>none)
def eF:List ExceptHandler->Option (List Str×DS.DS)
 | [.ExceptHandler t n b _]=>(match t,n,b with
  | some (.Tuple es _ _),none,b₀::su=>(match es with
   | [e1,e2,e3]=>(zk e1).bind fun x1=>(zk e2).bind fun x2=>(zk e3).bind fun x3=>(Γ.xt.c3.lookup [x1,x2,x3]).bind fun cs=>cG (yz Γ x1&&yz Γ x2&&yz Γ x3) ((q Γ.sui (b₀::su)).map fun d=>(cs,d))
   | _=>none)
  | _,_,_=>none)
 | _=>none
def cS(s:Stmt):Option DS.DS:=match s with
 | .Assign ts e _=>(match ts with
  | [t]=>(match KZ r Γ e with
   | some dx=>(match t with
    | .Name x _=>(VX Γ x).map fun i=>VT dx fun d Z=>some (.nx (Z.set i (.cl d)))
    | .Tuple es n p=>(r.g Γ Γ.N.length (.Tuple es n p)).map fun g=>VT dx fun d Z=>(g d Z).bind fun Z'=>some (.nx Z')
    | _=>none)
   | none=>(match Qo r Γ e with
    | some dx=>(match t with
     | .Name x _=>(VX Γ x).map fun i=>Q9 dx fun d Z=>some (.nx (Z.set i (.cl d)))
     | _=>none)
    | none=>(match eD r Γ t e with
     | some d=>some d
     | none=>Be r Γ t e)))
  | _=>none)
 | .AugAssign t op e _=>Bf r Γ t op e
 | .Expr e _=>(match KZ r Γ e with
  | some dx=>some (VT dx fun _ Z=>some (.nx Z))
  | none=>(match Qo r Γ e with
   | some dx=>some (Q9 dx fun _ Z=>some (.nx Z))
   | none=>eA r Γ e))
 | .Return o _=>(match o with
  | none=>some (Je (dK .non))
  | some e=>(match KZ r Γ e with
   | some dx=>some (VT dx fun d _=>some (.rt d))
   | none=>(match nm Γ e with
    | some i=>if Γ.ow.contains i then some (ka i)else some (Je (dC i))
    | none=>if Γ.kF then(cF r Γ e).map k8 else(cV r Γ dC e).map Je)))
 | .If c a b _=>(r.t Γ c).bind fun t=>(q Γ a).bind fun x=>(q Γ b).map fun y=>JR t x y
 | .While c b o _=>(match o with
  | []=>(r.t Γ c).bind fun t=>(q Γ b).map fun x=>ZG t x 20000
  | _::_=>none)
 | .For tg it b o _=>(match o with
  | []=>cG (uk it&&Γ.cm) ((cI r Γ tg it).bind fun di=>(r.g Γ Γ.N.length tg).bind fun g=>(q Γ b).map fun x=>U4 di g x)
  | _::_=>none)
 | .Raise e o _=>(match e,o with
  | some e,none=>if Γ.xm then eE r Γ e else some j_
  | _,_=>none)
 | .Try bd hs o fb _=>cG (o.isEmpty&&fb.isEmpty&&!hs.isEmpty) (match eF q Γ hs with
  | some (cs,d)=>(vT r Γ bd).bind fun dx=>(q Γ.nox bd).map fun db=>kX dx db cs d
  | none=>(vT r Γ bd).bind fun dx=>(q Γ.nox bd).bind fun db=>(Bl q Γ hs).map fun l=>Wy dx db l)
 | _=>none
def Ge(l:Nat):List (Nat×Nat)->DS.DS->DS.DS
 | [],d=>d
 | (m,i)::r,d=>if m=l then uZ i (Ge l r d)else Ge l r d
def Qp(l:List Stmt):Option DS.DS:=match l with
 | [s1,s2]=>(DQ s1).bind fun x=>(bW x.2.2.1).bind fun y=>(bW x.2.2.2).bind fun z=>(bV z.1).bind fun u=>(DN s2).bind fun v=>(bV v).bind fun u'=>
  (zk y.1).bind fun y'=>(nm Γ x.1).bind fun js=>(nm Γ x.2.1).bind fun jk=>(zk x.1).bind fun s=>(zk x.2.1).bind fun k=>(zk u.1).bind fun c=>(zk u.2).bind fun d=>(zk u'.1).bind fun c'=>(zk u'.2).bind fun d'=>(VX Γ y').bind fun i=>
   cG (c==k&&c'==k&&d==s&&d'==s&&y9 y.2&&y9 z.2&&Γ.cm) ((cV r Γ dC y.2).bind fun d1=>(cV r Γ dC z.2).map fun d2=>ui js jk i d1 d2)
 | _=>none
def Qq:List Stmt->Option DS.DS
 | []=>some jq
 | s::t=>if Γ.sh.contains (kY s,1000)then some j_ else if Γ.sh.contains (kY s,1001)then Qp r Γ (s::t)else(cS r q Γ s).bind fun d=>(match t with
  | []=>some (Ge (kY s) Γ.sh d)
  | t=>(Qq t).map fun d'=>Ge (kY s) Γ.sh (jF d d'))
end
def cQ(r:Rc):Nat->Gm->List Stmt->Option DS.DS
 | 0=>fun _ _=>none
 | n+1=>fun Γ=>Qq r (cQ r n) Γ
section
variable (P:Program) (w:World) (K':Fr) (mg:Str->Option Value) (base:Heap) (C:Addr) (rm:Nat->Prop) (K:Fr) (x:Str)
def UG:GI->Prop
 | .con i=>∃t,mg x=some (.int i t)
 | .fE k ps ks F=>FnI P w K' mg base k x ps (Y5 K ks F)/\rm k
 | .fF k ps ks F=>FnI P w K' mg base k x ps (gJ K ks F)/\rm k
 | .mk k ps ks F G=>MkI P w K' mg base k C x ps (qL K C ks F)/\(∀p ds o,G ds=some o->F p ds=some o)/\rm (k+1)
 | .fX k ps ks F=>(∃f fd,FnOk P w K' mg base (J3 P w) k f fd ps (Zb K ks F)/\jY K' fd ps []/\PySem.W.keepIn K' (.ref f)=true/\mg x=some (.ref f))/\rm k
 | .blt=>mg x=none
 | .fH _ _ _ _=>False
 | .mH _ _ _ _ _=>False
def J2:GI->Prop
 | .fX k ps ks F=>(∃f fd,FnOk P w K' mg base (J3 P w) k f fd ps (Zb K (false::ks) F)/\jY K' fd ps []/\Meth K' C x f)/\rm k
 | .fH k ps ks F=>(∃f fd,FnOk P w K' mg base (J3 P w) k f fd ps (zQ K ks F)/\jY K' fd ps []/\Meth K' C x f)/\rm k
 | .mH k ps ks C F=>(∃f fd,FnOk P w K' mg base (J3 P w) k f fd ps (zQ K ks F)/\jY K' fd ps []/\Mk K' C f/\mg x=some (.ref C))/\rm (k+1)
 | _=>True
def Gf:GI->Prop
 | .fE k ps _ F=>MtI P w K' mg base k C x ps (Y5 K [false] F)/\rm k
 | .fF k ps _ F=>MtI P w K' mg base k C x ps (gJ K [false] F)/\rm k
 | _=>True
end
structure XTok (K:Fr) (mg:Str->Option Value) (T:XT):Prop where
 e:∀x∈T.ex,∃C,W.nsIn K mainGlobals x=some (some (.ref C))/\mg x=some (.ref C)/\ExC K C
 k:∀x∈T.ex,∀y∈T.ex,W.kitOne K (.ref (ji K x)) (.ref (ji K y))=some (x==y)
 c:∀h∈T.ct,mg h.1=some (.ref (ji K h.1))/\(∀x∈h.2.1,W.exmOne K (.ref (ji K x)) (.ref (ji K h.1))=some true)/\∀x∈h.2.2,W.exmOne K (.ref (ji K x)) (.ref (ji K h.1))=some false
 f:∀p∈T.xf,ExG K (ji K p.1) p.2
 v:T.ve=true->∀x∈T.ex,W.kitOne K (.ref (ji K x)) (.type "ValueError")=some true
 c3:∀p∈T.c3,(∀x∈p.1,mg x=some (.ref (ji K x)))/\∀c∈p.2,W.exmAny K (.ref (ji K c)) (p.1.map fun x=>Value.ref (ji K x))=some true
noncomputable def ZL:List Value:=[.type "ValueError",.type "Exception",.type "BaseException",.type "object"]
def vd(P:Program)(w:World)(K:Fr)(mg:Str->Option Value)(base:Heap)(rm:Nat->Prop)(x:Str)(fs:List Str):Prop:=∃C fi fd ps k,W.nsIn K mainGlobals x=some (some (.ref C))/\ya K C ZL "ValueError.__new__" fi=true/\W.keepIn K (.ref C)=true/\W.typeIn K (.ref fi)=some (.type "function")/\FnOk P w K mg base Jx k fi fd ps (Us C fs)/\fs.length<=1000/\ps.length=fs.length+1/\jY K fd ps []/\rm (k+1)
theorem vd.mono{P:Program}{w:World}{K:Fr}{mg:Str->Option Value}{base:Heap}{r r':Nat->Prop}{x:Str}{fs:List Str}(h:vd P w K mg base r x fs)(l:∀k,r k->r' k):vd P w K mg base r' x fs:=by
 obtain⟨C,fi,fd,ps,k,a1,a2,a3,a4,a5,a6,a7,a8,a9⟩:=h;exact⟨C,fi,fd,ps,k,a1,a2,a3,a4,a5,a6,a7,a8,l _ a9⟩
structure OkX (K:Fr) (Γ:Gm) (X:Cx):Prop where
 xt:XTok K X.mg Γ.xt
 n:X.N=Γ.N
 sc:X.env.scope=Γ.sc
 nd:Γ.N.Nodup
 calm:Γ.cm=true->X.calm=true
 k:X.K=K
 room:Γ.cm=true->Room 0 X.A
 fn:Γ.fn=true->∀x,X.fn x=true
 gs:∀x g,Γ.gs.lookup x=some g->UG X.prog X.w X.K X.mg X.base Γ.C (fun k=>Γ.cm=true->Room k X.A) K x g
 ms:∀x g,Γ.ms.lookup x=some g->Gf X.prog X.w X.K X.mg X.base Γ.C (fun k=>Γ.cm=true->Room k X.A) K x g
 cl:Cls K Γ.C
 fl:∀f,Γ.fl.contains f=true->Jb K Γ.C f
 hcl:Cls K Γ.hC
 hfl:∀f,Γ.hfl.contains f=true \/ Γ.hls.contains f=true->Jb K Γ.hC f
 hm:∀x g,Γ.hm.lookup x=some g->J2 X.prog X.w X.K X.mg X.base Γ.hC (fun k=>Γ.cm=true->Room k X.A) K x g
 xq:∀x fs,Γ.xt.xq.lookup x=some fs->vd X.prog X.w X.K X.mg X.base (fun k=>Γ.cm=true->Room k X.A) x fs
def Ze(X:Cx)(K:Fr)(e:Expr):Dn->Prop
 | .E d=>PE X e (tE K d)
 | .F d=>PE X e (tF K d)
structure RcOk (r:Rc):Prop where
 n:∀{K:Fr} {Γ:Gm} {X:Cx} {e:Expr} {d:Dn},OkX K Γ X->r.n Γ e=some d->Ze X K e d
 t:∀{K:Fr} {Γ:Gm} {X:Cx} {e:Expr} {d:DT},OkX K Γ X->r.t Γ e=some d->PT X e (tT K d)
 g:∀{K:Fr} {Γ:Gm} {X:Cx} {k:Nat} {e:Expr} {d:DG},OkX K Γ X->r.g Γ k e=some d->PG X e (tG K k d)
theorem j9(h:cG c o=some y):c=true/\o=some y:=by
 cases c with
 | true=>exact⟨rfl,h⟩
 | false=>cases h
theorem j6(h:o.map f=some y):∃x,o=some x/\f x=y:=by
 cases o with
 | none=>cases h
 | some x=>exact⟨x,rfl,vFa h⟩
theorem j8{a b:Bool}(h:(a&&b)=true):a=true/\b=true:=by simpa using h
theorem yN(h:(!a)=true):a=false:=by simpa using h
set_option tactic.hygienic true in
theorem zF{x:Str}:∀{l:List Str} {i:Nat},Vi x l=some i->l[i]?=some x
 | [],_,h=>by cases h
 | y::r,i,h=>by
  unfold Vi at h;split at h
  ·cases h;rename_i e;rw[e];rfl
  ·obtain⟨j,h1,h2⟩:=j6 h;rw[<-h2];simpa using zF h1
section
variable {r:Rc} {Γ:Gm} {X:Cx} {K:Fr} {x y:Str} {i:Nat} {e a b c tg:Expr} {es:List Expr} {pos:Pos} {d:DE}
theorem zm(h:zE sc x=true):zS sc x:=by
 unfold zE at h;split at h <;> first | cases h | skip
 ·exact .inl (by assumption)
 ·exact .inr (.inl (by assumption))
 ·exact .inr (.inr (by assumption))
theorem K_(h:UE sc x=true):ZC sc x:=by
 unfold UE at h;split at h <;> first | cases h | skip
 ·exact .inl (by assumption)
 ·exact .inr (by assumption)
theorem UH{sc:Scope}(h:UF sc x=true):sc.names.lookup x=some .local:=by
 unfold UF at h;split at h
 ·assumption
 ·cases h
theorem Jz(h:OkX K Γ X)(g:yz Γ x=true):Gl X x/\(x==("__debug__" : Str))=false:=by
 obtain⟨g1,g2⟩:=j8 g;refine⟨?_,yN g2⟩;show X.env.scope.names.lookup x=_;rw[h.sc];split at g1
 ·assumption
 ·cases g1
theorem Zf(h:OkX K Γ X)(g:Gd Γ x=true):Gl X x/\X.mg x=none:=by
 obtain⟨g1,g2⟩:=j8 g;refine⟨(Jz h g1).1,?_⟩;split at g2
 ·exact h.gs x _ (by assumption)
 ·cases g2
set_option tactic.hygienic true in
theorem UI(e:slot Γ x=some i):Vi x Γ.N=some i/\zE Γ.sc x=true/\(x==("__debug__" : Str))=false/\(x==("__classdict__" : Str))=false:=by
 obtain⟨j,e1,e2⟩:=j0 e;split at e2
 ·cases e2;rename_i hh;obtain⟨h1,h2⟩:=j8 hh;obtain⟨h2,h3⟩:=j8 h2;exact⟨e1,h1,yN h2,yN h3⟩
 ·cases e2
theorem jR(h:OkX K Γ X)(e:slot Γ x=some i):PE X (.Name x pos) (Jr i):=by
 obtain⟨h1,h2,h3,h4⟩:=UI e;exact pv i (by rw[h.n];exact zF h1) (by rw[h.sc];exact zm h2) h3 h4
theorem JP(h:nm Γ e=some i):∃x pos,e=.Name x pos/\slot Γ x=some i:=by
 cases e with
 | Name x p=>exact⟨_,_,rfl,h⟩
 | _=>cases h
set_option tactic.hygienic true in
theorem Yv(h:OkX K Γ X)(e:VX Γ x=some i):X.N.Nodup/\X.N[i]?=some x/\ZC X.env.scope x/\(X.fn x=true \/ X.env.scope.names.lookup x=some .local):=by
 obtain⟨j,e1,e2⟩:=j0 e;split at e2
 ·cases e2;rename_i hh;obtain⟨h1,h2⟩:=j8 hh;refine⟨by rw[h.n];exact h.nd,by rw[h.n];exact zF e1,by rw[h.sc];exact K_ h1,?_⟩;rw[Bool.or_eq_true]at h2;rcases h2 with h2 | h2
  ·exact .inl (h.fn h2 x)
  ·exact .inr (by rw[h.sc];exact UH h2)
 ·cases e2
theorem jh(h:J1 e=true):starEach (e::es) env=(false,eval e env)::starEach es env:=by
 cases e <;> first | rfl | cases h
theorem jZ:∀{es:List Expr},(∀e∈es,J1 e=true)->(backTo pos (starEach es env)).any (·.1)=false
 | [],_=>rfl
 | e::es,h=>by
  rw[jh (h e List.mem_cons_self)];show(false||(backTo pos (starEach es env)).any (·.1))=false;rw[jZ fun x hx=>h x (List.mem_cons_of_mem _ hx)];rfl
theorem JC(h:Yu e=true):attributeBase e f env (eval e env)=eval e env:=by
 cases e <;> first | rfl | cases h
theorem yv(h:Vk b=true):Zp b:=by
 cases b <;> first | (intro _ _;rfl) | cases h
theorem Gg(h:uk e=true):∀x,foldedSetIterable e env x=pure x:=by
 cases e <;> first | (intro _;rfl) | cases h
theorem J5(h:y9 e=true):swapsWith e t l env=pure false:=by
 cases e <;> first | rfl | cases h
theorem UJ{f:Nat->DE}(h:cV r Γ f e=some d):(∃i,nm Γ e=some i/\d=f i) \/∃n,r.n Γ e=some n/\d=n.e:=by
 unfold cV at h;split at h
 ·exact .inl ⟨_,by assumption,(vFa h).symm⟩
 ·obtain⟨n,h1,h2⟩:=j6 h;exact .inr ⟨n,h1,h2.symm⟩
theorem WP{n:Dn}(h:Ze X K e n):PE X e (tE K n.e):=by
 cases n with
 | E d=>exact h
 | F d=>exact E5 h
variable (R:RcOk r) (h:OkX K Γ X)
include R h
theorem J4(q:cV r Γ dC e=some d):PE X e (tE K d):=by
 rcases UJ q with⟨i,q1,rfl⟩ | ⟨n,q1,rfl⟩
 ·obtain⟨x,p,rfl,q2⟩:=JP q1;exact qw i (jR h q2)
 ·exact WP (R.n h q1)
theorem jl(q:cV r Γ dV e=some d):PE X e (tR K d):=by
 rcases UJ q with⟨i,q1,rfl⟩ | ⟨n,q1,rfl⟩
 ·obtain⟨x,p,rfl,q2⟩:=JP q1;exact cP i (jR h q2)
 ·exact E4 (WP (R.n h q1))
theorem Yd(q:cV r Γ dP e=some d):PE X e (tP K d):=by
 rcases UJ q with⟨i,q1,rfl⟩ | ⟨n,q1,rfl⟩
 ·obtain⟨x,p,rfl,q2⟩:=JP q1;exact Cr i (jR h q2)
 ·exact Ep (WP (R.n h q1))
set_option tactic.hygienic true in
theorem Jf:∀{ks:List Bool} {es:List Expr} {l:DA},cA r Γ ks es=some l->PA X es (Ji K l)/\l.map (·.1)=ks/\(∀e∈es,J1 e=true)/\l.length=es.length
 | [],[],l,q=>by cases q;exact⟨Ci,rfl,(fun _ h=>by cases h),rfl⟩
 | k::ks,e::es,l,q=>by
  unfold cA at q;split at q
  ·rename_i hs;obtain⟨d,q1,q⟩:=j0 q;obtain⟨l',q2,q⟩:=j0 q;cases q;obtain⟨a1,a2,a3,a4⟩:=Jf q2;refine⟨?_,by simp[a2],fun z hz=>?_,by simp[a4]⟩
   ·cases k with
    | true=>exact Ek (J4 R h q1) a1 (jh hs)
    | false=>exact El (jl R h q1) a1 (jh hs)
   ·rcases uTa hz with rfl | hz
    ·exact hs
    ·exact a3 z hz
  ·cases q
 | [],_::_,_,q=>by cases q
 | _::_,[],_,q=>by cases q
omit R in
theorem Bm(q:bU op=some f):∃t,jw X (binaryOp op) t/\jH K t f:=by
 have:=h.k;subst this;cases op <;> cases q
 ·exact⟨_,xl,C8⟩
 ·exact⟨_,X_,cZ⟩
 ·exact⟨_,xk,Ah⟩
 ·exact⟨_,ae,C0⟩
 ·exact⟨_,af,C3⟩
 ·exact⟨_,QG,C2⟩
omit R in
theorem Zg(hc:Γ.cm=true)(q:Vj op=some f):∃t,jw X (compareOp op) t/\jH K t f:=by
 have:=h.k;subst this;cases op <;> cases q
 ·exact⟨_,An (h.room hc),Ex⟩
 ·exact⟨_,Ao (h.room hc),Ey⟩
 ·exact⟨_,cu,E9⟩
 ·exact⟨_,cw,Ea⟩
 ·exact⟨_,cx,Eb⟩
 ·exact⟨_,cy,Ec⟩
 ·exact⟨_,ao,C4⟩
 ·exact⟨_,QH,aQ⟩
 ·exact⟨_,Kg,Ap⟩
 ·exact⟨_,uF,Ap⟩
omit R in
theorem Zz(hc:Γ.cm=true)(q:Vm Γ p op=some f):∃t,jw X (compareOp op) t/\jH K t f:=by
 unfold Vm at q;split at q
 ·cases op <;> cases q;exact⟨_,KT,dA⟩
 ·exact Zg h hc q
omit R in
theorem w5(hc:Γ.cm=true)(q:Ql Γ p op=some f):∃t,jw X (compareOp op) t/\jH K t f:=by
 unfold Ql at q;split at q
 ·cases op <;> cases q
  ·exact⟨_,WC,Qd⟩
  ·exact⟨_,gh,Qd⟩
 split at q
 ·have:=h.k;subst this;cases op <;> cases q
  ·exact⟨_,Az,CK⟩
  ·exact⟨_,xA,AA⟩
  ·exact⟨_,KA (h.room hc),qY⟩
  ·exact⟨_,Uh (h.room hc),qY⟩
 ·exact Zg h hc q
theorem w8:∀{vs:List Expr} {d:DE},cB r Γ yj vs=some d->PE X (.BoolOp .And vs pos) (tE K d)
 | [],_,q=>by cases q
 | [a],_,q=>qB (J4 R h q)
 | a::b::c,d,q=>by
  unfold cB at q;obtain⟨d1,q1,q⟩:=j0 q;obtain⟨d2,q2,q⟩:=j0 q;cases q;exact Ce (jl R h q1) (w8 q2)
theorem Qr:∀{vs:List Expr} {d:DE},cB r Γ W3 vs=some d->PE X (.BoolOp .Or vs pos) (tE K d)
 | [],_,q=>by cases q
 | [a],_,q=>qB (J4 R h q)
 | a::b::c,d,q=>by
  unfold cB at q;obtain⟨d1,q1,q⟩:=j0 q;obtain⟨d2,q2,q⟩:=j0 q;cases q;exact Ej (jl R h q1) (Qr q2)
theorem wa:∀{vs:List Expr} {d:DT},cW r Γ GT vs=some d->PW X (.BoolOp .And vs pos) (tT K d)
 | [],_,q=>by cases q
 | [a],_,q=>aV (R.t h q)
 | a::b::c,d,q=>by
  unfold cW at q;obtain⟨d1,q1,q⟩:=j0 q;obtain⟨d2,q2,q⟩:=j0 q;cases q;exact Cd (R.t h q1) (wa q2)
theorem Qs:∀{vs:List Expr} {d:DT},cW r Γ V6 vs=some d->PW X (.BoolOp .Or vs pos) (tT K d)
 | [],_,q=>by cases q
 | [a],_,q=>Cb (R.t h q)
 | a::b::c,d,q=>by
  unfold cW at q;obtain⟨d1,q1,q⟩:=j0 q;obtain⟨d2,q2,q⟩:=j0 q;cases q;exact Ei (R.t h q1) (Qs q2)
theorem Yh(q:part r Γ o=some p):PO X o (vG K p):=by
 cases o with
 | none=>cases q;exact Em
 | some e=>
  obtain⟨d,q1,rfl⟩:=j6 q;exact En (jl R h q1)
theorem wb(q:Qj r Γ e=some di):PI X tg e (yl K di):=by
 unfold Qj at q;split at q
 ·obtain⟨d,q1,rfl⟩:=j6 q;exact dz (Yd R h q1) h.k
 ·obtain⟨d,q1,rfl⟩:=j6 q;exact Aw (Yd R h q1)
 ·obtain⟨d,q1,rfl⟩:=j6 q;exact Cs (Yd R h q1) h.k
omit R h in
theorem vf(t:Yc e=true):∃es n p,e=.Tuple es n p:=by
 cases e <;> first | exact⟨_,_,_,rfl⟩ | cases t
set_option tactic.hygienic true in
theorem Bn(q:B0 r Γ (Yc tg) x es=some di):PI X tg (.Call (.Name x np) es [] pos) (yl K di):=by
 unfold B0 at q;split at q
 ·rename_i hb;obtain⟨g1,g2⟩:=Zf h hb;split at q
  ·split at q
   ·rename_i ex;subst ex;obtain⟨s1,q⟩:=j9 q;obtain⟨d,q1,rfl⟩:=j6 q;exact A2 g1 g2 (jl R h q1) (jh s1)
   ·split at q
    ·rename_i ex;subst ex;obtain⟨s1,q⟩:=j9 q;obtain⟨u1,u2⟩:=j8 s1;obtain⟨d,q1,rfl⟩:=j6 q;obtain⟨_,_,_,rfl⟩:=vf u2;exact A3 g1 g2 (Yd R h q1) (jh u1) h.k
    ·split at q
     ·rename_i ex;subst ex;obtain⟨s1,q⟩:=j9 q;obtain⟨d,q1,rfl⟩:=j6 q;exact CH g1 g2 (Yd R h q1) (jh s1) h.k
     ·cases q
  ·split at q
   ·rename_i ex;subst ex;obtain⟨s1,q⟩:=j9 q;obtain⟨u1,u3⟩:=j8 s1;obtain⟨u1,u2⟩:=j8 u1;obtain⟨d,q1,q⟩:=j0 q;obtain⟨d',q2,rfl⟩:=j6 q;obtain⟨_,_,_,rfl⟩:=vf u3;exact Cu g1 g2 (Yd R h q1) (Yd R h q2) (by rw[jh u1,jh u2];rfl) (jh u2) h.k
   ·cases q
  ·cases q
 ·cases q
theorem Bo(q:B3 r Γ tg (.Call f as ks p) f as ks p=some di):PI X tg (.Call f as ks p) (yl K di):=by
 unfold B3 at q;cases f with
 | Name x p'=>
  cases ks with
  | nil=>
   dsimp only at q;split at q
   ·cases q;exact Bn R h (by assumption)
   ·exact wb R h q
  | cons _ _=>cases q
 | Attribute a m ap=>
  rcases as with _ | ⟨_,_⟩ <;> rcases ks with _ | ⟨_,_⟩ <;> try (cases q;done)
  ·obtain⟨z,q9⟩:=j9 q;obtain⟨z,z4⟩:=j8 z;obtain⟨z,z3⟩:=j8 z;obtain⟨z1,z2⟩:=j8 z;have e1:=vLa z1;subst e1;obtain⟨_,_,_,rfl⟩:=vf z2;split at q9
   ·obtain⟨d,q1,rfl⟩:=j6 q9;exact WD (Yd R h q1) (JC z3) z4
   ·obtain⟨d,q1,rfl⟩:=j6 q9;exact xz (Yd R h q1) (JC z3) z4
 | _=>cases q
theorem Qt(q:cI r Γ tg e=some di):PI X tg e (yl K di):=by
 cases e with
 | Call f as ks p=>exact Bo R h q
 | _=>exact wb R h (j9 q).2
end
theorem ZA:∀{l:List Str},Vl l=true->l.Nodup
 | [],_=>List.nodup_nil
 | x::r,h=>by
  obtain⟨h1,h2⟩:=j8 h;refine List.nodup_cons.mpr ⟨fun z=>?_,ZA h2⟩;rw[List.contains_iff_mem.mpr z]at h1;cases h1
theorem Gh:∀{l:List Nat},WN l=true->l.Nodup
 | [],_=>List.nodup_nil
 | x::r,h=>by
  obtain⟨h1,h2⟩:=j8 h;refine List.nodup_cons.mpr ⟨fun z=>?_,Gh h2⟩;rw[List.contains_iff_mem.mpr z]at h1;cases h1
structure LcP (X:Cx) (K:Fr) (elt tg iter:Expr) (ifs:List Expr) (scope:Scope) (own:List Str) (caps:List (Str×Nat)) (di:DI) (g:DG) (dc:DT) (de:DE):Prop where
 S:CScope X scope
 cp:Caps X scope caps
 i:PI X tg iter (yl K di)
 g:∀s3 H3 ex',PG (X.comp (L2.cN own caps) scope s3 H3 ex') tg (tG K own.length g)
 t:∀s3 H3 ex',yZ (X.comp (L2.cN own caps) scope s3 H3 ex') ifs (tT K dc)
 e:∀s3 H3 ex',PE (X.comp (L2.cN own caps) scope s3 H3 ex') elt (tE K de)
 nd:(caps.map (·.2)).Nodup
 fs:∀x,foldedSetIterable iter X.env x=pure x
 cm:X.calm=true
section
variable {r:Rc} {Γ:Gm} {X:Cx} {K:Fr} {x y:Str} {i:Nat} {e a b c tg:Expr} {es:List Expr} {pos:Pos} {d:DE}
theorem vg{own:List Str}{caps:List (Str×Nat)}{scope:Scope}(h:OkX K Γ X)(hn:Vl (Zy Γ own caps scope).N=true){s3:Shared}{H3:Hp}{ex':List Addr}:OkX K (Zy Γ own caps scope) (X.comp (L2.cN own caps) scope s3 H3 ex') where
 n:=rfl
 sc:=by
  show relabel scope X.env=B4 scope Γ.sc;rw[<-h.sc];rfl
 nd:=ZA hn
 calm:=h.calm
 k:=h.k
 room:=h.room
 xt:=h.xt
 fn:=fun z=>by cases z
 gs:=h.gs
 ms:=h.ms
 cl:=h.cl
 fl:=h.fl
 hcl:=h.hcl
 hfl:=h.hfl
 hm:=h.hm
 xq:=h.xq
theorem dG{scope:Scope}(h:OkX K Γ X)(q:DU Γ scope=true):CScope X scope:=by
 obtain⟨q,q4⟩:=j8 q;obtain⟨q,q3⟩:=j8 q;obtain⟨q1,q2⟩:=j8 q;refine⟨?_,q2,q3,by rw[h.sc];exact q4⟩;split at q1
 ·assumption
 ·cases q1
set_option tactic.hygienic true in
theorem Gi{scope:Scope}(h:OkX K Γ X):∀{caps:List (Str×Nat)},caps.all (B5 Γ scope)=true->Caps X scope caps
 | [],_=>.nil
 | (y,j)::r,q=>by
  rw[List.all_cons]at q;obtain⟨q1,q2⟩:=j8 q;obtain⟨q1,q5⟩:=j8 q1;obtain⟨q3,q4⟩:=j8 q1;refine .cons ?_ ?_ ?_ (Gi h q2)
  ·rw[h.n];dsimp only at q3;split at q3
   ·rename_i z hz;rw[hz,eq_of_beq q3]
   ·cases q3
  ·show X.env.scope.names.lookup y=_ \/ X.env.scope.names.lookup y=_;rw[h.sc];split at q4
   ·exact .inl (by assumption)
   ·exact .inr (by assumption)
   ·cases q4
  ·split at q5
   ·assumption
   ·cases q5
variable (R:RcOk r) (h:OkX K Γ X)
include R h
theorem Bp{elt iter:Expr}{ifs:List Expr}{scope:Scope}{p:Pos}{d:DO}(q:B7 r Γ elt tg iter ifs scope p=some d):
  ∃own caps di g dc de,d=zN own.length (caps.map (·.2)) di g dc de/\LcP X K elt tg iter ifs scope own caps di g dc de:=by
 unfold B7 at q;dsimp only at q;obtain⟨z,q⟩:=j9 q;obtain⟨z,z6⟩:=j8 z;obtain⟨z,z5⟩:=j8 z;obtain⟨z,z4⟩:=j8 z;obtain⟨z,z3⟩:=j8 z;obtain⟨z1,z2⟩:=j8 z;obtain⟨di,q1,q⟩:=j0 q;obtain⟨g,q2,q⟩:=j0 q;obtain⟨dc,q3,q⟩:=j0 q;obtain⟨de,q4,q⟩:=j0 q;refine⟨_,_,di,g,dc,de,(vFa q).symm,dG h z1,Gi h z2,Qt R h q1,fun _ _ _=>R.g (vg h z3) q2,fun _ _ _=>?_,fun _ _ _=>J4 R (vg h z3) q4,Gh z4,Gg z5,h.calm z6⟩;split at q3
 ·cases q3;exact Et
 ·exact Eu (R.t (vg h z3) q3)
 ·cases q3
set_option tactic.hygienic true in
omit R in
theorem Xi(hc:X.calm=true){l:DA}{f:List D->Option D}{np:Pos}{cc:Nat}(q:WK x cc=some f)(g1:Gl X x)(g2:X.mg x=none)(ha:PA X (e::es) (Ji K l))(he:starEach (e::es) X.env=(false,eval e X.env)::starEach es X.env)(hpl:(backTo pos (starEach es X.env)).any (·.1)=false):
  PE X (.Call (.Name x np) (e::es) [] pos) (tE K (jD f l)):=by
 have:=h.k;subst this;unfold WK at q;split at q
 ·rename_i ex;subst ex;cases q;split
  ·exact jj (Js uH g1 g2 PySem.boot_len ha (by decide) (by decide) he hpl) (yU bK)
  split
  ·exact jj (Js KQ g1 g2 PySem.boot_len ha (by decide) (by decide) he hpl) (yU bE)
  ·exact jj (Js uG g1 g2 PySem.boot_len ha (by decide) (by decide) he hpl) (yU Co)
 split at q
 ·rename_i ex;subst ex;cases q;exact jj (YB u5 g1 g2 PyProof.Rows.boot_tuple ha (by decide) (by decide) he hpl) (yU x8)
 split at q
 ·rename_i ex;subst ex;cases q;exact jj (Js (wV hc) g1 g2 PyProof.Rows.boot_all ha (by decide) (by decide) he hpl) (yU Cq)
 split at q
 ·rename_i ex;subst ex;cases q;exact jj (Js (K9 hc) g1 g2 PyProof.Rows.boot_max ha (by decide) (by decide) he hpl) (yU Cp)
 split at q
 ·rename_i ex;subst ex;cases q;exact jj (Js (Wk hc) g1 g2 PyProof.Rows.boot_sum ha (by decide) (by decide) he hpl) (yU CI)
 split at q
 ·rename_i ex;subst ex;cases q;exact jj (Js (Wl hc) g1 g2 PyProof.Rows.boot_any ha (by decide) (by decide) he hpl) (yU CJ)
 ·cases q
set_option tactic.hygienic true in
omit R in
theorem Xj(hc:X.calm=true){l:DA}{b:Bool}{f:List D->Option OD}{np:Pos}(q:WL x b=some f)(g1:Gl X x)(g2:X.mg x=none)(ha:PA X (e::es) (Ji K l))(he:starEach (e::es) X.env=(false,eval e X.env)::starEach es X.env)(hpl:(backTo pos (starEach es X.env)).any (·.1)=false):
  PE X (.Call (.Name x np) (e::es) [] pos) (tF K (zA f l)):=by
 have:=h.k;subst this;unfold WL at q;split at q
 ·rename_i ex;subst ex;cases q;cases b
  ·exact jj (YB uI g1 g2 PyProof.Rows.boot_list ha (by decide) (by decide) he hpl) (V7 aZ)
  ·exact jj (YB (kh hc) g1 g2 PyProof.Rows.boot_list ha (by decide) (by decide) he hpl) (V7 xy)
 split at q
 ·rename_i ex;subst ex;cases q;exact jj (YB kN g1 g2 PyProof.Rows.boot_dict ha (by decide) (by decide) he hpl) (V7 Xc)
 ·cases q
set_option tactic.hygienic true in
omit R h in
theorem Xk(q:WM t=some T):bootBuiltins t=some (.type T)/\t≠ "__name__" /\(t==("__debug__" : Str))=false:=by
 unfold WM at q
 repeat (split at q;· rename_i ex;subst ex;cases q;exact⟨by first | exact PyProof.Rows.boot_list | exact PyProof.Rows.boot_tuple | exact PyProof.Rows.boot_bool | exact PyProof.Rows.boot_str | exact PyProof.Rows.boot_int,by decide,by decide⟩)
 cases q
theorem Xl{n:Dn}{np:Pos}(g1:Gl X "isinstance")(g2:X.mg "isinstance" = none)(q:WO r Γ es=some n):Ze X K (.Call (.Name "isinstance" np) es [] pos) n:=by
 rcases es with _ | ⟨a,_ | ⟨t,_ | ⟨_,_⟩⟩⟩ <;> try (cases q;done)
 cases t with
 | Name t p'=>
  dsimp only[WO]at q;split at q
  ·have zz:=j8 (by assumption:(Γ.xt.ve&&t==("ValueError" : Str))=true);obtain⟨zv,zt⟩:=zz;have et:=vLa zt;subst et;obtain⟨z,q⟩:=j9 q;obtain⟨z3,z4⟩:=j8 z;obtain⟨d,q2,rfl⟩:=j6 q;obtain⟨k1,k2⟩:=Zf h z4;refine C_ (T := "ValueError") (jl R h q2) (Zk (v:=.ty "ValueError") k1 k2 (by kernel_rfl) rfl (by decide) (by decide)) g1 g2 (jh z3) h.k fun c hc=>?_;obtain⟨C',d1,_,d3⟩:=h.xt.e c hc;exact⟨by rw[zh d1];exact d3,h.xt.v zv c hc⟩
  split at q
  ·have hin:=List.contains_iff_mem.mp (by assumption);obtain⟨z,q⟩:=j9 q;obtain⟨z3,z4⟩:=j8 z;obtain⟨d,q2,rfl⟩:=j6 q;obtain⟨k1,k2⟩:=Jz h z4;obtain⟨C,c1,c2,_⟩:=h.xt.e _ hin
   refine CV (jl R h q2) (gq (v:=.ref C) k1 c2 rfl k2) g1 g2 (jh z3) h.k fun c hc=>?_;obtain⟨C',d1,_,d3⟩:=h.xt.e c hc;have e1:=h.xt.k c hc _ hin
   rw[zh c1]at e1;exact⟨by rw[zh d1];exact d3,e1⟩
  ·obtain⟨z,q⟩:=j9 q;obtain⟨z3,z4⟩:=j8 z;obtain⟨T,q1,q⟩:=j0 q;obtain⟨d,q2,rfl⟩:=j6 q;obtain⟨b1,b2,b3⟩:=Xk q1;obtain⟨k1,k2⟩:=Zf h z4;exact CA (Js wX g1 g2 PyProof.Rows.boot_isinstance (jB (jl R h q2) (jB (Zk (v:=.ty T) k1 k2 b1 rfl b2 b3) Jc) (jh z3)) (by decide) (by decide) (jh z3)) h.k
 | Tuple ts k p'=>
  rcases ts with _ | ⟨t,_ | ⟨u,_ | ⟨_,_⟩⟩⟩ <;> try (cases q;done)
  ·obtain⟨x1,y1,q⟩:=j0 q;obtain⟨x2,y2,q⟩:=j0 q;obtain⟨_,rfl⟩:=JO y1;obtain⟨_,rfl⟩:=JO y2;obtain⟨z,q⟩:=j9 q;obtain⟨z,z7⟩:=j8 z;obtain⟨z,z6⟩:=j8 z;obtain⟨z,z5⟩:=j8 z;obtain⟨z3,z4⟩:=j8 z;obtain⟨d,q2,rfl⟩:=j6 q;have e1:=vLa z6;have e2:=vLa z7;subst e1 e2;obtain⟨k1,k2⟩:=Zf h z4;obtain⟨k3,k4⟩:=Zf h z5;exact b6 (xS g1 g2 k1 k2 k3 k4 (jl R h q2) (jh z3)) h.k
 | _=>cases q
theorem WQ{n:Dn}{np:Pos}(q0:Qk r Γ x es pos=some n):Ze X K (.Call (.Name x np) es [] pos) n:=by
 obtain⟨z,q⟩:=j9 q0;clear q0;obtain⟨z1,z2⟩:=j8 z;obtain⟨g1,g3⟩:=Jz h z1;obtain⟨g,hl,q1⟩:=j0 q;clear q;have q:=q1;clear q1;have G:=h.gs _ _ hl;cases es with
 | nil=>cases z2
 | cons e es=>
 by_cases ex:x = "isinstance"
 ·rw[if_pos ex]at q;subst ex;cases g <;> try (cases q;done)
  exact Xl R h g1 G q
 ·rw[if_neg ex]at q;obtain⟨hc,q⟩:=j9 q;have s1:(∀z∈e::es,J1 z=true)->starEach (e::es) X.env=(false,eval e X.env)::starEach es X.env:=fun a3=>jh (a3 _ wNa);have s2:(∀z∈e::es,J1 z=true)->(backTo pos (starEach es X.env)).any (·.1)=false:=fun a3=>jZ fun z hz=>a3 z (wMa _ hz);cases g with
  | con i=>cases q
  | fH k ps ks F=>cases q
  | mH k ps ks C F=>cases q
  | fE k ps ks F=>
   obtain⟨l,q1,rfl⟩:=j6 q;obtain⟨a1,a2,a3,_⟩:=Jf R h q1;exact uY G.1 (G.2 hc) a1 a2 g1 g3 (s1 a3) (s2 a3)
  | fF k ps ks F=>
   obtain⟨l,q1,rfl⟩:=j6 q;obtain⟨a1,a2,a3,_⟩:=Jf R h q1;exact A6 G.1 (G.2 hc) a1 a2 g1 g3 (s1 a3) (s2 a3)
  | fX k ps ks F=>
   obtain⟨l,q1,rfl⟩:=j6 q;obtain⟨a1,a2,a3,_⟩:=Jf R h q1;obtain⟨⟨f,fd,G,hb,hk,hm⟩,hr⟩:=G;exact uY ⟨f,fd,DH G,hb,hk,hm⟩ (hr hc) a1 a2 g1 g3 (s1 a3) (s2 a3)
  | mk k ps ks F G'=>
   obtain⟨l,q1,rfl⟩:=j6 q;obtain⟨a1,a2,a3,_⟩:=Jf R h q1;exact A7 G.1 G.2.1 (G.2.2 hc) a1 a2 g1 g3 (s1 a3) (s2 a3)
  | blt=>
   obtain⟨l,q1,q⟩:=j0 q;obtain⟨a1,a2,a3,_⟩:=Jf R h q1;split at q
   ·cases q;exact Xi h (h.calm hc) (by assumption) g1 G a1 (s1 a3) (s2 a3)
   ·obtain⟨f,q2,rfl⟩:=j6 q;exact Xj h (h.calm hc) q2 g1 G a1 (s1 a3) (s2 a3)
omit R h in
theorem Yw:∀{l:DA} {es:List Expr},l.map (·.1)=(es.map fun _=>true)->(l.map (·.1)).all id=true:=fun {l es} q=>by
 rw[q];simp
omit R h in
theorem Xm(hl:(ap.endLine==cp.line)=true):eval (.Call (.Attribute (.Name x p) m ap) [] [] cp) env=(do
   let ov<-eval (.Name x p) env
   standAt ap.atName
   let (f,first)<-holding [ov] (getMethod ov m (do return (<-importBound (.Name x p) env).getD true))
   callWith cp f first (backTo cp (starEach [] env)) (backToKw cp (keywordEach [] env))):=by
 have e:methodCallPos true (.Name x p) env ap cp=pure cp:=by unfold methodCallPos;rw[hl];rfl
 have f:methodCallForm 0 (backTo cp (starEach [] env)) (backToKw cp (keywordEach [] env))=true:=rfl;show(do
  let ov<-eval (.Name x p) env
  standAt ap.atName
  methodCall (.Name x p) m ap cp env ov 0 (backTo cp (starEach [] env)) (backToKw cp (keywordEach [] env)))=_
 unfold methodCall;rw[f,e];rfl
omit R h in
theorem Bq{c:Const}{k:Nat}{n:Dn}(q:B8 c=some n):Ze X K (.Constant c k pos) n:=by
 unfold B8 at q;split at q <;> cases q
 ·exact cR
 ·exact E6
 ·exact cU
 ·exact cX
theorem Br{op:UnaryOp}{n:Dn}(q:B9 r Γ op a=some n):Ze X K (.UnaryOp op a pos) n:=by
 unfold B9 at q;split at q
 ·obtain⟨d,q1,rfl⟩:=j6 q;exact Cg (jl R h q1)
 ·obtain⟨d,q1,rfl⟩:=j6 q;exact Cf (jl R h q1)
 ·cases q
theorem Bs{op:Operator}{n:Dn}(q:DV r Γ a op b pos=some n):Ze X K (.BinOp a op b pos) n:=by
 obtain⟨d,q1,q⟩:=j0 q;obtain⟨d',q2,q⟩:=j0 q;split at q
 ·split at q
  ·cases q;exact E8 aF C7 (jl R h q1) (jl R h q2)
  ·cases q
 ·obtain⟨f,q3,rfl⟩:=j6 q;obtain⟨t,o1,o2⟩:=Bm h q3;exact E7 o1 o2 (jl R h q1) (jl R h q2)
theorem Bt(hc:Γ.cm=true){os:List CmpOp}{bs:List Expr}{d:DE}(q:DW r Γ a os bs pos=some d):PE X (.Compare a os bs pos) (tE K d):=by
 rcases os with _ | ⟨o,_ | ⟨o',_ | ⟨o'',_ | ⟨_,_⟩⟩⟩⟩ <;> rcases bs with _ | ⟨b,_ | ⟨c,_ | ⟨e,_ | ⟨_,_⟩⟩⟩⟩ <;> try (cases q;done)
 ·obtain⟨z,q⟩:=j9 q;obtain⟨d,q1,q⟩:=j0 q;obtain⟨d',q2,q⟩:=j0 q;obtain⟨f,q3,rfl⟩:=j6 q;obtain⟨t,o1,o2⟩:=w5 h hc q3;exact cY o1 o2 (jl R h q1) (jl R h q2) (yN z)
 ·obtain⟨z,q⟩:=j9 q;obtain⟨d,q1,q⟩:=j0 q;obtain⟨d',q2,q⟩:=j0 q;obtain⟨d'',q3,q⟩:=j0 q;obtain⟨f,p1,q⟩:=j0 q;obtain⟨f',p2,rfl⟩:=j6 q;obtain⟨t,o1,o2⟩:=Zz h hc p1;obtain⟨t',o1',o2'⟩:=Zz h hc p2;exact QZ o1 o1' o2 o2' (jl R h q1) (jl R h q2) (jl R h q3) (yN z)
 ·obtain⟨z,q⟩:=j9 q;obtain⟨d,q1,q⟩:=j0 q;obtain⟨d',q2,q⟩:=j0 q;obtain⟨d'',q3,q⟩:=j0 q;obtain⟨d3,q4,q⟩:=j0 q;obtain⟨f,p1,q⟩:=j0 q;obtain⟨f',p2,q⟩:=j0 q;obtain⟨f'',p3,rfl⟩:=j6 q;obtain⟨t,o1,o2⟩:=Zg h hc p1;obtain⟨t',o1',o2'⟩:=Zg h hc p2;obtain⟨t'',o1'',o2''⟩:=Zg h hc p3;exact W0 o1 o1' o1'' o2 o2' o2'' (jl R h q1) (jl R h q2) (jl R h q3) (jl R h q4) (yN z)
theorem Bu(hc:Γ.cm=true){n:Dn}(q:DY r Γ a b pos=some n):Ze X K (.Subscript a b pos) n:=by
 have hK:=h.k;have fb:∀{b},cG (Vk b) ((cV r Γ dV a).bind fun d=>(cV r Γ dV b).map fun d'=>.E (d2 (Ba Γ pos) d d'))=some n->Ze X K (.Subscript a b pos) n:=fun q=>by
  obtain⟨z,q⟩:=j9 q;obtain⟨d,q1,q⟩:=j0 q;obtain⟨d',q2,rfl⟩:=j6 q;subst hK;unfold Ba;split
  ·exact GO Kc dB (jl R h q1) (jl R h q2) (yv z)
  split
  ·exact GO dh bB (jl R h q1) (jl R h q2) (yv z)
  split
  ·exact GO (Ar (h.room hc)) CF (jl R h q1) (jl R h q2) (yv z)
  ·exact GO Ke aR (jl R h q1) (jl R h q2) (yv z)
 cases b with
 | Slice lo hi st p=>
  cases st with
  | none=>
   obtain⟨d,q1,q⟩:=j0 q;obtain⟨u,q2,q⟩:=j0 q;obtain⟨v,q3,rfl⟩:=j6 q;split
   ·exact bL (jl R h q1) (Yh R h q2) (Yh R h q3) hK
   ·exact Cn (jl R h q1) (Yh R h q2) (Yh R h q3) hK
   ·exact Cm (jl R h q1) (Yh R h q2) (Yh R h q3) hK
  | some _=>cases q
 | _=>exact fb q
theorem wc{elt:Expr}{gs:List Comprehension}{scope:Scope}{d:DO}(q:Qm r Γ elt gs scope pos=some d):
  ∃tg iter ifs own caps di g dc de,gs=[⟨tg,iter,ifs,0⟩]/\d=zN own.length (caps.map (·.2)) di g dc de/\LcP X K elt tg iter ifs scope own caps di g dc de:=by
 unfold Qm at q;split at q
 ·obtain⟨z,q⟩:=j9 q;have z0:=vLa z;subst z0;obtain⟨own,caps,di,g,dc,de,rfl,L⟩:=Bp R h q;exact⟨_,_,_,own,caps,di,g,dc,de,rfl,rfl,L⟩
 ·cases q
set_option tactic.hygienic true in
theorem Bv{m:Str}{ap:Pos}{n:Dn}(q:Bb r Γ a m ap es pos=some n):Ze X K (.Call (.Attribute a m ap) es [] pos) n:=by
 unfold Bb at q;rcases es with _ | ⟨b,_ | ⟨_,_⟩⟩ <;> try (cases q;done)
 rotate_left
 ·obtain⟨z,q⟩:=j9 q;obtain⟨z,z3⟩:=j8 z;obtain⟨z1,z2⟩:=j8 z;obtain⟨d,q1,q8⟩:=j0 q;obtain⟨d',q2,q9⟩:=j0 q8;clear q q8;split at q9
  ·rename_i em;subst em;cases q9;exact Xh (jl R h q1) (jl R h q2) (JC z3) z1 (fun _=>jh z2) h.k
  split at q9
  ·rename_i em;subst em;cases q9;exact bJ (jl R h q1) (jl R h q2) (JC z3) z1 (fun _=>jh z2) h.k
  ·cases q9
 ·cases a with
  | Name x np=>
   obtain⟨z,q⟩:=j9 q;obtain⟨z,hc⟩:=j8 z;obtain⟨d,q1,q⟩:=j0 q;split at q
   ·rename_i hl;cases q;obtain⟨M,hr⟩:=h.ms _ _ hl;exact xa (jl R h q1) h.cl M (hr hc) (Xm z) h.k
   ·cases q
  | _=>cases q
set_option tactic.hygienic true in
theorem dH{n:Dn}(q:cN r Γ e=some n):Ze X K e n:=by
 have hK:=h.k;unfold cN at q;cases e with
 | Name x p=>
  obtain⟨z,q⟩:=j9 q;obtain⟨g1,g2⟩:=Jz h z;split at q
  ·rename_i hl;cases q;exact aL (fM (h.gs _ _ hl) g1 g2)
  ·cases q
 | Constant c k p=>
  exact Bq q
 | UnaryOp op a p=>
  exact Br R h q
 | BinOp a op b p=>
  exact Bs R h q
 | Compare a os bs p=>
  obtain⟨hc,q⟩:=j9 q;obtain⟨d,q1,rfl⟩:=j6 q;exact Bt R h hc q1
 | BoolOp op vs p=>
  dsimp only at q;cases op
  ·obtain⟨d,q1,rfl⟩:=j6 q;exact w8 R h q1
  ·obtain⟨d,q1,rfl⟩:=j6 q;exact Qr R h q1
 | IfExp c a b p=>
  obtain⟨t,q1,q⟩:=j0 q;obtain⟨d,q2,q⟩:=j0 q;obtain⟨d',q3,rfl⟩:=j6 q;exact Ch (R.t h q1) (J4 R h q2) (J4 R h q3)
 | Tuple es k p=>
  obtain⟨z,q⟩:=j9 q;obtain⟨l,q1,rfl⟩:=j6 q;obtain⟨a1,a2,_,a4⟩:=Jf R h q1;exact Cj a1 (Yw a2) (by rw[a4];rw[Nat.ble_eq]at z⊢;exact wSa z (by decide))
 | List es p=>
  obtain⟨z,q⟩:=j9 q;obtain⟨l,q1,rfl⟩:=j6 q;obtain⟨a1,a2,_,a4⟩:=Jf R h q1;exact Cl a1 (Yw a2) (by rw[a4];rw[Nat.ble_eq]at z⊢;exact wSa z (by decide))
 | Dict ks vs p=>
  cases ks <;> cases vs <;> try (cases q;done)
  dsimp only at q;split at q
  ·cases q;exact bD
  split at q
  ·cases q;exact bT
  ·cases q;exact Av
 | Attribute a f p=>
  dsimp only at q;split at q
  ·obtain⟨z1,q⟩:=j9 q;obtain⟨d,q1,rfl⟩:=j6 q;exact qH (jl R h q1) h.cl (h.fl _ (by assumption)) (JC z1) hK
  split at q
  ·obtain⟨z1,q⟩:=j9 q;obtain⟨d,q1,rfl⟩:=j6 q;exact qH (jl R h q1) h.hcl (h.hfl _ (.inl (by assumption))) (JC z1) hK
  ·obtain⟨z1,q⟩:=j9 q;obtain⟨d,q1,rfl⟩:=j6 q;exact CW (jl R h q1) (JC z1) hK h.xt.f
 | Subscript a b p=>
  obtain⟨hc,q⟩:=j9 q;exact Bu R h hc q
 | ListComp elt gs sc p=>
  obtain⟨d,q1,rfl⟩:=j6 q;obtain⟨_,_,_,own,caps,di,g,dc,de,rfl,rfl,L⟩:=wc R h q1;exact Ev own caps L.S L.cp L.cm L.i L.g L.t L.e L.nd L.fs
 | Call f es ks p=>
  dsimp only at q;unfold DZ at q;cases ks with
  | cons _ _=>cases q
  | nil=>
   cases f with
   | Name x p=>
    dsimp only at q;split at q
    ·rename_i fs hx;obtain⟨z,q⟩:=j9 q;obtain⟨z,z3⟩:=j8 z;obtain⟨z1,z2⟩:=j8 z;obtain⟨l,q1,rfl⟩:=j6 q;obtain⟨g1,g2⟩:=Jz h z1;cases es with
     | nil=>cases z2
     | cons e0 es=>
      obtain⟨a1,a2,a3,_⟩:=Jf R h q1;obtain⟨C,fi,fd,ps,k,c1,c2,c3,c4,c5,c6,c7,c8,c9⟩:=h.xq x fs hx;refine CZ (c:=x) ?_;rw[zh (by rw[<-hK];exact c1)];exact b7 c1 c2 PySem.F.excBase_ValueError c3 c4 c5 c6 c7 c8 (c9 z3) g1 g2 a1 (jh (a3 _ wNa)) (jZ fun y hy=>a3 y (wMa _ hy))
    ·exact WQ R h q
   | Attribute a m p=>exact Bv R h q
   | _=>cases q
 | _=>
  cases q
set_option tactic.hygienic true in
omit R h in
theorem dI(z:KY e=true):∀whole,isTrue e env whole=(do let v<-whole;standAt e.pos;holding [v] (truthy v)):=by
 cases e <;> first | (intro _;rfl) | cases z | skip
 rename_i op _ _;cases op <;> first | (intro _;rfl) | cases z
theorem Bw(hc:Γ.cm=true){os:List CmpOp}{bs:List Expr}{t:DT}(q:D_ r Γ a os bs pos=some t):PT X (.Compare a os bs pos) (tT K t):=by
 rcases os with _ | ⟨o,_ | ⟨o',_ | ⟨_,_⟩⟩⟩ <;> rcases bs with _ | ⟨b,_ | ⟨c,_ | ⟨_,_⟩⟩⟩ <;> try (cases q;done)
 ·obtain⟨z,q⟩:=j9 q;obtain⟨d,q1,q⟩:=j0 q;obtain⟨d',q2,q⟩:=j0 q;obtain⟨f,q3,rfl⟩:=j6 q;obtain⟨t,o1,o2⟩:=w5 h hc q3;exact C9 o1 o2 (jl R h q1) (jl R h q2) (yN z)
 ·obtain⟨z,q⟩:=j9 q;obtain⟨d,q1,q⟩:=j0 q;obtain⟨d',q2,q⟩:=j0 q;obtain⟨d'',q3,q⟩:=j0 q;obtain⟨f,p1,q⟩:=j0 q;obtain⟨f',p2,rfl⟩:=j6 q;obtain⟨t,o1,o2⟩:=Zz h hc p1;obtain⟨t',o1',o2'⟩:=Zz h hc p2;exact Q_ o1 o1' o2 o2' (jl R h q1) (jl R h q2) (jl R h q3) (yN z)
theorem dJ{t:DT}(q:cT r Γ e=some t):PT X e (tT K t):=by
 have fb:∀{e},cG (KY e) ((cV r Γ dV e).map y_)=some t->PT X e (tT K t):=fun q=>by
  obtain⟨z,q⟩:=j9 q;obtain⟨d,q1,rfl⟩:=j6 q;exact qz (jl R h q1) h.k (dI z)
 cases e with
 | Compare a os bs p=>
  obtain⟨hc,q⟩:=j9 q;exact Bw R h hc q
 | UnaryOp op a p=>
  cases op with
  | Not=>
   obtain⟨t,q1,rfl⟩:=j6 q;exact Ca (R.t h q1)
  | _=>exact fb q
 | BoolOp op vs p=>
  cases op with
  | And=>exact aW (wa R h q)
  | Or=>exact aW (Qs R h q)
 | Attribute a f p=>
  have q:(if Γ.hls.contains f then _ else _)=some t:=q;split at q
  ·obtain⟨z1,q⟩:=j9 q;obtain⟨d,q1,rfl⟩:=j6 q;exact qz (bn (jl R h q1) h.hcl (h.hfl _ (.inr (by assumption))) (JC z1) h.k) h.k fun _=>rfl
  ·exact fb q
 | _=>exact fb q
omit R h in
theorem UK(z:J1 e=true):(assignEach (e::es) env)=(false,assign e env)::assignEach es env:=by
 cases e <;> first | rfl | cases z
theorem wd{k:Nat}:∀{es:List Expr} {gs:Kt},Qn r Γ k es=some gs->zU X es (Ku K k gs)/\(assignEach es X.env).length=es.length/\(assignEach es X.env).findIdx? (·.1)=none
 | [],_,q=>by cases q;exact⟨Cv,rfl,rfl⟩
 | e::es,gs,q=>by
  unfold Qn at q;obtain⟨z,q⟩:=j9 q;obtain⟨g,q1,q⟩:=j0 q;obtain⟨gs',q2,rfl⟩:=j6 q;obtain⟨a1,a2,a3⟩:=wd q2;refine⟨A5 (R.g h q1) a1 (by rw[UK z];rfl),by rw[UK z];simp[a2],?_⟩;rw[UK z,List.findIdx?_cons,a3];rfl
theorem Bx{k:Nat}{g:DG}(q:Bc r Γ k e=some g):PG X e (tG K k g):=by
 unfold Bc at q;cases e with
 | Name x p=>
  obtain⟨i,q1,q⟩:=j0 q;obtain⟨z,q⟩:=j9 q;cases q;obtain⟨s1,s2,s3,s4⟩:=Yv h q1;exact A4 (QE s1 s2 s3 s4) (Nat.blt_eq.mp z)
 | Tuple es k p=>
  obtain⟨hc,q⟩:=j9 q;obtain⟨gs,q1,rfl⟩:=j6 q;obtain⟨a1,a2,a3⟩:=wd R h q1;exact Cw _ (h.calm hc) a1 a2 a3 h.k
 | _=>
  cases q
end
theorem vU:∀n:Nat,RcOk (rc n)
 | 0=>⟨(fun _ q=>by cases q),(fun _ q=>by cases q),(fun _ q=>by cases q)⟩
 | n+1=>⟨fun h q=>by
   have q:(if _ then _ else _)=_:=q;split at q
   ·cases q;exact jj (t:=fun _ _ _=>False) (fun _ _ _ _ _ _ z=>z.elim) fun U H Q ⟨_,_,_,_,_,_,z,_⟩=>by cases z
   ·exact dH (vU n) h q,fun h q=>by
   have q:(if _ then _ else _)=_:=q;split at q
   ·cases q;exact vA (t:=fun _ _ _=>False) (fun _ _ _ _ _ _ z=>z.elim) fun U H Q ⟨_,_,_,_,_,_,z,_⟩=>by cases z
   ·exact dJ (vU n) h q,fun h q=>Bx (vU n) h q⟩
section
variable {r:Rc} {Γ:Gm} {X:Cx} {K:Fr} {x y:Str} {i:Nat} {e a b c tg:Expr} {es:List Expr} {pos:Pos} {d:DE}
theorem Qu(h:OkX K Γ X)(z:ef Γ scope x np p=true):swapsWith (.ListComp elt [⟨tg,iter,ifs,aa⟩] scope p) (some (.Name x np)) l X.env=pure true:=by
 obtain⟨z,z4⟩:=j8 z;obtain⟨z,z3⟩:=j8 z;obtain⟨z1,z2⟩:=j8 z;have k1:Γ.sc.kind=.function:=by
  split at z1
  ·assumption
  ·cases z1
 have e1:X.env.blockKind=.function:=by
  unfold Env.blockKind;rw[h.sc,k1];rfl
 have e2:X.env.kindOf x=some .local:=by
  show X.env.scope.names.lookup x=_;rw[h.sc];exact UH z2
 show(pure (X.env.blockKind==.function&&X.env.kindOf x==some .local&&np.line==p.line&&!(scope.names.any fun(n,k)=>n==x&&(k==.local||k==.cell))):Sem Bool)=pure true;rw[e1,e2,z3,z4];rfl
theorem UL(z:Vk j=true):∀v,assign (.Subscript o j pos) env v=(do
   let ov<-holding [v] (eval o env)
   let iv<-holding [v,ov] (eval j env)
   standAt pos
   holding [v,ov,iv] (setItem ov iv v)
   release [v,ov,iv] []):=by
 cases j <;> first | (intro _;rfl) | cases z
theorem zn(h:y9 e=true):swapsWithSole [tg] e l env=pure false:=by
 unfold swapsWithSole;exact J5 h
theorem vV:swappedStores [.Subscript o j p] e env=pure none:=by
 cases e <;> rfl
theorem we(z:(!Yc e)=true):swappedStores [.Tuple es n p] e env=pure none:=by
 cases e <;> first | rfl | cases z
variable (R:RcOk r) (h:OkX K Γ X)
include R h
set_option tactic.hygienic true in
theorem ul{d:DO}(q:cF r Γ e=some d):PE X e (tF K d):=by
 unfold cF at q;split at q
 ·rename_i hn;cases q;exact R.n h hn
 ·cases q
theorem Bz{np:Pos}{d:DS.DS}(q0:eg r Γ x np e=some d):PS X (.Assign [.Name x np] e pos) (tS K Px d):=by
 obtain⟨i,s0,q0⟩:=j0 q0;obtain⟨s1,s2,s3,s4⟩:=Yv h s0;have fb:∀{e},cG (y9 e) (if Γ.ow.contains i then(cF r Γ e).map (ZX i)else(cV r Γ dC e).map (yd i))=some d->PS X (.Assign [.Name x np] e pos) (tS K Px d):=fun q0=>by
  obtain⟨z,q0⟩:=j9 q0;split at q0
  ·obtain⟨d0,q1,rfl⟩:=j6 q0;exact qN (zb s1 s2 s3 (ul R h q1) (J5 z) s4)
  ·obtain⟨d0,q1,rfl⟩:=j6 q0;exact qM (zb s1 s2 s3 (J4 R h q1) (J5 z) s4)
 cases e with
 | ListComp elt gs scope p=>
  obtain⟨d0,q1,q0⟩:=j0 q0;obtain⟨z2,q0⟩:=j9 q0;cases q0;obtain⟨_,_,_,own,caps,di,g,dc,de,rfl,rfl,L⟩:=wc R h q1;split
  ·exact xh own caps s1 s2 s3 L.S L.cp L.cm L.i L.g L.t L.e L.nd L.fs (Qu h z2) s4
  ·exact xi own caps s1 s2 s3 L.S L.cp L.cm L.i L.g L.t L.e L.nd L.fs (Qu h z2) s4
 | _=>exact fb q0
theorem BA{t:Expr}{d:DS.DS}(q0:Be r Γ t e=some d):PS X (.Assign [t] e pos) (tS K Px d):=by
 unfold Be at q0;cases t with
 | Name x p=>
  exact Bz R h q0
 | Attribute o f p=>
  obtain⟨i,s9,q9⟩:=j0 q0;clear q0;obtain⟨x,p,rfl,s0⟩:=JP s9;clear s9;split at q9
  ·obtain⟨z,q0⟩:=j9 q9;obtain⟨d0,q1,rfl⟩:=j6 q0;exact bg (uA (jR h s0) (J4 R h q1) (J5 z)) h.hcl (h.hfl _ (.inl (by assumption))) h.k
  split at q9
  ·obtain⟨z,q0⟩:=j9 q9;obtain⟨d0,q1,rfl⟩:=j6 q0;exact bi (uA (jR h s0) (ul R h q1) (J5 z)) h.hcl (h.hfl _ (.inr (by assumption))) h.k
  obtain⟨z,q0⟩:=j9 q9;obtain⟨z1,z2⟩:=j8 z;obtain⟨d0,q1,rfl⟩:=j6 q0;exact Aq (uA (jR h s0) (J4 R h q1) (J5 z1)) h.cl (h.fl _ z2) h.k
 | Subscript o j p=>
  obtain⟨i,s9,q9⟩:=j0 q0;clear q0;obtain⟨x,p,rfl,s0⟩:=JP s9;obtain⟨z,q0⟩:=j9 q9;obtain⟨z,hc⟩:=j8 z;obtain⟨z1,z2⟩:=j8 z;have hK:=h.k;subst hK;split at q0
  ·obtain⟨dx,q1,q0⟩:=j0 q0;obtain⟨d0,q2,rfl⟩:=j6 q0;exact bC (za (J4 R h q2) (vq (jR h s0) (J4 R h q1) bx (UL z2)) (zn z1) vV)
  split at q0
  ·obtain⟨dx,q1,q0⟩:=j0 q0;obtain⟨d0,q2,rfl⟩:=j6 q0;exact CG (za (J4 R h q2) (vq (jR h s0) (J4 R h q1) (xo (h.room hc)) (UL z2)) (zn z1) vV)
  ·obtain⟨dx,q1,q0⟩:=j0 q0;obtain⟨d0,q2,rfl⟩:=j6 q0;exact Ad (za (J4 R h q2) (vq (jR h s0) (jl R h q1) wN (UL z2)) (zn z1) vV)
 | Tuple es k p=>
  obtain⟨z,q0⟩:=j9 q0;obtain⟨z1,z2⟩:=j8 z;obtain⟨d0,q1,q0⟩:=j0 q0;obtain⟨g,q2,rfl⟩:=j6 q0;exact Cy (za (J4 R h q1) (R.g h q2) (zn z1) (we z2))
 | _=>
  cases q0
theorem BB{t:Expr}{op:Operator}{d:DS.DS}(q0:Bf r Γ t op e=some d):PS X (.AugAssign t op e pos) (tS K Px d):=by
 unfold Bf at q0;cases t with
 | Name x p=>
  obtain⟨i,s0,q8⟩:=j0 q0;clear q0;obtain⟨s1,s2,s3,s4⟩:=Yv h s0;split at q8
  ·cases op <;> try (cases q8;done)
   obtain⟨d0,q1,rfl⟩:=j6 q8;exact d4 (uu s1 s2 s3 (ul R h q1) ba s4)
  obtain⟨d0,q1,q0⟩:=j0 q8;clear q8;split at q0
  ·cases q0;exact qO (uu s1 s2 s3 (jl R h q1) XQ s4)
  ·cases q0;exact qO (uu s1 s2 s3 (jl R h q1) XR s4)
  ·cases q0
 | _=>
  cases q0
theorem Xn{f:Expr}{es:List Expr}{ks:List Keyword}{p:Pos}{d:DS.DS}(q0:Bg r Γ f es ks p=some d):PS X (.Expr (.Call f es ks p) pos) (tS K Px d):=by
 cases f <;> try (cases q0;done)
 cases value <;> try (cases q0;done)
 rcases es with _ | ⟨e,_ | ⟨_,_⟩⟩ <;> try (cases q0;done)
 cases ks <;> try (cases q0;done)
 obtain⟨i,s9,q9⟩:=j0 q0;obtain⟨x,np,rfl,s0⟩:=JP s9;obtain⟨z,q8⟩:=j9 q9;obtain⟨z,z4⟩:=j8 z;obtain⟨z,z3⟩:=j8 z;obtain⟨z1,z2⟩:=j8 z;obtain⟨d0,q1,rfl⟩:=j6 q8;have e1:=vLa z1;have hK:=h.k;subst e1 hK;exact bj (yA (aJ (uz (jR h s0) rfl) (jB (J4 R h q1) Jc (jh z2)) rfl (by rw[jh z2];rfl) z3 (jh z2)) (J5 rfl)) h.hcl (h.hfl _ (.inr z4))
theorem BC{f:Expr}{es:List Expr}{ks:List Keyword}{p:Pos}{d:DS.DS}(q0:eh r Γ f es ks p=some d):PS X (.Expr (.Call f es ks p) pos) (tS K Px d):=by
 cases f <;> try (cases q0;done)
 rcases es with _ | ⟨e,_ | ⟨e2,_ | ⟨_,_⟩⟩⟩ <;> rcases ks with _ | ⟨_,_⟩ <;> try (cases q0;done)
 ·obtain⟨i,s9,q9⟩:=j0 q0;clear q0;obtain⟨x,np,rfl,s0⟩:=JP s9;obtain⟨z,q0⟩:=j9 q9;obtain⟨z,z3⟩:=j8 z;obtain⟨z1,z2⟩:=j8 z;obtain⟨d0,q1,rfl⟩:=j6 q0;have e1:=vLa z1;have hK:=h.k;subst e1 hK;exact Wb (yA (aJ (jR h s0) (jB (J4 R h q1) Jc (jh z2)) rfl (by rw[jh z2];rfl) z3 (jh z2)))
 ·obtain⟨i,s9,q9⟩:=j0 q0;clear q0;obtain⟨x,np,rfl,s0⟩:=JP s9;obtain⟨z,q0⟩:=j9 q9;obtain⟨z,z4⟩:=j8 z;obtain⟨z,z3⟩:=j8 z;obtain⟨z1,z2⟩:=j8 z;obtain⟨d0,q1,q0⟩:=j0 q0;obtain⟨d1,q2,rfl⟩:=j6 q0;have e1:=vLa z1;have hK:=h.k;subst e1 hK;exact Wo (yA (CL (jR h s0) (jB (jl R h q1) (jB (J4 R h q2) Jc (jh z3)) (by rw[jh z2])) (by rw[jh z2,jh z3];rfl) z4 (jh z2) (by rw[jh z3];rfl)))
end
section
variable {P:Program} {w:World} {K K':Fr} {mg:Str->Option Value} {base:Heap} {C:Addr} {g:GI} {x:Str}
theorem UG.mono{r r':Nat->Prop}(m:∀k,r k->r' k)(h:UG P w K' mg base C r K x g):UG P w K' mg base C r' K x g:=by
 cases g with
 | con i=>exact h
 | blt=>exact h
 | fE k ps ks F=>exact⟨h.1,m _ h.2⟩
 | fF k ps ks F=>exact⟨h.1,m _ h.2⟩
 | mk k ps ks F G=>exact⟨h.1,h.2.1,m _ h.2.2⟩
 | fX k ps ks F=>exact⟨h.1,m _ h.2⟩
 | fH k ps ks F=>exact h
 | mH k ps ks C F=>exact h
theorem Gf.mono{r r':Nat->Prop}(m:∀k,r k->r' k)(h:Gf P w K' mg base C r K x g):Gf P w K' mg base C r' K x g:=by
 cases g with
 | con i=>exact h
 | blt=>exact h
 | fE k ps ks F=>exact⟨h.1,m _ h.2⟩
 | fF k ps ks F=>exact⟨h.1,m _ h.2⟩
 | mk k ps ks F G=>exact h
 | fX k ps ks F=>exact h
 | fH k ps ks F=>exact h
 | mH k ps ks C F=>exact h
theorem J2.mono{r r':Nat->Prop}(m:∀k,r k->r' k)(h:J2 P w K' mg base C r K x g):J2 P w K' mg base C r' K x g:=by
 cases g with
 | fX k ps ks F=>exact⟨h.1,m _ h.2⟩
 | fH k ps ks F=>exact⟨h.1,m _ h.2⟩
 | mH k ps ks C F=>exact⟨h.1,m _ h.2⟩
 | _=>exact h
end
structure XmOk (K:Fr) (Γ:Gm) (X:Cx) (E:XK):Prop where
 ps:JM (J3 X.prog X.w) X E
 rz:∀x∈Γ.xt.xp,yz Γ x=true->∀(np cpos pos cp:Pos) (z:Str) (j:Nat),PS X (.Raise (some (.Call (.Name x np) [.Constant (.str z) j cp] [] cpos)) none pos) (fun _ _ H=>E (.ref (ji K x)) none H)
 rf:∀x fs,Γ.xt.xq.lookup x=some fs->yz Γ x=true->∀(np cpos pos:Pos) (a:Expr) (es:List Expr) (l:DA),PA X (a::es) (Ji K l)->(∀e∈a::es,J1 e=true)->
  PS X (.Raise (some (.Call (.Name x np) (a::es) [] cpos)) none pos) (fun _ U H=>Ji K l U H fun vs H1=>vs.length=fs.length/\∀dx,H1 dx=none->E (.ref (ji K x)) (some dx) (upd H1 dx (xW dx (fs.zip vs).reverse)))
structure OkS (K:Fr) (Γ:Gm) (X:Cx) (Px:Xp->Hp->Prop):Prop where
 x:OkX K Γ X
 hp:PassesOwn (model X.prog X.w) X.A X.env X.xe
 st:X.stack=X.env::X.outer
 fr:X.env.frame=some X.env.locals
 xm:Γ.xm=true->∃E,Px=PX K E/\XmOk K Γ X E
section
variable {r:Rc} {q:Gm->List Stmt->Option DS.DS} {Γ:Gm} {X:Cx} {K:Fr} {Px:Xp->Hp->Prop}
theorem OkX.nox(h:OkX K Γ X):OkX K Γ X.nox:=⟨h.xt,h.n,h.sc,h.nd,h.calm,h.k,h.room,h.fn,h.gs,h.ms,h.cl,h.fl,h.hcl,h.hfl,h.hm,h.xq⟩
theorem OkS.nox(h:OkS K Γ X Px):OkS K Γ.nox X.nox Px:=⟨⟨h.x.xt,h.x.n,h.x.sc,h.x.nd,h.x.calm,h.x.k,h.x.room,h.x.fn,h.x.gs,h.x.ms,h.x.cl,h.x.fl,h.x.hcl,h.x.hfl,h.x.hm,h.x.xq⟩,PassesOwn.never,h.st,h.fr,fun z=>nomatch z⟩
theorem OkS.sui(h:OkS K Γ X Px){e:Addr}:OkS K Γ.sui (X.sui e) Px:=⟨⟨h.x.xt,h.x.n,h.x.sc,h.x.nd,(fun z=>nomatch z),h.x.k,(fun z=>nomatch z),h.x.fn,(fun x g e=>(h.x.gs x g e).mono fun _ _ z=>nomatch z),(fun x g e=>(h.x.ms x g e).mono fun _ _ z=>nomatch z),h.x.cl,h.x.fl,h.x.hcl,h.x.hfl,(fun x g e=>(h.x.hm x g e).mono fun _ _ z=>nomatch z),fun x fs e=>(h.x.xq x fs e).mono fun _ _ z=>nomatch z⟩,PassesOwn.never,h.st,h.fr,fun z=>nomatch z⟩
variable (R:RcOk r) (h:OkS K Γ X Px)
include R h
omit h in
theorem Vn{X:Cx}(h:OkX K Γ X){e:Expr}{dx:DX}(q0:ZK r Γ e=some dx):∃x np ea es p k ps ks F l,e=.Call (.Name x np) (ea::es) [] p/\dx=vR F l/\(∃f fd,FnOk X.prog X.w X.K X.mg X.base (J3 X.prog X.w) k f fd ps (Zb K ks F)/\jY X.K fd ps []/\PySem.W.keepIn X.K (.ref f)=true/\X.mg x=some (.ref f))/\Room k X.A/\cA r Γ ks (ea::es)=some l/\Gl X x/\(x==("__debug__" : Str))=false:=by
 cases e with
 | Call f es ks p=>
  cases f with
  | Name x np=>
   cases ks with
   | cons _ _=>cases q0
   | nil=>
    obtain⟨z,q1⟩:=j9 q0;clear q0;obtain⟨z,hc⟩:=j8 z;obtain⟨z1,z2⟩:=j8 z;obtain⟨g1,g2⟩:=Jz h z1;cases es with
    | nil=>cases z2
    | cons ea es=>
    split at q1
    ·have G:=h.gs _ _ (by assumption);obtain⟨l,a1,rfl⟩:=j6 q1;exact⟨x,np,ea,es,p,_,_,_,_,l,rfl,rfl,G.1,G.2 hc,a1,g1,g2⟩
    ·cases q1
  | _=>cases q0
 | _=>cases q0
omit R h in
theorem UM{α:Type}{x:List Str}{g:α}:∀{l:List (List Str×α)},l.lookup x=some g->(x,g)∈l
 | [],h=>by cases h
 | (y,g')::r,h=>by
  rw[List.lookup_cons]at h;cases e:x==y
  ·rw[e]at h;exact wMa _ (UM h)
  ·rw[e]at h;cases h;rw[eq_of_beq e];exact wNa
theorem wf{E:XK}(M:XmOk K Γ X E){e:Expr}{dx:DX}(q0:ZK r Γ e=some dx):PE X e (tX K E dx)/\(∀t l,swapsWith e t l X.env=pure false):=by
 obtain⟨x,np,ea,es,p,k,ps,ks,F,l,rfl,rfl,⟨f,fd,G,hb,hk,hm⟩,hr,a1,g1,g2⟩:=Vn R h.x q0;obtain⟨b1,b2,b3,_⟩:=Jf R h.x a1;exact⟨AN G hr hm hk hb M.ps b1 b2 g1 g2 (jh (b3 _ wNa)) (jZ fun z hz=>b3 z (wMa _ hz)),fun _ _=>J5 rfl⟩
omit R h in
theorem UN{env:Env}{p:Pos}:∀{es:List Expr},(∀e∈es,J1 e=true)->(backTo p (starEach es env)).all (fun x=>!x.1)=true
 | [],_=>rfl
 | e::es,h=>by
  rw[jh (h e List.mem_cons_self)];show(true&&(backTo p (starEach es env)).all (fun x=>!x.1))=true;rw[UN fun x hx=>h x (List.mem_cons_of_mem _ hx)];rfl
omit R h in
theorem zG{a:Expr}{es:List Expr}{m:Str}{ap cp:Pos}{env:Env}(hb:attributeBase a m env (eval a env)=eval a env)(hl:(ap.endLine==cp.line)=true)(hz:Nat.blt es.length 20=true)(hn:∀e∈es,J1 e=true):eval (.Call (.Attribute a m ap) es [] cp) env=(do
   let ov<-eval a env
   standAt ap.atName
   let (f,first)<-holding [ov] (getMethod ov m (do return (<-importBound a env).getD true))
   callWith cp f first (backTo cp (starEach es env)) (backToKw cp (keywordEach [] env))):=by
 have e:methodCallPos true a env ap cp=pure cp:=by unfold methodCallPos;rw[hl];rfl
 have f:methodCallForm (es.length+([]:List Keyword).length) (backTo cp (starEach es env)) (backToKw cp (keywordEach [] env))=true:=by
  unfold methodCallForm;rw[UN hn];have hz:=Nat.blt_eq.mp hz;show(true&&true&&decide (es.length+0+0 < 30))=true;rw[decide_eq_true (by lia)];rfl
 show(do
  let ov<-attributeBase a m env (eval a env)
  standAt ap.atName
  methodCall a m ap cp env ov (es.length+([]:List Keyword).length) (backTo cp (starEach es env)) (backToKw cp (keywordEach [] env)))=_
 rw[hb];unfold methodCall;rw[f,e];rfl
omit R h in
theorem dN:JM (J3 X.prog X.w) X (fun _ _ _=>False):=fun _ _ _ _ _ _ _ z=>by
 obtain⟨_,_,_,_,_,_,_,z⟩:=z;exact z.elim
omit R h in
theorem Xo{l:DA}(hl:l=[]):∀U H Q,Ji K l U H Q->zr U H Q:=fun U H Q xx=>by
 subst hl;obtain⟨H0,O0,Z,O,ds,R,e,q⟩:=xx;cases e;exact q [] H (j3.refl H) trivial
set_option tactic.hygienic true in
theorem wg{E:XK}(M:XmOk K Γ X E){e:Expr}{dx:DX}(q0:Bi r Γ e=some dx):PE X e (tX K E dx)/\(∀t l,swapsWith e t l X.env=pure false)/\y9 e=true/\(!Yc e)=true:=by
 have hK:=h.x.k;subst hK;cases e with
 | Call f es ks p=>
  refine⟨?_,fun _ _=>J5 rfl,rfl,rfl⟩;cases f with
  | Name x np=>
   cases ks <;> try (cases q0;done)
   obtain⟨z,q1⟩:=j9 q0;obtain⟨z,z3⟩:=j8 z;obtain⟨z1,z2⟩:=j8 z;obtain⟨g1,g2⟩:=Jz h.x z1;cases es with
   | nil=>cases z2
   | cons ea es=>
   split at q1
   ·obtain⟨⟨f,fd,G,hb,mk,hm⟩,hr⟩:=h.x.hm _ _ (by assumption);obtain⟨z4,q2⟩:=j9 q1;obtain⟨l,a1,rfl⟩:=j6 q2;obtain⟨b1,b2,b3,_⟩:=Jf R h.x a1;exact bt (Zo mk G (hr z3) g1 hm hb .nil M.ps b1 g2 (jh (b3 _ wNa)) (jZ fun z hz=>b3 z (wMa _ hz))) b2 (j8 z4).1
   ·cases q1
  | Attribute a m ap=>
   cases ks <;> try (cases q0;done)
   obtain⟨z,q1⟩:=j9 q0;obtain⟨z,z3⟩:=j8 z;obtain⟨z1,z2⟩:=j8 z;cases a with
   | Name y p2=>
    obtain⟨z4,q2⟩:=j9 q1;cases es with
    | nil=>cases z4
    | cons ea es=>
    split at q2
    ·obtain⟨⟨f,fd,G,hb,hm⟩,hr⟩:=h.x.hm _ _ (by assumption);obtain⟨d,a0,q3⟩:=j0 q2;obtain⟨l,a1,rfl⟩:=j6 q3;obtain⟨b1,b2,b3,_⟩:=Jf R h.x a1;exact bv (V2 (jl R h.x a0) h.x.hcl hm G (hr z2) hb .nil M.ps b1 (jh (b3 _ wNa)) (jZ fun z hz=>b3 z (wMa _ hz)) (zG rfl z1 z3 b3)) b2
    ·cases q2
   | Call f2 as ks2 p2=>
    cases f2 with
    | Name idy p3=>
    cases ks2 <;> try (cases q1;done)
    unfold eB at q1;dsimp only at q1;split at q1
    ·obtain⟨⟨f,fd,G,hb,mk,hm⟩,hr⟩:=h.x.hm _ _ (by assumption:Γ.hm.lookup idy=_);obtain⟨⟨f',fd',G',hb',hm'⟩,hr'⟩:=h.x.hm _ _ (by assumption:Γ.hm.lookup m=_);obtain⟨z,q2⟩:=j9 q1;obtain⟨z,y5⟩:=j8 z;obtain⟨z,y4⟩:=j8 z;obtain⟨z,y3⟩:=j8 z;obtain⟨y1,y2⟩:=j8 z;obtain⟨g1,g2⟩:=Jz h.x y1;have eC:=vLa y2;subst eC;obtain⟨l,a1,q3⟩:=j0 q2;obtain⟨l',a2,rfl⟩:=j6 q3;obtain⟨b1,b2,b3,_⟩:=Jf R h.x a1;obtain⟨c1,c2,c3,c4⟩:=Jf R h.x a2;cases as with
     | nil=>cases y3
     | cons ea as=>
     have mkP:PE X (.Call (.Name idy p3) (ea::as) [] p2) (Zn Γ.hC _ [] E (Ji _ l)):=Zo mk G (hr z2) g1 hm hb .nil M.ps b1 g2 (jh (b3 _ wNa)) (jZ fun z hz=>b3 z (wMa _ hz));cases es with
     | nil=>exact Qg (uC mkP h.x.hcl hm' G' (hr' z2) hb' .nil M.ps (zG rfl z1 z3 c3)) (Xo (List.length_eq_zero_iff.mp c4)) b2 y4 c2 y5
     | cons e1 es=>exact Qg (V2 mkP h.x.hcl hm' G' (hr' z2) hb' .nil M.ps c1 (jh (c3 _ wNa)) (jZ fun z hz=>c3 z (wMa _ hz)) (zG rfl z1 z3 c3)) (fun _ _ _ z=>z) b2 y4 c2 y5
    ·cases q1
    | _=>cases q1
   | _=>cases q1
  | _=>cases q0
 | _=>cases q0
set_option tactic.hygienic true in
theorem wj{e:Expr}{dx:Q8}(q0:Qo r Γ e=some dx):∃E,Px=PX K E/\PE X e (tY K E dx)/\(∀t l,swapsWith e t l X.env=pure false):=by
 have hK:=h.x.k;subst hK;unfold Qo at q0;cases hx:Γ.xm with
 | false=>rw[hx]at q0;cases q0
 | true=>
  rw[hx,if_pos rfl]at q0;obtain⟨E,e1,M⟩:=h.xm hx;refine⟨E,e1,?_⟩;cases e with
  | Call f es ks p=>
   refine⟨?_,fun _ _=>J5 rfl⟩;cases f with
   | Attribute a m ap=>
    cases ks <;> try (cases q0;done)
    obtain⟨z,q1⟩:=j9 q0;obtain⟨z,z4⟩:=j8 z;obtain⟨z,z3⟩:=j8 z;obtain⟨z1,z2⟩:=j8 z;cases es with
    | nil=>cases z4
    | cons ea es=>
    obtain⟨i,s9,q2⟩:=j0 q1;obtain⟨x,np,rfl,s0⟩:=JP s9;split at q2
    ·obtain⟨⟨f,fd,G,hb,hm⟩,hr⟩:=h.x.hm _ _ (by assumption);obtain⟨z5,q3⟩:=j9 q2;obtain⟨l,a1,rfl⟩:=j6 q3;obtain⟨b1,b2,b3,_⟩:=Jf R h.x a1;exact bq M.ps (V2 (jR h.x s0) h.x.hcl hm G (hr z2) hb .nil M.ps b1 (jh (b3 _ wNa)) (jZ fun z hz=>b3 z (wMa _ hz)) (zG rfl z1 z3 b3)) b2 z5
    ·cases q2
   | _=>cases q0
  | _=>cases q0
set_option tactic.hygienic true in
theorem BD{t e:Expr}{pos:Pos}{d:DS.DS}(q0:eD r Γ t e=some d):PS X (.Assign [t] e pos) (tS K Px d):=by
 have hK:=h.x.k;subst hK;cases t <;> try (cases q0;done)
 cases e <;> try (cases q0;done)
 rename_i x np f es ks p;cases f <;> try (cases q0;done)
 rename_i y p2;cases ks <;> try (cases q0;done)
 obtain⟨i,s0,q1⟩:=j0 q0;obtain⟨s1,s2,s3,s4⟩:=Yv h.x s0;obtain⟨z,q2⟩:=j9 q1;obtain⟨z,z3⟩:=j8 z;obtain⟨z1,z2⟩:=j8 z;obtain⟨g1,g2⟩:=Jz h.x z1;cases es with
 | nil=>cases z2
 | cons ea es=>
 split at q2
 ·obtain⟨⟨f,fd,G,hb,mk,hm⟩,hr⟩:=h.x.hm _ _ (by assumption);obtain⟨z5,q3⟩:=j9 q2;obtain⟨z7,z6⟩:=j8 z5;obtain⟨l,a1,rfl⟩:=j6 q3;obtain⟨b1,b2,b3,_⟩:=Jf R h.x a1;have eC:=vLa z6;subst eC;exact X0 (zb s1 s2 s3 (Zo mk G (hr z3) g1 hm hb .nil dN b1 g2 (jh (b3 _ wNa)) (jZ fun z hz=>b3 z (wMa _ hz))) (J5 rfl) s4) b2 z7
 ·cases q2
set_option tactic.hygienic true in
theorem BE{E:XK}(M:XmOk K Γ X E){e:Expr}{dx:DX}(q0:Bj r Γ e=some dx):PE X e (tX K E dx)/\(∀t l,swapsWith e t l X.env=pure false)/\y9 e=true/\(!Yc e)=true:=by
 cases e with
 | Subscript a b p=>
  have hK:=h.x.k;subst hK;obtain⟨z,q1⟩:=j9 q0;obtain⟨dx',a1,q2⟩:=j0 q1;obtain⟨db,a2,rfl⟩:=j6 q2;exact⟨EM (wg R h M a1).1 (jl R h.x a2) (yv z),fun _ _=>J5 rfl,rfl,rfl⟩
 | _=>exact wg R h M q0
theorem UO{e:Expr}{dx:DX}(q0:KZ r Γ e=some dx):∃E,Px=PX K E/\PE X e (tX K E dx)/\(∀t l,swapsWith e t l X.env=pure false)/\y9 e=true/\(!Yc e)=true:=by
 unfold KZ at q0;cases hx:Γ.xm with
 | false=>rw[hx]at q0;cases q0
 | true=>
  rw[hx]at q0;obtain⟨E,e1,M⟩:=h.xm hx;refine⟨E,e1,?_⟩;cases hc:ZK r Γ e with
  | some dx'=>
   rw[hc]at q0;cases q0;obtain⟨k1,k2⟩:=wf R h M hc;cases e with
   | Call _ _ _ _=>exact⟨k1,k2,rfl,rfl⟩
   | _=>cases hc
  | none=>
   rw[hc]at q0;have q0:(match Bh r Γ e with
    | some dx=>some dx
    | none=>Bj r Γ e)=some dx:=q0
   cases hc2:Bh r Γ e with
   | none=>
    rw[hc2]at q0;obtain⟨k1,k2,k3,k4⟩:=BE R h M q0;exact⟨k1,k2,k3,k4⟩
   | some dx2=>
   rw[hc2]at q0;cases q0;have q0:=hc2;cases e with
   | Call f es ks p=>
    cases f with
    | Name x np=>
     rcases es with _ | ⟨a,_ | ⟨b,_ | ⟨_,_⟩⟩⟩ <;> rcases ks with _ | ⟨_,_⟩ <;> try (cases q0;done)
     obtain⟨z,q1⟩:=j9 q0;obtain⟨z,z4⟩:=j8 z;obtain⟨z,z3⟩:=j8 z;obtain⟨z1,z2⟩:=j8 z;obtain⟨g1,g2⟩:=Jz h.x z1;split at q1
     ·have G:=h.x.gs _ _ (by assumption);obtain⟨da,a1,q2⟩:=j0 q1;obtain⟨dx',a2,rfl⟩:=j6 q2;exact⟨A_ (EJ G.1) (G.2 z2) (jl R h.x a1) (wf R h M a2).1 g1 g2 (jh z3) (jh z4) (jZ fun y hy=>by rw[List.mem_singleton.mp hy];exact z4),fun _ _=>J5 rfl,rfl,rfl⟩
     ·cases q1
    | _=>cases q0
   | _=>cases q0
theorem BF{e:Expr}{pos:Pos}{d:DS.DS}(q0:eE r Γ e=some d):PS X (.Raise (some e) none pos) (tS K Px d):=by
 cases e with
 | Call f es ks p=>
  cases f with
  | Name x np=>
   cases ks with
   | cons _ _=>cases q0
   | nil=>
    obtain⟨z,q1⟩:=j9 q0;clear q0;obtain⟨z1,z2⟩:=j8 z;obtain⟨E,rfl,M⟩:=h.xm z1;cases hl:Γ.xt.xq.lookup x with
    | some fs=>
     rw[hl]at q1;obtain⟨z3,q1⟩:=j9 q1;obtain⟨l,a1,rfl⟩:=j6 q1;cases es with
     | nil=>cases z3
     | cons ea es=>
      obtain⟨b1,b2,b3,_⟩:=Jf R h.x a1;exact CU (M.rf x fs hl z2 np p pos ea es l b1 b3)
    | none=>
     rw[hl]at q1;obtain⟨z3,q1⟩:=j9 q1;rcases es with _ | ⟨a,_ | ⟨_,_⟩⟩ <;> try (cases q1;done)
     obtain⟨z4,q1⟩:=j9 q1;cases q1;cases a with
     | Constant c k p'=>
      cases c <;> try (cases z4;done)
      exact EI (M.rz x (List.contains_iff_mem.mp z3) z2 _ _ _ _ _ _)
     | _=>cases z4
  | _=>cases q0
 | _=>cases q0
omit R h in
theorem Xq{F:List D->Option Rx}{l:DA}:bP (vR F l)=jD (Q1 F) l:=by
 funext Z;show((J9 l Z).bind F).bind _=(J9 l Z).bind _;cases J9 l Z <;> rfl
set_option tactic.hygienic true in
theorem wk:∀{bd:List Stmt} {dx:DX},vT r Γ bd=some dx->yX X bd (Yt K dx):=fun {bd dx} q0=>by
 have key:∀{e:Expr} {dx:DX},ZK r Γ e=some dx->VR X e (Yt K dx)/\∀t l,swapsWith e t l X.env=pure false:=fun q1=>by
  obtain⟨x,np,ea,es,p,k,ps,ks,F,l,rfl,rfl,⟨f,fd,G,hb,hk,hm⟩,hr,a1,g1,g2⟩:=Vn R h.x q1;obtain⟨b1,b2,b3,_⟩:=Jf R h.x.nox a1;exact⟨xR G hr hm hk hb b1 b2 g1 g2 (jh (b3 _ wNa)) (jZ fun z hz=>b3 z (wMa _ hz)),fun _ _=>J5 rfl⟩
 have two:∀(s t0:Stmt) (t:List Stmt) (dx:DX),(∀dx,vT r Γ (t0::t)=some dx->yX X (t0::t) (Yt K dx))->vT r Γ (s::t0::t)=some dx->yX X (s::t0::t) (Yt K dx):=fun s t0 t dx ih q=>by
  cases s with
  | Expr e p=>
   obtain⟨d1,q1,q2⟩:=j0 q;obtain⟨d2,q3,rfl⟩:=j6 q2;obtain⟨k1,k2⟩:=key q1;refine bQ k1 ?_ (ih _ q3) (k2 _ _);obtain⟨x,np,ea,es,p,k,ps,ks,F,l,rfl,rfl,⟨f,fd,G,hb,hk,hm⟩,hr,a1,g1,g2⟩:=Vn R h.x q1;obtain⟨b1,b2,b3,_⟩:=Jf R h.x.nox a1;rw[Xq];exact uY ⟨f,fd,DH G,hb,hk,hm⟩ hr b1 b2 g1 g2 (jh (b3 _ wNa)) (jZ fun z hz=>b3 z (wMa _ hz))
  | _=>cases q
 have all:∀(bd:List Stmt) (dx:DX),2<=bd.length->(∀s dx,vT r Γ [s]=some dx->yX X [s] (Yt K dx))->vT r Γ bd=some dx->yX X bd (Yt K dx):=by
  intro bd;induction bd with
  | nil=>intro dx hl _ _;simp at hl
  | cons s t ih=>
   intro dx hl one q;cases t with
   | nil=>simp at hl
   | cons t0 t=>
    refine two s t0 t dx (fun dx' q'=>?_) q;cases t with
    | nil=>exact one _ _ q'
    | cons t1 t=>exact ih dx' (by simp) one q'
 have one:∀(s:Stmt) (dx:DX),vT r Γ [s]=some dx->yX X [s] (Yt K dx):=fun s dx q0=>by
  cases s with
  | Expr e p=>
   obtain⟨k1,k2⟩:=key q0;exact xJ k1 (k2 _ _)
  | Assign ts e p=>
   rcases ts with _ | ⟨t,_ | ⟨_,_⟩⟩ <;> try (cases q0;done)
   cases t with
   | Name y p'=>
    obtain⟨k1,k2⟩:=key q0;exact AG k1 (k2 _ _)
   | _=>cases q0
  | Return o p=>
   cases o with
   | none=>cases q0
   | some e=>exact AH (key q0).1
  | _=>cases q0
 rcases bd with _ | ⟨s,_ | ⟨s2,t⟩⟩
 ·cases q0
 ·exact one s dx q0
 ·exact all _ dx (by simp) one q0
set_option tactic.hygienic true in
theorem BG(Q:∀{Γ' X'},OkS K Γ' X' Px->∀l d,q Γ' l=some d->jG X' l (tS K Px d)){hs:List ExceptHandler}{cs:List Str}{d:DS.DS}(q0:eF q Γ hs=some (cs,d)):∃h0 t,hs=h0::t/\PH X hs (bN K cs (tS K Px d)):=by
 have hK:=h.x.k;subst hK;rcases hs with _ | ⟨⟨t,n,b,p⟩,_ | ⟨_,_⟩⟩ <;> try (cases q0;done)
 cases t with
 | none=>cases q0
 | some t=>
 cases t <;> try (cases q0;done)
 cases n <;> try (cases q0;done)
 cases b with
 | nil=>cases q0
 | cons b₀ su=>
 rename_i es kk tp;rcases es with _ | ⟨e1,_ | ⟨e2,_ | ⟨e3,_ | ⟨_,_⟩⟩⟩⟩ <;> try (cases q0;done)
 obtain⟨x1,y1,q1⟩:=j0 q0;obtain⟨x2,y2,q2⟩:=j0 q1;obtain⟨x3,y3,q3⟩:=j0 q2;obtain⟨cs',y4,q4⟩:=j0 q3;obtain⟨z,q5⟩:=j9 q4;obtain⟨d',q6,e6⟩:=j6 q5;cases e6;obtain⟨z,z3⟩:=j8 z;obtain⟨z1,z2⟩:=j8 z;obtain⟨p1,rfl⟩:=JO y1;obtain⟨p2,rfl⟩:=JO y2;obtain⟨p3,rfl⟩:=JO y3;obtain⟨g1,d1⟩:=Jz h.x z1;obtain⟨g2,d2⟩:=Jz h.x z2;obtain⟨g3,d3⟩:=Jz h.x z3;have hm:([x1,x2,x3],cs)∈Γ.xt.c3:=UM y4;obtain⟨m1,m2⟩:=h.x.xt.c3 _ hm;refine⟨_,_,rfl,fun pins U H' e cls od s D L xx=>dE g1 (m1 x1 (by simp)) d1 g2 (m1 x2 (by simp)) d2 g3 (m1 x3 (by simp)) d3 (fun e=>Q h.sui _ _ q6) pins U H' e cls od s D L ?_⟩;obtain⟨c,hc,rfl,u⟩:=xx;exact⟨m2 c (List.contains_iff_mem.mp hc),u⟩
theorem wl(Q:∀{Γ' X'},OkS K Γ' X' Px->∀l d,q Γ' l=some d->jG X' l (tS K Px d)):∀{hs:List ExceptHandler} {l:List Hd},Bl q Γ hs=some l->PH X hs (Uu K Px l)
 | [],_,q0=>by cases q0;exact AX
 | .ExceptHandler t n b p::hs,l,q0=>by
  cases t with
  | none=>cases q0
  | some t=>
  cases t with
  | Name x np=>
   cases n with
   | none=>cases q0
   | some n=>
   cases b with
   | nil=>cases q0
   | cons b₀ su=>
    obtain⟨c,c1,q1⟩:=j0 q0;obtain⟨i,c2,q2⟩:=j0 q1;obtain⟨z,q3⟩:=j9 q2;obtain⟨d,c3,q4⟩:=j0 q3;obtain⟨l',c4,rfl⟩:=j6 q4;obtain⟨z1,z2⟩:=j8 z;obtain⟨g1,g2⟩:=Jz h.x z1;obtain⟨u1,u2,u3,u4⟩:=UI c2;obtain⟨m1,m2,m3⟩:=h.x.xt.c _ (Vf c1);exact xQ (by rw[h.x.n];exact h.x.nd) (by rw[h.x.n];exact zF u1) (by show X.env.scope.names.lookup n=_;rw[h.x.sc];exact UH z2) g1 m1 g2 h.x.k m2 m3 (fun e=>Q h.sui _ _ c3) (wl Q c4)
  | _=>cases q0
set_option tactic.hygienic true in
theorem dQ{s:Stmt}{d:DS.DS}(Q:∀{Γ' X'},OkS K Γ' X' Px->∀l d,q Γ' l=some d->jG X' l (tS K Px d))(q0:cS r q Γ s=some d):PS X s (tS K Px d):=by
 have Qh:=fun l d=>Q h l d;unfold cS at q0;cases s with
 | Assign ts e p=>
  rcases ts with _ | ⟨t,_ | ⟨_,_⟩⟩ <;> try (cases q0;done)
  dsimp only at q0;split at q0
  ·rename_i dx hx;obtain⟨E,rfl,k1,k2,k3,k4⟩:=UO R h hx;cases t with
   | Name x np=>
    obtain⟨i,s0,rfl⟩:=j6 q0;obtain⟨s1,s2,s3,s4⟩:=Yv h.x s0;exact AO (zb s1 s2 s3 k1 (k2 _ _) s4)
   | Tuple es n p=>
    obtain⟨g,s0,rfl⟩:=j6 q0;exact AR (za k1 (R.g h.x s0) (zn k3) (we k4))
   | _=>cases q0
  ·split at q0
   ·rename_i dx hy;obtain⟨E,rfl,k1,k2⟩:=wj R h hy;cases t with
    | Name x np=>
     obtain⟨i,s0,rfl⟩:=j6 q0;obtain⟨s1,s2,s3,s4⟩:=Yv h.x s0;exact bp (zb s1 s2 s3 k1 (k2 _ _) s4)
    | _=>cases q0
   ·split at q0
    ·cases q0;exact BD R h (by assumption)
    ·exact BA R h.x q0
 | AugAssign t op e p=>
  exact BB R h.x q0
 | Expr e p=>
  dsimp only at q0;split at q0
  ·rename_i dx hx;obtain⟨E,rfl,k1,k2,_⟩:=UO R h hx;cases q0;exact xP (yA k1 (k2 _ _))
  split at q0
  ·rename_i dx hy;obtain⟨E,rfl,k1,k2⟩:=wj R h hy;cases q0;exact xZ (yA k1 (k2 _ _))
  ·have fb:∀{e},cG (y9 e) ((cV r Γ dV e).map ue)=some d->PS X (.Expr e p) (tS K Px d):=fun q0=>by
    obtain⟨z,q0⟩:=j9 q0;obtain⟨d0,q1,rfl⟩:=j6 q0;exact Kw (yA (jl R h.x q1) (J5 z))
   unfold eA at q0;cases e with
   | Call f es ks p'=>
    dsimp only at q0;split at q0
    ·cases q0;exact Xn R h.x (by assumption)
    split at q0
    ·cases q0;exact BC R h.x (by assumption)
    ·obtain⟨d0,q1,rfl⟩:=j6 q0;exact Kw (yA (jl R h.x q1) (J5 rfl))
   | _=>exact fb q0
 | Return o p=>
  cases o with
  | none=>cases q0;exact Ag
  | some e=>
  dsimp only at q0;split at q0
  ·rename_i dx hx;obtain⟨E,rfl,k1,k2,_⟩:=UO R h hx;cases q0;exact AQ k1
  ·split at q0
   ·rename_i hn;obtain⟨x,p,rfl,hs⟩:=JP hn;split at q0
    ·cases q0;exact Af (jR h.x hs)
    ·cases q0;exact qP (qw _ (jR h.x hs))
   ·split at q0
    ·obtain⟨d0,q1,rfl⟩:=j6 q0;exact Ae (ul R h.x q1)
    ·obtain⟨d0,q1,rfl⟩:=j6 q0;exact qP (J4 R h.x q1)
 | If c a b p=>
  obtain⟨t,q1,q0⟩:=j0 q0;obtain⟨u,q2,q0⟩:=j0 q0;obtain⟨v,q3,rfl⟩:=j6 q0;exact Ew (R.t h.x q1) (Qh _ _ q2) (Qh _ _ q3)
 | While c b o p=>
  cases o with
  | cons _ _=>cases q0
  | nil=>
   obtain⟨t,q1,q0⟩:=j0 q0;obtain⟨u,q2,rfl⟩:=j6 q0;exact xg _ h.hp (R.t h.x q1) (Qh _ _ q2)
 | For tg it b o p=>
  cases o with
  | cons _ _=>cases q0
  | nil=>
   obtain⟨z,q0⟩:=j9 q0;obtain⟨z,hc⟩:=j8 z;obtain⟨di,q1,q0⟩:=j0 q0;obtain⟨g,q2,q0⟩:=j0 q0;obtain⟨u,q3,rfl⟩:=j6 q0;exact Cz h.hp (h.x.calm hc) (Qt R h.x q1) (R.g h.x q2) (Qh _ _ q3) (Gg z)
 | Raise e o p=>
  cases e <;> cases o <;> try (cases q0;done)
  dsimp only at q0;split at q0
  ·exact BF R h q0
  ·cases q0;exact xB
 | Try bd hs o fb p=>
  obtain⟨z,q9⟩:=j9 q0;obtain⟨z,z3⟩:=j8 z;obtain⟨z1,z2⟩:=j8 z;have e1:=List.isEmpty_iff.mp z1;have e2:=List.isEmpty_iff.mp z2;subst e1 e2;split at q9
  ·rename_i cs d3 h3;obtain⟨dx,q1,q0⟩:=j0 q9;obtain⟨db,q2,rfl⟩:=j6 q0;obtain⟨h0,t0,rfl,k1⟩:=BG R h Q h3;exact bO (wk R h q1) (Q h.nox _ _ q2) k1 h.st h.fr
  obtain⟨dx,q1,q0⟩:=j0 q9;obtain⟨db,q2,q0⟩:=j0 q0;obtain⟨l,q3,rfl⟩:=j6 q0;cases hs with
  | nil=>cases z3
  | cons h0 hs=>exact CY (wk R h q1) (Q h.nox _ _ q2) (wl R h Q q3) h.st h.fr
 | _=>
  cases q0
omit R h in
theorem vW{l:Nat}{st:List Stmt}:∀{sh:List (Nat×Nat)} {d:DS.DS},jG X st (tS K Px d)->jG X st (tS K Px (Ge l sh d))
 | [],_,h=>h
 | (m,i)::r,d,h=>by
  unfold Ge;split
  ·exact W8 i (vW h)
  ·exact vW h
set_option tactic.hygienic true in
theorem WR{l:List Stmt}{d:DS.DS}(q0:Qp r Γ l=some d):jG X l (tS K Px d):=by
 have hK:=h.x.k;subst hK;rcases l with _ | ⟨st1,_ | ⟨st2,_ | ⟨_,_⟩⟩⟩ <;> try (cases q0;done)
 ·obtain⟨⟨ea,eb,t1,t2⟩,m1,q0⟩:=j0 q0;obtain⟨⟨y,e1⟩,m2,q0⟩:=j0 q0;obtain⟨⟨u,e2⟩,m3,q0⟩:=j0 q0;obtain⟨⟨ec,ed⟩,m4,q0⟩:=j0 q0;obtain⟨v,m5,q0⟩:=j0 q0;obtain⟨⟨ec',ed'⟩,m6,q0⟩:=j0 q0;obtain⟨yn,m7,q0⟩:=j0 q0;obtain⟨_,_,rfl⟩:=b_ m1;obtain⟨_,rfl⟩:=KW m2;obtain⟨_,rfl⟩:=KW m3;obtain⟨_,rfl⟩:=KU m4;obtain⟨_,rfl⟩:=bX m5;obtain⟨_,rfl⟩:=KU m6;obtain⟨_,rfl⟩:=JO m7;obtain⟨js,a1,q0⟩:=j0 q0;obtain⟨jk,a2,q0⟩:=j0 q0;obtain⟨s,a3,q0⟩:=j0 q0;obtain⟨k,a4,q0⟩:=j0 q0;obtain⟨c,a5,q0⟩:=j0 q0;obtain⟨dd,a6,q0⟩:=j0 q0;obtain⟨c',a7,q0⟩:=j0 q0;obtain⟨d',a8,q0⟩:=j0 q0;obtain⟨i,s0,q0⟩:=j0 q0;obtain⟨z,q0⟩:=j9 q0;obtain⟨z,z7⟩:=j8 z;obtain⟨z,z6⟩:=j8 z;obtain⟨z,z5⟩:=j8 z;obtain⟨z,z4⟩:=j8 z;obtain⟨z,z3⟩:=j8 z;obtain⟨z1,z2⟩:=j8 z;obtain⟨d1,b1,q0⟩:=j0 q0;obtain⟨d2,b2,rfl⟩:=j6 q0;obtain⟨_,e3⟩:=JO a3;dsimp only at e3;subst e3;obtain⟨_,e4⟩:=JO a4;dsimp only at e4;subst e4;obtain⟨_,e5⟩:=JO a5;obtain⟨_,e6⟩:=JO a6;obtain⟨_,e7⟩:=JO a7;obtain⟨_,e8⟩:=JO a8;dsimp only at e5 e6 e7 e8;subst e5 e6 e7 e8;have e1:=vLa z1;have e2:=vLa z2;have e3:=vLa z3;have e4:=vLa z4;subst e1 e2 e3 e4;obtain⟨s1,s2,s3,s4⟩:=Yv h.x s0;have a1:slot Γ _=some js:=a1;have a2:slot Γ _=some jk:=a2;exact Xe (h.x.room z7) (fun p=>jR h.x a1) (fun p=>jR h.x a2) (zb s1 s2 s3 (J4 R h.x b1) (J5 z5) s4) (J4 R h.x b2) rfl (zn z6) vV
theorem wm(Q:∀{Γ' X'},OkS K Γ' X' Px->∀l d,q Γ' l=some d->jG X' l (tS K Px d)):∀{l:List Stmt} {d:DS.DS},Qq r q Γ l=some d->jG X l (tS K Px d)
 | [],_,q0=>by cases q0;exact A8
 | s::t,d,q0=>by
  unfold Qq at q0;split at q0
  ·cases q0;exact W7
  split at q0
  ·exact WR R h q0
  ·obtain⟨d1,q1,q0⟩:=j0 q0;have h1:=dQ R h Q q1;split at q0
   ·cases q0;exact vW (A9 h1)
   ·obtain⟨d2,q2,rfl⟩:=j6 q0;exact vW (xb h1 (wm Q q2))
omit h in
theorem kZ:∀(n:Nat) {Γ:Gm} {X:Cx},OkS K Γ X Px->∀{l:List Stmt} {d:DS.DS},cQ r n Γ l=some d->jG X l (tS K Px d)
 | 0,_,_,_,_,_,q=>by cases q
 | n+1,_,_,h,_,_,q=>wm R h (fun h' l d q=>kZ n h' q) q
end
structure De where
 x:Str
 q:Str
 st:Stmt
 ps:List Str
 lo:List Str
 ks:List Bool
 b:DS.DS
 hs:List ((Nat×Nat×Nat)×List Nat)
 sh:List (Nat×Nat)
 ow:List Nat
structure Tb where
 C:Addr
 gs:List (Str×GI)
 ms:List (Str×GI)
 fl:List Str
 xt:XT:={}
 hC:Addr:=0
 hm:List (Str×GI):=[]
 hfl:List Str:=[]
 hls:List Str:=[]
 tb:D->List (KD×Bool):=fun _=>[]
def gm(T:Tb)(d:De)(kF:Bool)(xm:Bool:=false):Gm:={ cm:=true,xm:=xm,xt:=T.xt,N:=d.ps++d.lo,sc:=defScope d.st,fn:=true,kF:=kF,C:=T.C,gs:=T.gs,ms:=T.ms,fl:=T.fl,hs:=d.hs,sh:=d.sh,ow:=d.ow,hC:=T.hC,hm:=T.hm,hfl:=T.hfl,hls:=T.hls,tb:=T.tb }
def wn(N ps:List Str)(sc:Scope):Bool:=(match sc.kind with | .function=>true | _=>false)&&!sc.isCoroutine&&!sc.isGenerator&&Vl N&&ps.all (UE sc)&&sc.names.all fun y=>match y.2 with | .free=>false | _=>true
theorem Ye{ps lo:List Str}{sc:Scope}(h:wn (ps++lo) ps sc=true):FnScope (ps++lo) ps sc:=by
 obtain⟨h,h6⟩:=j8 h;obtain⟨h,h5⟩:=j8 h;obtain⟨h,h4⟩:=j8 h;obtain⟨h,h3⟩:=j8 h;obtain⟨h1,h2⟩:=j8 h;refine⟨?_,yN h2,yN h3,ZA h4,by simp,fun x hx=>K_ (List.all_eq_true.mp h5 x hx),fun y hy e=>?_⟩
 ·split at h1
  ·assumption
  ·cases h1
 ·have:=List.all_eq_true.mp h6 y hy;rw[e]at this;cases this
def Bd(x q:Str)(st:Stmt)(ps:List Str):Prop:=∀(kV doc pm:Value) (an:Option Addr) (cdv ct:Value) (us:List Value),us.length=ps.length->bindArgs (PySem.W.fnOf x q (defArgs st) (defBody st) (defScope st) .none kV doc pm an cdv ct) ⟨us,[]⟩=pure (ps.zip us)
def yb(T:Tb)(d:De)(kF:Bool):Option DS.DS:=cG (wn (d.ps++d.lo) d.ps (defScope d.st)) (cQ (rc 30) 30 (gm T d kF) (defBody d.st))
structure TOk (P:Program) (w:World) (K:Fr) (mg:Str->Option Value) (base:Heap) (n:Nat) (T:Tb):Prop where
 gs:∀p∈T.gs,UG P w K mg base T.C (·<=n) K p.1 p.2
 ms:∀p∈T.ms,Gf P w K mg base T.C (·<=n) K p.1 p.2
 cl:Cls K T.C
 fl:∀f∈T.fl,Jb K T.C f
 xt:XTok K mg T.xt
 xp:∀x∈T.xt.xp,∃C,W.nsIn K mainGlobals x=some (some (.ref C))/\W.excIn K C ZL "ValueError.__new__" = true
 xq:∀x fs,T.xt.xq.lookup x=some fs->vd P w K mg base (·<=n) x fs
 hcl:Cls K T.hC
 hfl:∀f,f∈T.hfl \/ f∈T.hls->Jb K T.hC f
 hm:∀p∈T.hm,J2 P w K mg base T.hC (·<=n) K p.1 p.2
section
variable {P:Program} {w:World} {K:Fr} {mg:Str->Option Value} {base:Heap} {f C:Addr} {fd:FuncData} {n:Nat} {T:Tb} {d:De} {g:GI} {x:Str}
theorem TOk.mono{m:Nat}(h:TOk P w K mg base n T)(l:n<=m):TOk P w K mg base m T:=
 ⟨fun p hp=>(h.gs p hp).mono fun _ z=>wSa z l,fun p hp=>(h.ms p hp).mono fun _ z=>wSa z l,h.cl,h.fl,h.xt,h.xp,(fun x fs e=>(h.xq x fs e).mono fun _ z=>wSa z l),h.hcl,h.hfl,fun p hp=>(h.hm p hp).mono fun _ z=>wSa z l⟩
set_option tactic.hygienic true in
theorem Yx{α:Type}{x:Str}{g:α}:∀{l:List (Str×α)},l.lookup x=some g->(x,g)∈l
 | [],h=>by cases h
 | (y,g')::r,h=>by
  rw[List.lookup_cons]at h;split at h
  ·rename_i e;cases h;rw[eq_of_beq e];exact wNa
  ·exact wMa _ (Yx h)
theorem eG{kF xm:Bool}{cdv:Value}{A:Around}{outer:List Env}{s:Shared}{H:Hp}{E:XK}{CX:ze}(h:TOk P w K mg base n T)(S:FnScope (d.ps++d.lo) d.ps (defScope d.st))(hr:Room n (A.deeper (envOfC d.q (defScope d.st) s.heap.objs.size f cdv))):
  OkX K (gm T d kF xm) (jS CX P w K mg base (d.ps++d.lo) d.q (defScope d.st) f cdv A outer s H E) where
 n:=rfl
 sc:=rfl
 nd:=S.nd
 calm:=fun _=>rfl
 k:=rfl
 room:=fun _=>hr.mono (Nat.zero_le _)
 fn:=fun _ _=>rfl
 gs:=fun x g e=>(h.gs _ (Yx e)).mono fun k z _=>hr.mono z
 ms:=fun x g e=>(h.ms _ (Yx e)).mono fun k z _=>hr.mono z
 cl:=h.cl
 fl:=fun f e=>h.fl f (List.contains_iff_mem.mp e)
 xt:=h.xt
 hcl:=h.hcl
 hfl:=fun f e=>h.hfl f (e.imp List.contains_iff_mem.mp List.contains_iff_mem.mp)
 hm:=fun x g e=>(h.hm _ (Yx e)).mono fun k z _=>hr.mono z
 xq:=fun x fs e=>(h.xq x fs e).mono fun k z _=>hr.mono z
def yw(T:Tb)(d:De):Option DS.DS:=cG (wn (d.ps++d.lo) d.ps (defScope d.st)) (cQ (rc 30) 30 (gm T d false true) (defBody d.st))
theorem Vo{kF:Bool}{b:DS.DS}{cdv:Value}{A:Around}{outer:List Env}{s:Shared}{H:Hp}{E:XK}(h:TOk P w K mg base n T)(c:yb T d kF=some b)(hr:Room n (A.deeper (envOfC d.q (defScope d.st) s.heap.objs.size f cdv))):
  jG (jS Jx P w K mg base (d.ps++d.lo) d.q (defScope d.st) f cdv A outer s H E).nox (defBody d.st) (tS K (fun _ _=>False) b):=by
 obtain⟨c1,c2⟩:=j9 c;exact kZ (vU 30) 30 ⟨(eG (kF:=kF) (xm:=false) h (Ye c1) hr).nox,PassesOwn.never,rfl,rfl,fun z=>nomatch z⟩ c2
theorem UP{b:DS.DS}{cdv:Value}{A:Around}{outer:List Env}{s:Shared}{H:Hp}{E:XK}(h:TOk P w K mg base n T)(c:yw T d=some b)(hr:Room n (A.deeper (envOfC d.q (defScope d.st) s.heap.objs.size f cdv))):
  jG (jS (J3 P w) P w K mg base (d.ps++d.lo) d.q (defScope d.st) f cdv A outer s H E) (defBody d.st) (tS K (PX K E) b):=by
 obtain⟨c1,c2⟩:=j9 c;have ok:=eG (kF:=false) (xm:=true) (E:=E) (outer:=outer) (H:=H) (CX:=J3 P w) h (Ye c1) hr;refine kZ (vU 30) 30 ⟨ok,PassesOwn.leaving,rfl,rfl,fun _=>⟨E,rfl,AJ,fun x hx hg np cpos pos cp z j=>?_,fun x fs hx hg np cpos pos a es l ha hn=>?_⟩⟩ c2
 ·obtain⟨C,e1,e2⟩:=h.xp x hx;obtain⟨g1,g2⟩:=Jz ok hg;rw[zh e1];exact Wr e1 e2 PySem.F.excBase_ValueError g1 g2
 ·obtain⟨C,fi,fd',ps,k,e1,e2,kp,ft,FI,hz,hps,hb,hk⟩:=h.xq x fs hx;obtain⟨g1,g2⟩:=Jz ok hg;rw[zh e1];exact KJ e1 e2 PySem.F.excBase_ValueError kp ft FI hz hps hb (hr.mono hk) g1 g2 ha (jh (hn _ wNa)) (jZ fun y hy=>hn y (wMa _ hy))
theorem eI(h:TOk P w K mg base n T)(F:Fun K d.x d.q d.st f fd)(c:yw T d=some d.b)(hk:d.ks.length=d.ps.length):FnOk P w K mg base (J3 P w) (n+1) f fd d.ps (Zb K d.ks (Q2 d.ks d.lo.length d.b)):=
 CT F (Ye (j9 c).1) hk (by simp) fun cdv A outer s H E hr=>UP h c hr
theorem Gj(h:TOk P w K mg base n T)(F:Fun K d.x d.q d.st f fd)(c:yb T d false=some d.b)(hk:d.ks.length=d.ps.length):FnOk P w K mg base Jx (n+1) f fd d.ps (Y5 K d.ks (Y6 d.ks d.lo.length d.b)):=
 Ez F (Ye (j9 c).1) hk (by simp) fun cdv A outer s H E hr=>Vo h c hr
theorem eJ(h:TOk P w K mg base n T)(F:Fun K d.x d.q d.st f fd)(c:yb T d true=some d.b)(hk:d.ks.length=d.ps.length):FnOk P w K mg base Jx (n+1) f fd d.ps (gJ K d.ks (qV d.ks d.lo.length d.b)):=
 EA F (Ye (j9 c).1) hk (by simp) fun cdv A outer s H E hr=>Vo h c hr
theorem fZ(h:TOk P w K mg base n T)(F:Fun K d.x d.q d.st f fd)(c:yb T d false=some d.b)(hk:d.ks.length+1=d.ps.length):FnOk P w K mg base Jx (n+1) f fd d.ps (qL K C d.ks (Ky C d.ks d.lo.length d.b)):=
 EB F (Ye (j9 c).1) hk (by simp) fun cdv A outer s H E hr=>Vo h c hr
def At(K:Fr)(x q:Str)(st:Stmt):Prop:=∃f fd,W.nsIn K mainGlobals x=some (some (.ref f))/\Fun K x q st f fd
def UQ(K:Fr)(C:Addr)(x q:Str)(st:Stmt):Prop:=∃f fd,W.findIn K (.ref C) x=some (some (.ref f))/\W.isFn K (.ref f)=true/\Fun K x q st f fd
theorem dR{q:Str}{st:Stmt}(a:W.nsIn K mainGlobals x=some (some (.ref f)))(F:Fun K x q st f fd):At K x q st:=⟨f,fd,a,F⟩
theorem BH{q:Str}{st:Stmt}(a:W.findIn K (.ref C) x=some (some (.ref f)))(i:W.isFn K (.ref f)=true)(F:Fun K x q st f fd):UQ K C x q st:=⟨f,fd,a,i,F⟩
def G0(K:Fr)(x:Str):GI->Prop
 | .con i=>∃t,W.nsIn K mainGlobals x=some (some (.int i t))
 | .blt=>W.nsIn K mainGlobals x=some none
 | _=>False
theorem dS(XG:∀x v,W.nsIn K mainGlobals x=some (some v)->mg x=some v)(XN:∀x,W.nsIn K mainGlobals x=some none->mg x=none)(h:G0 K x g):UG P w K mg base C rm K x g:=by
 cases g with
 | con i=>obtain⟨t,h⟩:=h;exact⟨t,XG _ _ h⟩
 | blt=>exact XN _ h
 | _=>exact h.elim
noncomputable def Tb.ag(T:Tb)(x:Str)(i:GI):Tb:={ T with gs:=(x,i)::T.gs }
noncomputable def Tb.am(T:Tb)(x:Str)(i:GI):Tb:={ T with ms:=(x,i)::T.ms }
theorem TOk.ag{m:Nat}(h:TOk P w K mg base n T)(l:n<=m)(q:UG P w K mg base T.C (·<=m) K x g):TOk P w K mg base m (T.ag x g):=
 ⟨fun p hp=>by
  rcases uTa hp with rfl | hp
  ·exact q
  ·exact(h.mono l).gs p hp,(h.mono l).ms,h.cl,h.fl,h.xt,h.xp,(h.mono l).xq,h.hcl,h.hfl,(h.mono l).hm⟩
theorem TOk.am(h:TOk P w K mg base n T)(l:n<=m)(q:Gf P w K mg base T.C (·<=m) K x g):TOk P w K mg base m (T.am x g):=
 ⟨(h.mono l).gs,fun p hp=>by
  rcases uTa hp with rfl | hp
  ·exact q
  ·exact(h.mono l).ms p hp,h.cl,h.fl,h.xt,h.xp,(h.mono l).xq,h.hcl,h.hfl,(h.mono l).hm⟩
noncomputable def Tb.ah(T:Tb)(x:Str)(i:GI):Tb:={ T with hm:=(x,i)::T.hm }
theorem TOk.ah{m:Nat}(h:TOk P w K mg base n T)(l:n<=m)(q:J2 P w K mg base T.hC (·<=m) K x g):TOk P w K mg base m (T.ah x g):=
 ⟨(h.mono l).gs,(h.mono l).ms,h.cl,h.fl,h.xt,h.xp,(h.mono l).xq,h.hcl,h.hfl,fun p hp=>by
  rcases uTa hp with rfl | hp
  ·exact q
  ·exact(h.mono l).hm p hp⟩
def De.E(d:De)(n:Nat):GI:=.fE (n+1) d.ps d.ks (Y6 d.ks d.lo.length d.b)
def De.F(d:De)(n:Nat):GI:=.fF (n+1) d.ps d.ks (qV d.ks d.lo.length d.b)
def De.X(d:De)(n:Nat):GI:=.fX (n+1) d.ps d.ks (Q2 d.ks d.lo.length d.b)
structure Ck (T:Tb) (d:De) (kF:Bool):Prop where
 c:yb T d kF=some d.b
 k:(d.ks.length==d.ps.length)=true
 b:Bd d.x d.q d.st d.ps
variable (XG:∀x v,W.nsIn K mainGlobals x=some (some v)->mg x=some v)
include XG
theorem TOk.E(h:TOk P w K mg base n T)(a:At K d.x d.q d.st)(c:Ck T d false):TOk P w K mg base (n+2) (T.ag d.x (d.E n)):=by
 obtain⟨f,fd,a1,F⟩:=a;exact h.ag (vKa _ _) ⟨⟨f,fd,Gj h F c.c (vLa c.k),F.binds c.b,F.kp,XG _ _ a1⟩,vMa _⟩
theorem TOk.F(h:TOk P w K mg base n T)(a:At K d.x d.q d.st)(c:Ck T d true):TOk P w K mg base (n+2) (T.ag d.x (d.F n)):=by
 obtain⟨f,fd,a1,F⟩:=a;exact h.ag (vKa _ _) ⟨⟨f,fd,eJ h F c.c (vLa c.k),F.binds c.b,F.kp,XG _ _ a1⟩,vMa _⟩
theorem TOk.X(h:TOk P w K mg base n T)(a:At K d.x d.q d.st)(c:yw T d=some d.b)(k:(d.ks.length==d.ps.length)=true)(b:Bd d.x d.q d.st d.ps):TOk P w K mg base (n+2) (T.ag d.x (d.X n)):=by
 obtain⟨f,fd,a1,F⟩:=a;exact h.ag (vKa _ _) ⟨⟨f,fd,eI h F c (vLa k),F.binds b,F.kp,XG _ _ a1⟩,vMa _⟩
omit XG in
theorem TOk.mE(h:TOk P w K mg base n T)(a:UQ K T.C d.x d.q d.st)(c:Ck T d false)(k:d.ks=[false]):TOk P w K mg base (n+2) (T.am d.x (d.E n)):=by
 obtain⟨f,fd,a1,a2,F⟩:=a;exact h.am (vKa _ _) ⟨⟨f,fd,k▸Gj h F c.c (vLa c.k),F.binds c.b,⟨a1,a2,F.kp⟩⟩,vMa _⟩
omit XG in
theorem TOk.mF(h:TOk P w K mg base n T)(a:UQ K T.C d.x d.q d.st)(c:Ck T d true)(k:d.ks=[false]):TOk P w K mg base (n+2) (T.am d.x (d.F n)):=by
 obtain⟨f,fd,a1,a2,F⟩:=a;exact h.am (vKa _ _) ⟨⟨f,fd,k▸eJ h F c.c (vLa c.k),F.binds c.b,⟨a1,a2,F.kp⟩⟩,vMa _⟩
theorem TOk.I(h:TOk P w K mg base n T)(a:UQ K T.C d.x d.q d.st)(hx:d.x = "__init__")(c:yb T d false=some d.b)(k:(d.ks.length+1==d.ps.length)=true)(b:Bd d.x d.q d.st d.ps)(mk:W.makesIn K T.C=true)(kc:W.keepIn K (.ref T.C)=true)
  (aC:W.nsIn K mainGlobals x=some (some (.ref T.C))) (hG:∀p ds o,G ds=some o->Ky T.C d.ks d.lo.length d.b p ds=some o):TOk P w K mg base (n+2) (T.ag x (.mk (n+1) d.ps d.ks (Ky T.C d.ks d.lo.length d.b) G)):=by
 obtain⟨f,fd,a1,a2,F⟩:=a;refine h.ag (vKa _ _) ⟨⟨f,fd,fZ h F c (vLa k),F.binds b,⟨mk,?_,a2,kc⟩,XG _ _ aC⟩,hG,wPa _⟩;rw[hx]at a1;exact a1
theorem TOk.R(h:TOk P w K mg base n T)(a:At K d.x d.q d.st)(F:Nat->List D->Option D)(B:(List D->Option D)->DS.DS)(m:Nat)(F0:∀ds,F 0 ds=none)(FS:∀m,F (m+1)=Y6 d.ks d.lo.length (B (F m)))
  (c:∀m,yb (T.ag d.x (.fE (n+m) d.ps d.ks (F m))) d false=some (B (F m))) (k:(d.ks.length==d.ps.length)=true) (b:Bd d.x d.q d.st d.ps):TOk P w K mg base (n+m) (T.ag d.x (.fE (n+m) d.ps d.ks (F m))):=by
 obtain⟨f,fd,a1,Fu⟩:=a;have all:∀m,FnOk P w K mg base Jx (n+m) f fd d.ps (Y5 K d.ks (F m)):=by
  intro m;induction m with
  | zero=>
   have no:∀vs H Q E,¬Y5 K d.ks (F 0) vs H Q E:=fun vs H Q E h=>by
    obtain⟨O,ds,d,_,_,h1,_⟩:=h;rw[F0]at h1;cases h1
   exact⟨fun vs H Q E h=>vDa h (no vs H Q E),fun A outer s H args us vs Q E _ _ _ _ h=>vDa h (no vs H Q E)⟩
  | succ m ih=>
   have h':TOk P w K mg base (n+m) (T.ag d.x (.fE (n+m) d.ps d.ks (F m))):=h.ag (vKa _ _) ⟨⟨f,fd,ih,Fu.binds b,Fu.kp,XG _ _ a1⟩,wPa _⟩;rw[FS];exact Gj (d:={ d with b:=B (F m) }) h' Fu (c m) (vLa k)
 exact h.ag (vKa _ _) ⟨⟨f,fd,all m,Fu.binds b,Fu.kp,XG _ _ a1⟩,wPa _⟩
end
def YU(st:Stmt):List Str:=(defArgs st).args.map (·.arg)
def ES(st:Stmt):List Str:=((defScope st).names.filter fun y=>UE (defScope st) y.1&&!(YU st).contains y.1).map (·.1)
def Gk(st:Stmt):Bool:=(defArgs st).posonlyargs.isEmpty&&(defArgs st).kwonlyargs.isEmpty&&(defArgs st).vararg.isNone&&(defArgs st).kwarg.isNone&&Vl (YU st)
theorem wo:∀(l:List Str) (us:List Value) (pre:List (Str×Value)),us.length=l.length->l.Nodup->(∀n∈l,pre.lookup n=none)->(l.filterMap fun n=>((pre++l.zip us).lookup n).map (n,·))=l.zip us/\(∀n∈l,((pre++l.zip us).lookup n).isNone=false)
 | [],us,pre,_,_,_=>by simp
 | n::l,[],pre,h,_,_=>by cases h
 | n::l,u::us,pre,h,nd,hp=>by
  obtain⟨n1,n2⟩:=List.nodup_cons.mp nd;have e:pre++(n::l).zip (u::us)=(pre++[(n,u)])++l.zip us:=by simp
  have q:((pre++[(n,u)])++l.zip us).lookup n=some u:=by
   rw[List.lookup_append,List.lookup_append,hp n List.mem_cons_self];simp
  obtain⟨i1,i2⟩:=wo l us (pre++[(n,u)]) (by simpa using h) n2 fun m hm=>by
   rw[List.lookup_append,hp m (List.mem_cons_of_mem _ hm)];have:m≠n:=fun z=>n1 (z▸hm);have b:(m==n)=false:=beq_eq_false_iff_ne.mpr this;simp[List.lookup_cons,b]
  rw[e];refine⟨by rw[List.filterMap_cons,q,i1];rfl,fun m hm=>?_⟩;rcases uTa hm with rfl | hm
  ·rw[q];rfl
  ·exact i2 m hm
theorem JH{x q:Str}{st:Stmt}(h:Gk st=true):Bd x q st (YU st):=by
 intro kV doc pm an cdv ct us hl;unfold Gk at h;unfold YU at *;obtain⟨h,h5⟩:=j8 h;obtain⟨h,h4⟩:=j8 h;obtain⟨h,h3⟩:=j8 h;obtain⟨h1,h2⟩:=j8 h;generalize hA:defArgs st=A at *;obtain⟨a1,a2,a3,a4,a5,a6,a7⟩:=A;dsimp only at h1 h2 h3 h4 h5 hl⊢;rw[List.isEmpty_iff]at h1 h2;cases a3 with
 | some _=>cases h3
 | none=>?_
 cases a6 with
 | some _=>cases h4
 | none=>?_
 subst h1 h2;obtain⟨z1,z2⟩:=wo (a2.map (·.arg)) us [] hl (ZA h5) fun _ _=>rfl;rw[List.nil_append]at z1 z2;unfold bindArgs W.fnOf;have e0:seqItems? .none=pure none:=rfl;simp only[List.map_nil,List.nil_append,List.append_nil,List.forIn_nil,pure_bind,e0,Option.getD_none,Option.isNone_none,Bool.and_true];generalize a2.map (·.arg)=l at *;have e1:l.filter (fun n=>((l.zip us).lookup n).isNone)=[]:=by
  rw[List.filter_eq_nil_iff];intro n hn;rw[z2 n hn]
  decide
 simp[e1,z1,hl]
structure Df where
 st:Stmt
 q:Str
 f:Addr
 m:Bool
 kF:Bool
 ks:List Bool
 b:DS.DS
 hs:List ((Nat×Nat×Nat)×List Nat):=[]
 sh:List (Nat×Nat):=[]
 ow:List Nat:=[]
 xm:Bool:=false
def Df.de(d:Df):De:=⟨sN d.st,d.q,d.st,YU d.st,ES d.st,d.ks,d.b,d.hs,d.sh,d.ow⟩
def Tb.add(T:Tb)(n:Nat)(d:Df):Tb:=cond d.xm (T.ag (sN d.st) (d.de.X n)) <| cond d.m (T.am (sN d.st) (cond d.kF (d.de.F n) (d.de.E n))) (T.ag (sN d.st) (cond d.kF (d.de.F n) (d.de.E n)))
def Tb.adds:Tb->Nat->List Df->Tb
 | T,_,[]=>T
 | T,n,d::l=>(T.add n d).adds (n+2) l
def Tb.chks:Tb->Nat->List Df->List (Option DS.DS×Bool)
 | _,_,[]=>[]
 | T,n,d::l=>(cond d.xm (yw T d.de) (yb T d.de d.kF),Gk d.st&&(d.ks.length==(YU d.st).length&&((!d.m||d.ks==[false])&&!(d.m&&d.xm))))::(T.add n d).chks (n+2) l
noncomputable def BI(l:List Df):List (Option DS.DS×Bool):=l.map fun d=>(some d.b,true)
noncomputable def f_(o:Option Obj):Value:=match o with
 | some ⟨_,_,.func fd,_⟩=>fd.pyModule
 | _=>.none
noncomputable def JU(K:Fr)(C:Addr)(d:Df):Option (Option Value)×Option Obj×Bool:=(cond d.m (W.findIn K (.ref C) (sN d.st)) (W.nsIn K mainGlobals (sN d.st)),K.lookup d.f,W.codeIn K (.ref (d.f - 1)) d.q&&(W.keepIn K (.ref d.f)&&W.isFn K (.ref d.f)))
def JV(K:Fr)(d:Df):Option (Option Value)×Option Obj×Bool:=(some (some (.ref d.f)),some ⟨.type "function",none,.func (W.fnOf (sN d.st) d.q (defArgs d.st) (defBody d.st) (defScope d.st) .none .none .none (f_ (K.lookup d.f)) none (.ref (d.f - 1)) .none),#[]⟩,true)
section
variable {P:Program} {w:World} {K:Fr} {mg:Str->Option Value} {base:Heap} {C:Addr} {d:Df}
theorem zH(h:JU K C d=JV K d)(m:d.m=false):At K (sN d.st) d.q d.st:=by
 have h1:=congrArg (·.1) h;have h2:=congrArg (·.2.1) h;have h3:=congrArg (·.2.2) h;dsimp only[JU,JV]at h1 h2 h3;rw[m]at h1;obtain⟨h3,h4⟩:=j8 h3;exact dR h1 (Ki h2 h3 (j8 h4).1)
theorem yY(h:JU K C d=JV K d)(m:d.m=true):UQ K C (sN d.st) d.q d.st:=by
 have h1:=congrArg (·.1) h;have h2:=congrArg (·.2.1) h;have h3:=congrArg (·.2.2) h;dsimp only[JU,JV]at h1 h2 h3;rw[m]at h1;obtain⟨h3,h4⟩:=j8 h3;exact BH h1 (j8 h4).2 (Ki h2 h3 (j8 h4).1)
theorem TOk.adds(XG:∀x v,W.nsIn K mainGlobals x=some (some v)->mg x=some v):∀(l:List Df) {n:Nat} {T:Tb},TOk P w K mg base n T->T.chks n l=BI l->l.map (JU K T.C)=l.map (JV K)->TOk P w K mg base (n+2 * l.length) (T.adds n l)
 | [],n,T,h,_,_=>h
 | d::l,n,T,h,c,a=>by
  obtain⟨c1,c2⟩:=List.cons.inj c;obtain⟨a1,a2⟩:=List.cons.inj a;have c3:=congrArg (·.1) c1;obtain⟨b1,b2⟩:=j8 (congrArg (·.2) c1);obtain⟨b2,b3⟩:=j8 b2;obtain⟨b3,b4⟩:=j8 b3;dsimp only at c3;have e:n+2 * (d::l).length=n+2+2 * l.length:=by rw[vXa];lia
  have h':TOk P w K mg base (n+2) (T.add n d):=by
   unfold Tb.add;cases hx:d.xm
   case true=>
    rw[hx]at c3 b4;have hm:d.m=false:=by cases z:d.m;rfl;rw[z]at b4;cases b4
    exact TOk.X XG (d:=d.de) h (zH a1 hm) c3 b2 (JH b1)
   rw[hx]at c3;cases hm:d.m
   ·cases hk:d.kF <;> rw[hk]at c3
    ·exact TOk.E XG h (zH a1 hm) ⟨c3,b2,JH b1⟩
    ·exact TOk.F XG h (zH a1 hm) ⟨c3,b2,JH b1⟩
   ·rw[hm]at b3;have b3:d.ks=[false]:=by simpa using b3
    cases hk:d.kF <;> rw[hk]at c3
    ·exact TOk.mE (d:=d.de) h (yY a1 hm) ⟨c3,b2,JH b1⟩ b3
    ·exact TOk.mF (d:=d.de) h (yY a1 hm) ⟨c3,b2,JH b1⟩ b3
  have eC:(T.add n d).C=T.C:=by unfold Tb.add;cases d.xm <;> cases d.m <;> rfl
  rw[e];exact TOk.adds XG l h' c2 (by rw[eC];exact a2)
noncomputable def Gn(o:Option (Option Value)):Option (Option Int):=match o with
 | some (some (.int i _))=>some (some i)
 | some none=>some none
 | _=>none
noncomputable def Qw(g:GI):Option (Option Int):=match g with
 | .con i=>some (some i)
 | .blt=>some none
 | _=>none
theorem Jd:∀{l:List α},l.map f=l.map g->∀x∈l,f x=g x
 | [],_,_,h=>by cases h
 | a::l,e,x,h=>by
  obtain⟨e1,e2⟩:=List.cons.inj e;rcases uTa h with rfl | h
  ·exact e1
  ·exact Jd e2 x h
theorem dT{gs:List (Str×GI)}(h:gs.map (fun p=>(Gn (W.nsIn K mainGlobals p.1),(Qw p.2).isSome))=gs.map fun p=>(Qw p.2,true)):∀p∈gs,G0 K p.1 p.2:=fun p hp=>by
 have e:=Jd h p hp;have e1:=congrArg (·.1) e;have e2:=congrArg (·.2) e;dsimp only at e1 e2;obtain⟨x,g⟩:=p;dsimp only at e1 e2⊢;cases g with
 | con i=>
  have e1:Gn (W.nsIn K mainGlobals x)=some (some i):=e1;unfold Gn at e1;split at e1
  ·cases e1;exact⟨_,by assumption⟩
  ·cases e1
  ·cases e1
 | blt=>
  have e1:Gn (W.nsIn K mainGlobals x)=some none:=e1;unfold Gn at e1;split at e1
  ·cases e1
  ·assumption
  ·cases e1
 | _=>cases e2
def BJ(K:Fr)(x:Str):=(W.nsIn K mainGlobals x,W.findIn K (.ref (ji K x)) "__getattribute__",W.findIn K (.ref (ji K x)) "__getattr__",W.findIn K (.ref (ji K x)) "__class__",W.specialIn K (.builtin "object.__class__") "__get__",W.takesIn K (.builtin "object.__class__"),W.mroIn K (ji K x) (.type "object"),W.subIn K (.ref (ji K x)) (.type "BaseException"),W.isClsIn K (ji K x))
def BK(K:Fr)(x:Str):Option (Option Value)×Option (Option Value)×Option (Option Value)×Option (Option Value)×Option (Option Value)×Option Bool×Option Bool×Option Bool×Bool:=(some (some (.ref (ji K x))),some (some (.builtin "BaseException.__getattribute__")),some none,some (some (.builtin "object.__class__")),some (some (.builtin "getset_descriptor.__get__")),some true,some true,some true,true)
def BL(K:Fr)(p:Str×Str):=(W.findIn K (.ref (ji K p.1)) "__getattribute__",W.findIn K (.ref (ji K p.1)) "__getattr__",yh K (ji K p.1),W.hasDictIn K (ji K p.1),W.findIn K (.ref (ji K p.1)) p.2)
def vX(K:Fr)(x:Str)(f:Str):=(W.findIn K (.ref (ji K x)) "__setattr__",yh K (ji K x),W.takerIn K (ji K x) f,W.hasDictIn K (ji K x))
theorem dU{T:XT}(XG:∀x v,W.nsIn K mainGlobals x=some (some v)->mg x=some v)(h1:T.ex.map (BJ K)=T.ex.map (BK K))(h2:(T.ex.map fun x=>T.ex.map fun y=>W.kitOne K (.ref (ji K x)) (.ref (ji K y)))=T.ex.map fun x=>T.ex.map fun y=>some (x==y))
  (h3:T.ct.map (fun h=>(W.nsIn K mainGlobals h.1,h.2.1.map (fun x=>W.exmOne K (.ref (ji K x)) (.ref (ji K h.1))),h.2.2.map fun x=>W.exmOne K (.ref (ji K x)) (.ref (ji K h.1))))=T.ct.map fun h=>(some (some (.ref (ji K h.1))),h.2.1.map (fun _=>some true),h.2.2.map fun _=>some false))
  (h4:T.xf.map (BL K)=T.xf.map fun _=>(some (some (.builtin "BaseException.__getattribute__")),some none,true,true,some none))
  (h5:T.ve=true->T.ex.map (fun x=>W.kitOne K (.ref (ji K x)) (.type "ValueError"))=T.ex.map fun _=>some true) (h6:T.c3.map (fun p=>(p.1.map fun x=>W.nsIn K mainGlobals x,p.2.map fun c=>W.exmAny K (.ref (ji K c)) (p.1.map fun x=>Value.ref (ji K x))))=T.c3.map fun p=>(p.1.map fun x=>some (some (.ref (ji K x))),p.2.map fun _=>some true)):XTok K mg T where
 v:=fun z x hx=>Jd (h5 z) x hx
 c3:=fun p hp=>by
  have e:=Jd h6 p hp;simp only[Prod.mk.injEq]at e;exact⟨fun x hx=>XG _ _ (Jd e.1 x hx),fun c hc=>Jd e.2 c hc⟩
 e:=fun x hx=>by
  have e:=Jd h1 x hx;unfold BJ BK at e;simp only[Prod.mk.injEq]at e;obtain⟨e1,e2,e3,e4,e5,e6,e7,e8,e9⟩:=e;exact⟨_,e1,XG _ _ e1,e2,e3,e4,e5,e6,e7,e8,e9⟩
 k:=fun x hx y hy=>Jd (Jd h2 x hx) y hy
 c:=fun h hh=>by
  have e:=Jd h3 h hh;simp only[Prod.mk.injEq]at e;obtain⟨e1,e2,e3⟩:=e;exact⟨XG _ _ e1,fun x hx=>Jd e2 x hx,fun x hx=>Jd e3 x hx⟩
 f:=fun p hp=>by
  have e:=Jd h4 p hp;unfold BL at e;simp only[Prod.mk.injEq]at e;obtain⟨e1,e2,e3,e4,e5⟩:=e;exact⟨e1,e2,e3,e4,e5⟩
theorem dW{l:List Str}(h:l.map (fun x=>(W.nsIn K mainGlobals x,W.excIn K (ji K x) ZL "ValueError.__new__"))=l.map fun x=>(some (some (.ref (ji K x))),true)):∀x∈l,∃C,W.nsIn K mainGlobals x=some (some (.ref C))/\W.excIn K C ZL "ValueError.__new__" = true:=fun x hx=>by
 have e:=Jd h x hx;simp only[Prod.mk.injEq]at e;exact⟨_,e.1,e.2⟩
theorem UR{x f:Str}(h:vX K x f=(some (some (.builtin "object.__setattr__")),true,some none,true)):ExS K (ji K x) f:=by
 unfold vX at h;simp only[Prod.mk.injEq]at h;exact⟨h.1,h.2.1,h.2.2.1,h.2.2.2⟩
theorem BM{x q:Str}{st:Stmt}{fi:Addr}{a0 a1 a2 f1 f2:Str}{p1 p2 p3 p4 q1 q2 q3 q4:Pos}(ns:W.nsIn K mainGlobals x=some (some (.ref (ji K x))))(exi:ya K (ji K x) ZL "ValueError.__new__" fi=true)(kp:W.keepIn K (.ref (ji K x))=true)(hf:W.findIn K (.ref (ji K x)) "__init__" = some (some (.ref fi)))
  (a:UQ K (ji K x) "__init__" q st) (c1:vX K x f1=(some (some (.builtin "object.__setattr__")),true,some none,true)) (c2:vX K x f2=(some (some (.builtin "object.__setattr__")),true,some none,true)) (hn:(f1==f2)=false) (hb:defBody st=[.Assign [.Attribute (.Name a0 p1) f1 p2] (.Name a1 p3) p4,.Assign [.Attribute (.Name a0 q1) f2 q2] (.Name a2 q3) q4]) (S:wn ([a0,a1,a2]++[]) [a0,a1,a2] (defScope st)=true)
  (v:(zE (defScope st) a0&&zE (defScope st) a1&&zE (defScope st) a2)=true) (d:([a0,a1,a2].all fun y=>!(y==("__debug__" : Str))&&!(y==("__classdict__" : Str)))=true) (b:Bd "__init__" q st [a0,a1,a2]):vd P w K mg base (·<=2) x [f1,f2]:=by
 obtain⟨f,fd,e1,e2,F⟩:=a;rw[hf]at e1;cases e1;have SS:FnScope ([a0,a1,a2]++[]) [a0,a1,a2] (defScope st):=Ye S;obtain⟨v,v2⟩:=j8 v;obtain⟨v0,v1⟩:=j8 v;simp only[List.all_cons,List.all_nil,Bool.and_true,Bool.and_eq_true,Bool.not_eq_true']at d;obtain⟨⟨d0,y0⟩,⟨d1,y1⟩,⟨d2,y2⟩⟩:=d;exact⟨_,fi,fd,_,1,ns,exi,kp,beq_iff_eq.mp e2,CQ (k:=0) F SS hb (UR c1) (UR c2) (fun z=>by rw[z]at hn;simp at hn) (zm v0) (zm v1) (zm v2) d0 d1 d2 y0 y1 y2,(show 2<=1000 by decide),rfl,F.binds b,wPa _⟩
end
section
variable {P:Program} {w:World} {K:uXa} {mg:Str->Option Value} {base:Heap}
theorem wq{x q:Str}{st:Stmt}{fi:Addr}{a0 a1 f1:Str}{p1 p2 p3 p4:Pos}(ns:W.nsIn K mainGlobals x=some (some (.ref (ji K x))))(exi:ya K (ji K x) ZL "ValueError.__new__" fi=true)(kp:W.keepIn K (.ref (ji K x))=true)(hf:W.findIn K (.ref (ji K x)) "__init__" = some (some (.ref fi)))
  (a:UQ K (ji K x) "__init__" q st) (c1:vX K x f1=(some (some (.builtin "object.__setattr__")),true,some none,true)) (hb:defBody st=[.Assign [.Attribute (.Name a0 p1) f1 p2] (.Name a1 p3) p4]) (S:wn ([a0,a1]++[]) [a0,a1] (defScope st)=true)
  (v:(zE (defScope st) a0&&zE (defScope st) a1)=true) (d:([a0,a1].all fun y=>!(y==("__debug__" : Str))&&!(y==("__classdict__" : Str)))=true) (b:Bd "__init__" q st [a0,a1]):vd P w K mg base (·<=2) x [f1]:=by
 obtain⟨f,fd,e1,e2,F⟩:=a;rw[hf]at e1;cases e1;have SS:FnScope ([a0,a1]++[]) [a0,a1] (defScope st):=Ye S;obtain⟨v0,v1⟩:=j8 v;simp only[List.all_cons,List.all_nil,Bool.and_true,Bool.and_eq_true,Bool.not_eq_true']at d;obtain⟨⟨d0,y0⟩,⟨d1,y1⟩⟩:=d;exact⟨_,fi,fd,_,1,ns,exi,kp,beq_iff_eq.mp e2,CS (k:=0) F SS hb (UR c1) (zm v0) (zm v1) d0 d1 y0 y1,(show 1<=1000 by decide),rfl,F.binds b,wPa _⟩
end
def Df.out(T:Tb)(d:Df):Option DS.DS:=cond d.xm (yw T d.de) (yb T d.de d.kF)
def Df.fill(T:Tb)(d:Df):Df:={ d with b:=(d.out T).getD j_ }
def Tb.addsF:Tb->Nat->List Df->Tb
 | T,_,[]=>T
 | T,n,d::l=>(T.add n (d.fill T)).addsF (n+2) l
def Tb.chkF:Tb->Nat->List Df->List Bool
 | _,_,[]=>[]
 | T,n,d::l=>((d.out T).isSome&&(Gk d.st&&(d.ks.length==(YU d.st).length&&((!d.m||d.ks==[false])&&!(d.m&&d.xm)))))::(T.add n (d.fill T)).chkF (n+2) l
theorem zI{α:Type}{o:Option α}{d:α}(h:o.isSome=true):o=some (o.getD d):=by
 cases o with
 | none=>cases h
 | some x=>rfl
section
variable {P:Program} {w:World} {K:Fr} {mg:Str->Option Value} {base:Heap} {n:Nat} {T:Tb} {d:De} {f:Addr} {fd:FuncData} {x:Str}
theorem ET{T:Tb}{n:Nat}{d:Df}:(T.add n d).C=T.C:=by unfold Tb.add;cases d.xm <;> cases d.m <;> rfl
theorem TOk.addsF(XG:∀x v,W.nsIn K mainGlobals x=some (some v)->mg x=some v):∀(l:List Df) {n:Nat} {T:Tb},TOk P w K mg base n T->T.chkF n l=l.map (fun _=>true)->l.map (JU K T.C)=l.map (JV K)->TOk P w K mg base (n+2 * l.length) (T.addsF n l)
 | [],n,T,h,_,_=>h
 | d::l,n,T,h,c,a=>by
  obtain⟨c1,c2⟩:=List.cons.inj c;obtain⟨a1,a2⟩:=List.cons.inj a;obtain⟨c3,c4⟩:=j8 c1;have e:n+2 * (d::l).length=n+2+2 * l.length:=by rw[vXa];lia
  have h':TOk P w K mg base (n+2 * 1) (T.adds n [d.fill T]):=TOk.adds XG [d.fill T] h (by
   show [_]=[_]
   refine congrArg (fun z=>[z]) (Prod.ext ?_ c4);exact zI c3) (congrArg (fun z=>[z]) a1)
  rw[e];exact TOk.addsF XG l h' c2 (by rw[ET];exact a2)
theorem eK{ks:List Bool}{b:DS.DS}(h:TOk P w K mg base n T)(F:Fun K d.x d.q d.st f fd)(c:yw T d=some b)(hk:ks.length+1=d.ps.length):FnOk P w K mg base (J3 P w) (n+1) f fd d.ps (zQ K ks (Ga ks d.lo.length b)):=
 d9 F (Ye (j9 c).1) hk (by simp) fun cdv A outer s H E hr=>UP h c hr
structure Dh where
 d:Df
 k:Bool
def Dh.gi(T:Tb)(n:Nat)(d:Dh):GI:=cond d.k (.fH (n+1) d.d.de.ps d.d.ks (Ga d.d.ks d.d.de.lo.length ((yw T d.d.de).getD j_))) (.fX (n+1) d.d.de.ps d.d.ks.tail (Q2 d.d.ks d.d.de.lo.length ((yw T d.d.de).getD j_)))
noncomputable def Tb.addsH:Tb->Nat->List Dh->Tb
 | T,_,[]=>T
 | T,n,d::l=>(T.ah (sN d.d.st) (d.gi T n)).addsH (n+2) l
def Tb.chkH:Tb->Nat->List Dh->List Bool
 | _,_,[]=>[]
 | T,n,d::l=>((yw T d.d.de).isSome&&(Gk d.d.st&&(d.d.m&&cond d.k (d.d.ks.length+1==(YU d.d.st).length) (d.d.ks.length==(YU d.d.st).length&&d.d.ks==false::d.d.ks.tail))))::(T.ah (sN d.d.st) (d.gi T n)).chkH (n+2) l
theorem TOk.addsH:∀(l:List Dh) {n:Nat} {T:Tb},TOk P w K mg base n T->T.chkH n l=l.map (fun _=>true)->l.map (fun d=>JU K T.hC d.d)=l.map (fun d=>JV K d.d)->TOk P w K mg base (n+2 * l.length) (T.addsH n l)
 | [],n,T,h,_,_=>h
 | d::l,n,T,h,c,a=>by
  obtain⟨c1,c2⟩:=List.cons.inj c;obtain⟨a1,a2⟩:=List.cons.inj a;obtain⟨c3,c4⟩:=j8 c1;obtain⟨c4,c5⟩:=j8 c4;obtain⟨c5,c6⟩:=j8 c5;have e:n+2 * (d::l).length=n+2+2 * l.length:=by rw[vXa];lia
  have c3:=zI (d:=j_) c3;obtain⟨f,fd,b1,b2,F⟩:=yY a1 c5;have h':TOk P w K mg base (n+2) (T.ah (sN d.d.st) (d.gi T n)):=by
   refine h.ah (vKa _ _) ?_;unfold Dh.gi;cases hk:d.k
   ·rw[hk]at c6;obtain⟨c6,c7⟩:=j8 c6;have e7:d.d.ks=false::d.d.ks.tail:=vLa c7;refine⟨⟨f,fd,?_,F.binds (JH c4),⟨b1,b2,F.kp⟩⟩,vMa _⟩;rw[<-e7];exact eI (d:={ d.d.de with b:=(yw T d.d.de).getD j_ }) h F c3 (vLa c6)
   ·rw[hk]at c6;exact⟨⟨f,fd,eK (d:=d.d.de) h F c3 (vLa c6),F.binds (JH c4),⟨b1,b2,F.kp⟩⟩,vMa _⟩
  rw[e];exact TOk.addsH l h' c2 a2
variable (XG:∀x v,W.nsIn K mainGlobals x=some (some v)->mg x=some v)
include XG
theorem TOk.hI{d:Df}{ks:List Bool}{C:Addr}(h:TOk P w K mg base n T){T':Tb}(h':TOk P w K mg base n T')(a:JU K C d=JV K d)(hx:sN d.st = "__init__")(c:((yw T' d.de).isSome&&(Gk d.st&&(d.m&&(ks.length+1==(YU d.st).length))))=true)(mk:W.makesIn K C=true)(kc:W.keepIn K (.ref C)=true)(aC:W.nsIn K mainGlobals x=some (some (.ref C))):
  TOk P w K mg base (n+2) (T.ah x (.mH (n+1) d.de.ps ks C (Ga ks d.de.lo.length ((yw T' d.de).getD j_)))):=by
 obtain⟨c3,c4⟩:=j8 c;obtain⟨c4,c5⟩:=j8 c4;obtain⟨c5,c6⟩:=j8 c5;obtain⟨f,fd,b1,b2,F⟩:=yY a c5;refine h.ah (vKa _ _) ⟨⟨f,fd,eK (d:=d.de) h' F (zI c3) (vLa c6),F.binds (JH c4),⟨mk,?_,b2,kc⟩,XG _ _ aC⟩,wPa _⟩;rw[hx]at b1;exact b1
noncomputable def Tb.sw(T:Tb):Tb:={ T with hC:=T.C,hfl:=T.fl,hls:=[],hm:=[],fl:=[] }
omit XG in
theorem TOk.sw(h:TOk P w K mg base n T):TOk P w K mg base n T.sw:=
 ⟨h.gs,h.ms,h.cl,(fun f hf=>by cases hf),h.xt,h.xp,h.xq,h.cl,(fun f hf=>hf.elim (h.fl f) fun z=>by cases z),fun p hp=>by cases hp⟩
theorem TOk.R2{d1 d2:De}(h:TOk P w K mg base n T)(a1:At K d1.x d1.q d1.st)(a2:At K d2.x d2.q d2.st)(F1 F2:Nat->List D->Option D)(B1 B2:(List D->Option D)->DS.DS)(m:Nat)(F0:∀ds,F1 0 ds=none)(FS:∀m,F1 (m+1)=Y6 d1.ks d1.lo.length (B1 (F2 m)))(G:∀m,F2 m=Y6 d2.ks d2.lo.length (B2 (F1 m)))
  (c2:∀m,yb (T.ag d1.x (.fE (n+2 * m) d1.ps d1.ks (F1 m))) d2 false=some (B2 (F1 m))) (c1:∀m,yb (T.ag d2.x (.fE (n+2 * m+1) d2.ps d2.ks (F2 m))) d1 false=some (B1 (F2 m)))
  (k1:(d1.ks.length==d1.ps.length)=true) (b1:Bd d1.x d1.q d1.st d1.ps) (k2:(d2.ks.length==d2.ps.length)=true) (b2:Bd d2.x d2.q d2.st d2.ps):TOk P w K mg base (n+2 * m) (T.ag d1.x (.fE (n+2 * m) d1.ps d1.ks (F1 m))):=by
 obtain⟨f1,fd1,e1,Fu1⟩:=a1;obtain⟨f2,fd2,e2,Fu2⟩:=a2;have all:∀m,FnOk P w K mg base Jx (n+2 * m) f1 fd1 d1.ps (Y5 K d1.ks (F1 m)):=by
  intro m;induction m with
  | zero=>
   have no:∀vs H Q E,¬Y5 K d1.ks (F1 0) vs H Q E:=fun vs H Q E h=>by
    obtain⟨O,ds,d,_,_,h1,_⟩:=h;rw[F0]at h1;cases h1
   exact⟨fun vs H Q E h=>vDa h (no vs H Q E),fun A outer s H args us vs Q E _ _ _ _ h=>vDa h (no vs H Q E)⟩
  | succ m ih=>
   have h':TOk P w K mg base (n+2 * m) (T.ag d1.x (.fE (n+2 * m) d1.ps d1.ks (F1 m))):=h.ag (vKa _ _) ⟨⟨f1,fd1,ih,Fu1.binds b1,Fu1.kp,XG _ _ e1⟩,wPa _⟩;have ih2:FnOk P w K mg base Jx (n+2 * m+1) f2 fd2 d2.ps (Y5 K d2.ks (F2 m)):=by
    rw[G];exact Gj (d:={ d2 with b:=B2 (F1 m) }) h' Fu2 (c2 m) (vLa k2)
   have h2:TOk P w K mg base (n+2 * m+1) (T.ag d2.x (.fE (n+2 * m+1) d2.ps d2.ks (F2 m))):=h.ag (by lia) ⟨⟨f2,fd2,ih2,Fu2.binds b2,Fu2.kp,XG _ _ e2⟩,wPa _⟩;rw[FS];exact Gj (d:={ d1 with b:=B1 (F2 m) }) h2 Fu1 (c1 m) (vLa k1)
 exact h.ag (vKa _ _) ⟨⟨f1,fd1,all m,Fu1.binds b1,Fu1.kp,XG _ _ e1⟩,wPa _⟩
end
end CP
namespace DS
open PySem L2
theorem US(I:Nat->jb->Prop)(h:∀i d Z,items[i]?=some d->I i Z->∃Z1 Z2,g d Z=some Z1/\s Z1=some (.nx Z2)/\I (i+1) Z2):∀{Z:jb},I 0 Z->∃Z',YJ g s items Z=some (.nx Z')/\I items.length Z':=by
 induction items generalizing I with
 | nil=>intro Z h0;exact⟨Z,rfl,h0⟩
 | cons d ds ih=>
  intro Z h0;obtain⟨Z1,Z2,e1,e2,i2⟩:=h 0 d Z rfl h0;obtain⟨Z',e3,i3⟩:=ih (fun i=>I (i+1)) (fun i d' Z hd hi=>h (i+1) d' Z (by simpa using hd) hi) i2;exact⟨Z',by rw[YJ,e1];show(s Z1).bind _=_;rw[e2];exact e3,i3⟩
theorem Yy(em:α->D)(f:α->D):∀{xs:List α},(∀x∈xs,∃Z1,g (em x) Z=some Z1/\dc Z1=some true/\de Z1=some (f x))->yp g dc de (xs.map em) Z=some (xs.map f)
 | [],_=>rfl
 | x::xs,h=>by
  obtain⟨Z1,e1,e2,e3⟩:=h x wNa;have ih:=Yy em f (xs:=xs) fun y hy=>h y (wMa _ hy);simp[yp,e1,e2,e3,ih]
theorem wr(I:jb->Prop)(m:jb->Nat)(h:∀Z,I Z->dt Z=some false \/ (dt Z=some true/\∃Z2,s Z=some (.nx Z2)/\I Z2/\m Z2 < m Z)):∀{n:Nat} {Z:jb},I Z->m Z < n->∃Z',ZG dt s n Z=some (.nx Z')/\I Z'/\dt Z'=some false
 | 0,Z,_,hn=>vDa hn (Nat.not_lt_zero _)
 | n+1,Z,hi,hn=>by
  rcases h Z hi with e | ⟨e,Z2,e2,i2,hm⟩
  ·exact⟨Z,by simp[ZG,e],hi,e⟩
  ·obtain⟨Z',e3,i3,f3⟩:=wr I m h (n:=n) i2 (by omega);exact⟨Z',by simp[ZG,e,e2,e3],i3,f3⟩
noncomputable def t3(t:T3):D:=.tup [.int t.1,.int t.2.1,.int t.2.2]
structure Bk where
 size:Int
 kinds:List T3
 shuns:List T3
 bars:List T3
 dues:List T3
structure Sd where
 place:Int
 kind:Int
 len:Int
 before:Int
 waits:List Int
 met:List Bool
theorem YN(h:n<=10000):n < sizeLine:=Nat.lt_of_le_of_lt h (by decide)
noncomputable def fK(t:T3):Bool:=decide (1<=t.1)&&(decide (t.1<=t.2.1)&&(decide (t.2.1<=4)&&(decide (0<=t.2.2)&&decide (t.2.2<=4))))
noncomputable def fS(m:Int)(t:T3):Bool:=decide (0<=t.1)&&(decide (t.1 < m)&&(decide (0<=t.2.1)&&(decide (t.2.1 < m)&&(decide (1<=t.2.2)&&decide (t.2.2<=2)))))
noncomputable def fB(m s:Int)(t:T3):Bool:=decide (0<=t.1)&&(decide (t.1 < m)&&(decide (1<=t.2.1)&&(decide (t.2.1<=t.2.2)&&decide (t.2.2<=s))))
noncomputable def fC(s k h b d:Int):Bool:=decide (1<=s)&&(decide (s<=30)&&(decide (1<=k)&&(decide (k<=4)&&(decide (h<=20)&&(decide (b<=12)&&decide (d<=3))))))
def fR(s:Int)(k h b d:List T3):Bool:=k.all fK&&(h.all (fS k.length)&&(b++d).all (fB k.length s))
def UT(b:Bk):Bool:=fC b.size b.kinds.length b.shuns.length b.bars.length b.dues.length&&fR b.size b.kinds b.shuns b.bars b.dues
noncomputable def UU(C:Addr)(b:Bk):OD:=.ins C ["size", "kind_rows", "shun_rows", "bar_rows", "due_rows"] [.int b.size,.tup (b.kinds.map t3),.tup (b.shuns.map t3),.tup (b.bars.map t3),.tup (b.dues.map t3)]
noncomputable def eL:D->Option T3
 | .tup [.int x,.int y,.int z]=>some (x,y,z)
 | _=>none
def k_:List D->Option (List T3)
 | []=>some []
 | d::l=>(eL d).bind fun t=>(k_ l).bind fun ts=>some (t::ts)
theorem BN(h:eL d=some t):d=t3 t:=by
 cases d with
 | tup l=>
  rcases l with _ | ⟨a,_ | ⟨b,_ | ⟨c,_ | ⟨e,r⟩⟩⟩⟩ <;> try cases h
  all_goals (cases a <;> try cases h)
  all_goals (cases b <;> try cases h)
  all_goals (cases c <;> try cases h)
  rfl
 | _=>cases h
theorem Go:∀{l:List D} {ts:List T3},k_ l=some ts->l=ts.map t3
 | [],_,h=>by cases h;rfl
 | d::l,ts,h=>by
  rw[k_]at h;obtain⟨t,e1,h⟩:=j0 h;obtain⟨r,e2,h⟩:=j0 h;cases h;rw[vWa,<-BN e1,<-Go e2]
noncomputable def gI:D->Option Int
 | .int s=>some s
 | _=>none
def gL:D->Option (List T3)
 | .lst l=>k_ l
 | _=>none
theorem dX(h:gI d=some s):d=.int s:=by
 cases d <;> cases h;rfl
theorem um(h:gL d=some ts):d=.lst (ts.map t3):=by
 cases d with
 | lst l=>rw[Go h]
 | _=>cases h
def Gp(C:Addr):List D->Option OD
 | [s,k,h,b,d]=>(gI s).bind fun s=>(gL k).bind fun k'=>(gL h).bind fun h'=>(gL b).bind fun b'=>(gL d).bind fun d'=>if UT ⟨s,k',h',b',d'⟩=true then some (UU C ⟨s,k',h',b',d'⟩)else none
 | _=>none
theorem BO(h:Gp C ds=some o):∃b:Bk,UT b=true/\ds=[.int b.size,.lst (b.kinds.map t3),.lst (b.shuns.map t3),.lst (b.bars.map t3),.lst (b.dues.map t3)]/\UU C b=o:=by
 rcases ds with _ | ⟨s,_ | ⟨k,_ | ⟨hh,_ | ⟨b,_ | ⟨d,_ | ⟨e,r⟩⟩⟩⟩⟩⟩ <;> try cases h
 have h:((gI s).bind fun s=>(gL k).bind fun k'=>(gL hh).bind fun h'=>(gL b).bind fun b'=>(gL d).bind fun d'=>if UT ⟨s,k',h',b',d'⟩=true then some (UU C ⟨s,k',h',b',d'⟩)else none)=some o:=h;obtain⟨s0,e0,h⟩:=j0 h;obtain⟨k',e1,h⟩:=j0 h;obtain⟨h',e2,h⟩:=j0 h;obtain⟨b',e3,h⟩:=j0 h;obtain⟨d',e4,h⟩:=j0 h;by_cases ok:UT ⟨s0,k',h',b',d'⟩=true
 ·rw[if_pos ok]at h;rw[dX e0,um e1,um e2,um e3,um e4];exact⟨_,ok,rfl,vFa h⟩
 ·rw[if_neg ok]at h;cases h
@[simp] theorem Fb(t:T3):zM (t3 t) (.int 0)=some (.int t.1):=rfl
@[simp] theorem Fc(t:T3):zM (t3 t) (.int 1)=some (.int t.2.1):=rfl
@[simp] theorem Fd(t:T3):zM (t3 t) (.int 2)=some (.int t.2.2):=rfl
@[simp] theorem Fe(t:T3):Z5 (t3 t)=false:=rfl
end DS
namespace M
open DS
@[simp high] theorem Fq(a:Sl)(l:jb):(a::l)[0]?=some a:=rfl
@[simp high] theorem Fs(a x:Sl)(l:jb):List.set (a::l) 0 x=x::l:=rfl
@[elab_as_elim] theorem Ff{α:Type}{motive:List α->Prop}(us:List α)(hl:us.length=0)(h:motive []):motive us:=by
 cases us with
 | nil=>exact h 
 | cons y us=>simp at hl
@[elab_as_elim] theorem Fg{α:Type}{motive:List α->Prop}(us:List α)(hl:us.length=1)(h:∀x0,motive [x0]):motive us:=by
 cases us with
 | nil=>simp at hl
 | cons x0 us=>
  cases us with
  | nil=>exact h x0
  | cons y us=>simp at hl
@[elab_as_elim] theorem Fh{α:Type}{motive:List α->Prop}(us:List α)(hl:us.length=2)(h:∀x0 x1,motive [x0,x1]):motive us:=by
 cases us with
 | nil=>simp at hl
 | cons x0 us=>
  cases us with
  | nil=>simp at hl
  | cons x1 us=>
   cases us with
   | nil=>exact h x0 x1
   | cons y us=>simp at hl
@[elab_as_elim] theorem Fi{α:Type}{motive:List α->Prop}(us:List α)(hl:us.length=3)(h:∀x0 x1 x2,motive [x0,x1,x2]):motive us:=by
 cases us with
 | nil=>simp at hl
 | cons x0 us=>
  cases us with
  | nil=>simp at hl
  | cons x1 us=>
   cases us with
   | nil=>simp at hl
   | cons x2 us=>
    cases us with
    | nil=>exact h x0 x1 x2
    | cons y us=>simp at hl
@[elab_as_elim] theorem Fj{α:Type}{motive:List α->Prop}(us:List α)(hl:us.length=4)(h:∀x0 x1 x2 x3,motive [x0,x1,x2,x3]):motive us:=by
 cases us with
 | nil=>simp at hl
 | cons x0 us=>
  cases us with
  | nil=>simp at hl
  | cons x1 us=>
   cases us with
   | nil=>simp at hl
   | cons x2 us=>
    cases us with
    | nil=>simp at hl
    | cons x3 us=>
     cases us with
     | nil=>exact h x0 x1 x2 x3
     | cons y us=>simp at hl
@[elab_as_elim] theorem Fk{α:Type}{motive:List α->Prop}(us:List α)(hl:us.length=5)(h:∀x0 x1 x2 x3 x4,motive [x0,x1,x2,x3,x4]):motive us:=by
 cases us with
 | nil=>simp at hl
 | cons x0 us=>
  cases us with
  | nil=>simp at hl
  | cons x1 us=>
   cases us with
   | nil=>simp at hl
   | cons x2 us=>
    cases us with
    | nil=>simp at hl
    | cons x3 us=>
     cases us with
     | nil=>simp at hl
     | cons x4 us=>
      cases us with
      | nil=>exact h x0 x1 x2 x3 x4
      | cons y us=>simp at hl
@[elab_as_elim] theorem Fm{α:Type}{motive:List α->Prop}(us:List α)(hl:us.length=6)(h:∀x0 x1 x2 x3 x4 x5,motive [x0,x1,x2,x3,x4,x5]):motive us:=by
 cases us with
 | nil=>simp at hl
 | cons x0 us=>
  cases us with
  | nil=>simp at hl
  | cons x1 us=>
   cases us with
   | nil=>simp at hl
   | cons x2 us=>
    cases us with
    | nil=>simp at hl
    | cons x3 us=>
     cases us with
     | nil=>simp at hl
     | cons x4 us=>
      cases us with
      | nil=>simp at hl
      | cons x5 us=>
       cases us with
       | nil=>exact h x0 x1 x2 x3 x4 x5
       | cons y us=>simp at hl
@[elab_as_elim] theorem Fo{α:Type}{motive:List α->Prop}(us:List α)(hl:us.length=7)(h:∀x0 x1 x2 x3 x4 x5 x6,motive [x0,x1,x2,x3,x4,x5,x6]):motive us:=by
 cases us with
 | nil=>simp at hl
 | cons x0 us=>
  cases us with
  | nil=>simp at hl
  | cons x1 us=>
   cases us with
   | nil=>simp at hl
   | cons x2 us=>
    cases us with
    | nil=>simp at hl
    | cons x3 us=>
     cases us with
     | nil=>simp at hl
     | cons x4 us=>
      cases us with
      | nil=>simp at hl
      | cons x5 us=>
       cases us with
       | nil=>simp at hl
       | cons x6 us=>
        cases us with
        | nil=>exact h x0 x1 x2 x3 x4 x5 x6
        | cons y us=>simp at hl
end M
noncomputable section
namespace M
open PySem L2 DS
def ye:DS.DG:=(gN 6)
def Jl(C:Addr):DS.DS:=(JR (yx (d2 aP (dV 5) (dK (.int 0)))) (jF (Zs 2 (d2 YQ (dV 5) (dK (.int 1009))))
 (yd 5 (d2 GQ (dV 5) (dK (.int 1009))))) jq)
def JI:DS.DG:=(gN 4)
def JJ(C:Addr):DS.DS:=(jF (yd 3 (d2 YQ (d2 zx (d2 zx (d2 Z_ (dV 3) (dK (.int 48271))) (d2 YQ (dV 4) (dK (.int 1000003)))) (dK (.int 11))) (dK (.int 2147483647))))
 (jF (yd 5 (d2 wY (dV 4) (d2 wZ (dK (.int 10)) (dK (.int 18)))))
 (jF (JR (yx (d2 uQ (dV 5) (dK (.int 0)))) (Zs 2 (d2 YQ (dV 4) (dK (.int 9973)))) jq)
 (U4 (GX (dK (.int 60))) ye (Jl C)))))
def Jm(C:Addr):DS.DT:=(yx (d2 uQ (jD yc [(false,(dV 2))]) (dV 1)))
def yf(C:Addr):DS.DS:=(jF (yd 3 (d2 YQ (d2 zx (d2 zx (d2 zx (d2 Z_ (dV 3) (dV 3)) (d2 Z_ (dK (.int 69621)) (dV 3))) (d2 Z_ (dK (.int 7)) (jD yc [(false,(dV 2))]))) (dK (.int 5))) (dK (.int 2147483629))))
 (Zs 2 (d2 YQ (d2 GQ (dV 3) (dK (.int 1013))) (dK (.int 9973)))))
def yG(C:Addr):DS.DS:=(jF (ZX 2 (ZS []))
 (jF (yd 3 (dK (.int 29)))
 (jF (U4 (YH (dL (ud (dV 0) (fun _=>some none) (fun Z=>((dK (.int 63)) Z).bind uU)))) JI (JJ C))
 (jF (ZG (Jm C) (yf C) 20000)
 (k8 (ud (dV 2) (fun _=>some none) (fun Z=>((dV 1) Z).bind uU)))))))
def yH(C:Addr):List D->Option OD:=qV [false,false] 5 (yG C)
def Y1(C:Addr):DS.DS:=(jF (JR (V6 (YF (yx (JN J_ J_ (dK (.int 1)) (dV 0) (dK (.int 30))))) (YF (yx (JN J_ J_ (dK (.int 1)) (jD yc [(false,(dV 1))]) (dK (.int 4)))))) (Je (dK (.bl false))) jq)
 (Je (yj (d2 J_ (jD yc [(false,(dV 2))]) (dK (.int 20))) (yj (d2 J_ (jD yc [(false,(dV 3))]) (dK (.int 12))) (d2 J_ (jD yc [(false,(dV 4))]) (dK (.int 3)))))))
def Y2(C:Addr):List D->Option D:=Y6 [false,false,false,false,false] 0 (Y1 C)
def YV(C:Addr):DS.DS:=(jF (JR (yx (d2 ZH (jD yc [(false,(dV 0))]) (dK (.int 3)))) (Je (dK (.bl false))) jq)
 (jF (u_ (dC 0) (gT 3 (gC (gN 1) (gC (gN 2) (gC (gN 3) gZ)))))
 (Je (yj (Zr J_ J_ J_ (dK (.int 1)) (dV 1) (dV 2) (dK (.int 4))) (JN J_ J_ (dK (.int 0)) (dV 3) (dK (.int 4)))))))
def yP(C:Addr):List D->Option D:=Y6 [true] 3 (YV C)
def YW(C:Addr):DS.DS:=(jF (JR (yx (d2 ZH (jD yc [(false,(dV 0))]) (dK (.int 3)))) (Je (dK (.bl false))) jq)
 (jF (u_ (dC 0) (gT 3 (gC (gN 2) (gC (gN 3) (gC (gN 4) gZ)))))
 (Je (yj (JN J_ uQ (dK (.int 0)) (dV 2) (dV 1)) (yj (JN J_ uQ (dK (.int 0)) (dV 3) (dV 1)) (JN J_ J_ (dK (.int 1)) (dV 4) (dK (.int 2))))))))
def yQ(C:Addr):List D->Option D:=Y6 [true,false] 3 (YW C)
def YX(C:Addr):DS.DS:=(jF (JR (yx (d2 ZH (jD yc [(false,(dV 0))]) (dK (.int 3)))) (Je (dK (.bl false))) jq)
 (jF (u_ (dC 0) (gT 3 (gC (gN 3) (gC (gN 4) (gC (gN 5) gZ)))))
 (Je (yj (JN J_ uQ (dK (.int 0)) (dV 3) (dV 1)) (Zr J_ J_ J_ (dK (.int 1)) (dV 4) (dV 5) (dV 2))))))
def yR(C:Addr):List D->Option D:=Y6 [true,false,false] 3 (YX C)
def YY(C:Addr):DS.DS:=(jF (yd 5 (jD yc [(false,(dV 1))]))
 (jF (JR (YF (y_ (jD ZU [(false,(dL (zN 1 [] (YH (dP 1)) (gN 0) yo (jD (yP C) [(true,(dC 0))]))))]))) (Je (dK (.bl false))) jq)
 (jF (JR (YF (y_ (jD ZU [(false,(dL (zN 1 [5] (YH (dP 2)) (gN 0) yo (jD (yQ C) [(true,(dC 0)),(false,(dV 1))]))))]))) (Je (dK (.bl false))) jq)
 (Je (jD ZU [(false,(dL (zN 1 [5,0] (YH (dL (Kr GS (dV 3) (dV 4)))) (gN 0) yo (jD (yR C) [(true,(dC 0)),(false,(dV 1)),(false,(dV 2))]))))])))))
def YZ(C:Addr):List D->Option D:=Y6 [false,false,false,false,false] 1 (YY C)
def JK(C:Addr):DS.DS:=(jF (JR (YF (y_ (jD (Y2 C) [(false,(dV 1)),(false,(dV 2)),(false,(dV 3)),(false,(dV 4)),(false,(dV 5))]))) j_ jq)
 (jF (JR (YF (y_ (jD (YZ C) [(false,(dV 1)),(false,(dV 2)),(false,(dV 3)),(false,(dV 4)),(false,(dV 5))]))) j_ jq)
 (jF (YL 0 C "size" (dC 1))
 (jF (YL 0 C "kind_rows" (jD Yn [(false,(dV 2))]))
 (jF (YL 0 C "shun_rows" (jD Yn [(false,(dV 3))]))
 (jF (YL 0 C "bar_rows" (jD Yn [(false,(dV 4))]))
 (YL 0 C "due_rows" (jD Yn [(false,(dV 5))]))))))))
def JA(C:Addr):Addr->List D->Option OD:=Ky C [true,false,false,false,false] 0 (JK C)
def jP(C:Addr):List D->Option OD:=DS.Gp C
def yS(C:Addr)(rec:List D->Option D):DS.DS:=(jF (JR (yx (d2 V5 (dV 1) (dK .non))) (Je (d2 V5 (dV 0) (dK .non))) jq)
 (jF (JR (y_ (d1 kE (dV 1))) (jF (JR (V6 (yx (d2 ZH (d1 (Y0 "list") (dV 0)) (d1 (Y0 "list") (dV 1)))) (yx (d2 ZH (d1 (Y0 "tuple") (dV 0)) (d1 (Y0 "tuple") (dV 1))))) (Je (dK (.bl false))) jq)
 (Je (yj (d2 Ua (jD yc [(false,(dV 0))]) (jD yc [(false,(dV 1))])) (jD ZU [(false,(dL (zN 2 [] (W5 (dP 0) (dP 1)) (gT 2 (gC (gN 0) (gC (gN 1) gZ))) yo (jD rec [(false,(dV 0)),(false,(dV 1))]))))])))) jq)
 (jF (JR (V6 (yx (d2 ZH (d1 (Y0 "bool") (dV 0)) (d1 (Y0 "bool") (dV 1)))) (yx (d2 ZH (d1 (Y0 "str") (dV 0)) (d1 (Y0 "str") (dV 1))))) (Je (dK (.bl false))) jq)
 (Je (yj (d2 Ua (d1 (Y0 "int") (dV 0)) (d1 (Y0 "int") (dV 1))) (d2 Ua (dV 0) (dV 1)))))))
def jV(C:Addr):Nat->List D->Option D
 | 0=>fun _=>none
 | n+1=>Y6 [false,false] 0 (yS C (jV C n))
noncomputable def eM(n r:Int):List (KD×Bool):=if n==2 then [(.t [.i 0,.i (-1),.i 0,.i (-1),.t [.i 0],.t []],false),(.t [.i 1,.i 0,.i 1,.i (-1),.t [.i 0],.t []],false)]else if r==0 then [(.t [.i 0,.i (-1),.i 0,.i (-1),.t [.i 0,.i 0],.t []],true),(.t [.i 1,.i 0,.i 1,.i (-1),.t [.i 0,.i 0],.t []],true),(.t [.i 1,.i 1,.i 1,.i (-1),.t [.i 0,.i 0],.t []],true),(.t [.i 2,.i 1,.i 1,.i 0,.t [.i 0,.i 0],.t []],true),(.t [.i 2,.i 0,.i 1,.i 1,.t [.i 0,.i 0],.t []],true),(.t [.i 3,.i 0,.i 1,.i 1,.t [.i 0,.i 0],.t []],true),(.t [.i 3,.i 1,.i 1,.i 0,.t [.i 0,.i 0],.t []],true)]else [(.t [.i 0,.i (-1),.i 0,.i (-1),.t [.i 0,.i 0],.t []],true),(.t [.i 1,.i 0,.i 1,.i (-1),.t [.i 0,.i 0],.t []],true),(.t [.i 1,.i 1,.i 1,.i (-1),.t [.i 0,.i 0],.t []],true),(.t [.i 2,.i 1,.i 1,.i 0,.t [.i 0,.i 0],.t []],true),(.t [.i 2,.i 0,.i 1,.i 1,.t [.i 0,.i 0],.t []],true),(.t [.i 3,.i 0,.i 1,.i 1,.t [.i 0,.i 0],.t []],true),(.t [.i 3,.i 1,.i 1,.i 0,.t [.i 0,.i 0],.t []],true)]
def F5:D->List (KD×Bool)
 | .ins _ _ (.int n::.tup ks::_)=>(match ks with
  | [_,.tup [_,_,.int r]]=>eM n r
  | _=>eM n 0)
 | _=>[]
end M
noncomputable section
namespace M
open PySem L2 DS CP
def dF(i f k:Nat)(ks:List Nat)(b:DS.DS)(hs:List ((Nat×Nat×Nat)×List Nat):=[])(sh:List (Nat×Nat):=[])(ow:List Nat:=[]):Df:=⟨top i,sN (top i),f,false,k==1,ks.map (Nat.beq 1),b,hs,sh,ow,k==2⟩
def dM(i j:Nat)(q:Str)(f k:Nat)(ks:List Nat)(b:DS.DS)(hs:List ((Nat×Nat×Nat)×List Nat):=[])(sh:List (Nat×Nat):=[])(ow:List Nat:=[]):Df:=⟨inClass (top i) j,q,f,true,k==1,ks.map (Nat.beq 1),b,hs,sh,ow,k==2⟩
noncomputable def xt:XT:=⟨["BadRules", "NoKind", "TooLong", "NoNumber", "NoSheet", "NotFull", "BadCosts", "NotFree", "Unlike", "BadBeat", "BadName", "Known", "NoName", "Many", "Whole", "SamePoet", "Stuck", "Turned", "NoPlace", "NothingLeft", "Broken", "Stranded", "BadRow"],[("VerseError",["BadRules", "NoKind", "TooLong", "NoNumber", "NoSheet", "NotFull", "BadCosts", "NotFree", "Unlike", "BadBeat", "BadName", "Known", "NoName", "Many", "Whole", "SamePoet", "Stuck", "Turned", "NoPlace", "NothingLeft", "Broken", "Stranded", "BadRow"],[])],[("Broken", "place"),("Broken", "word"),("Stranded", "name"),("BadRow", "at")],["BadRules", "NoKind", "TooLong", "NoNumber", "NoSheet", "NotFull", "BadCosts", "NotFree", "Unlike", "BadBeat", "BadName", "Known", "NoName", "Many", "Whole", "SamePoet", "Stuck", "Turned", "NoPlace", "NothingLeft"],[("Broken",["place", "word"]),("Stranded",["name"]),("BadRow",["at"])],true,[(["NoKind", "TooLong", "Broken"],["NoKind", "TooLong", "Broken"])]⟩
noncomputable def F7:List (Str×GI):=[("LEAST_BEAT",.con 2),("MOST_BEAT",.con 5),("MOST_SHEETS",.con 8),("MOST_LETTERS",.con 8),("NOTHING",.con 0),("NO_VERSE_MORE",.con 1),("LEAST_COST",.con 1),("MOST_COST",.con 9),("MOST_SIZE",.con 30),("MOST_KINDS",.con 4),("MOST_SHUNS",.con 20),("MOST_BARS",.con 12),("MOST_DUES",.con 3),("MOST_RUN",.con 4),("MOST_REST",.con 4),("MOST_FAR",.con 2),("MOST_FIGURES",.con 4),("ValueError",.blt),("all",.blt),("any",.blt)]
noncomputable def F8:List (Str×GI):=[("bool",.blt),("dict",.blt),("enumerate",.blt),("int",.blt),("isinstance",.blt),("len",.blt),("list",.blt),("max",.blt),("range",.blt),("reversed",.blt),("str",.blt),("sum",.blt),("tuple",.blt),("zip",.blt)]
def Zh:Tb:={ C:=979,gs:=F7++F8,ms:=[],fl:=["size", "kind_rows", "shun_rows", "bar_rows", "due_rows"],xt:=xt,hC:=773,hfl:=["opened", "now"],hls:=["done", "undone"],tb:=F5 }
def l1:List Df:=[dF 123 1022 1 [0,0] (yG 979) [] [] [2],
 dF 111 922 0 [0,0,0,0,0] (Y1 979),
 dF 108 901 0 [1] (YV 979),
 dF 109 908 0 [1,0] (YW 979),
 dF 110 915 0 [1,0,0] (YX 979),
 dF 112 927 0 [0,0,0,0,0] (YY 979) [((596,15,54),[5]),((598,54,65),[]),((598,15,66),[5,0])]]
def eN:Tb:=Zh.adds 2 l1
def Vp:Df:=dM 113 0 "Rules.__init__" 941 0 [1,0,0,0,0] (JK 979) [] [] [0]
def BP:Tb:=eN.ag "Rules" (.mk 15 Vp.de.ps Vp.de.ks (JA 979) (jP 979))
def l3:List Df:=[dM 113 5 "Rules.many" 976 0 [0] jq,
 dF 44 448 0 [0,0] jq,
 dF 45 453 0 [0,0] jq [((163,15,57),[0])],
 dF 46 460 2 [0,0] jq,
 dF 27 338 0 [0] jq,
 dF 32 371 0 [0,0,0] jq,
 dF 33 378 0 [0,0,0] jq,
 dF 34 385 0 [0,0,0] jq,
 dF 35 392 0 [0,0] jq,
 dF 36 399 0 [0,0,0] jq,
 dF 30 357 0 [0,0,0] jq [] [] [4],
 dF 37 406 0 [0,0,0] jq,
 dF 28 345 0 [0,0] jq,
 dF 38 413 0 [0,0,0] jq,
 dF 39 420 0 [0,0,0] jq,
 dF 29 350 0 [0,0,0] jq [] [] [4],
 dF 31 364 0 [0,0,1] jq,
 dF 47 467 0 [0,0] jq,
 dF 48 474 2 [0,0] jq,
 dF 50 488 2 [0,0] jq,
 dF 40 427 0 [0,0,1] jq,
 dF 41 434 1 [0,0] jq [] [] [2],
 dF 42 441 1 [0,1] jq [((153,12,23),[]),((154,31,42),[]),((155,16,29),[]),((157,16,28),[])] [(156,4)] [2,4,5],
 dF 52 493 1 [0,1] jq [((199,16,28),[]),((201,16,28),[]),((201,36,49),[]),((201,35,75),[2])] [] [2],
 dF 57 526 2 [0,0,0] jq [((233,25,38),[])] [(235,1000)],
 dF 49 481 0 [0,0] jq,
 dF 58 531 2 [0,0,0] jq [] [(240,1000)],
 dF 62 538 2 [0] jq,
 dF 65 557 2 [0,0,0] jq [] [(268,1000)],
 dF 93 863 2 [0,0,0] jq,
 dF 98 894 2 [0,0,0] jq [] [(556,1000)],
 dF 80 822 2 [0] jq [] [(462,1000)],
 dF 89 858 2 [0,0] jq [] [(508,1000)],
 dF 118 996 0 [0] jq [((635,25,46),[21]),((635,51,84),[21])] [(637,1000)],
 dF 121 1015 2 [0] jq [] [(660,1000)],
 dF 69 562 2 [0] jq [((276,16,25),[9]),((276,85,89),[9]),((276,54,72),[9])],
 dF 70 567 1 [0] jq]
def wt:Tb:=BP.addsF 16 l3
def zJ:Df:=dF 55 512 0 [0,0,1] jq [] [(221,1001)]
def Zi:Df:=dF 56 519 0 [0,0,1] jq
noncomputable def gF:Option GI->List D->Option OD
 | some (.fF _ _ _ F)=>F
 | _=>fun _=>none
def B1(F:List D->Option D):DS.DS:=jF (JR (yx (d2 Ua (d2 zM (dV 1) (dK (.int 0))) (d1 (uV 979 "size") (dV 0)))) (Je (dK (.bl true))) jq) (ui 1 2 3 (dL (zA (gF (wt.gs.lookup ("steps_from" : Str))) [(false,dV 0),(false,dV 1)])) (jD F [(false,dV 0),(false,dL (zN 2 [] (YH (dP 3)) (gT 2 (gC (gN 0) (gC (gN 1) gZ))) yo (dC 1))),(true,dC 2)]))
def B2(F:List D->Option D):DS.DS:=jF (U4 (YH (dP 1)) (gN 3) (JR (y_ (jD F [(false,dV 0),(false,dV 3),(true,dC 2)])) (Je (dK (.bl true))) jq)) (Je (dK (.bl false)))
def G1:Nat->List D->Option D
 | 0=>fun _=>none
 | m+1=>Y6 zJ.de.ks 1 (B1 (Y6 Zi.de.ks 1 (B2 (G1 m))))
def G2(m:Nat):List D->Option D:=Y6 Zi.de.ks 1 (B2 (G1 m))
def BQ:Tb:=wt.ag "can_be_ended" (.fE (90+2 * 5) zJ.de.ps zJ.de.ks (G1 5))
def l5:List Df:=[dF 71 574 0 [0,1,0] jq]
def Qx:Tb:=BQ.addsF 100 l5
def Vq:Df:=dM 113 0 "Rules.__init__" 941 2 [1,0,0,0,0] jq [] [] [0]
noncomputable def BR:List Bool:=[true,true,true,true,true]
def BS:Tb:=Qx.ah "Rules" (.mH 103 Vq.de.ps BR 979 (Ga BR Vq.de.lo.length ((yw Qx.sw Vq.de).getD j_)))
def l7:List Dh:=[⟨dM 72 1 "House.sheet" 595 2 [0,0] jq [((296,11,29),[7]),((298,15,27),[7])],false⟩,
 ⟨dM 72 3 "House.check_new" 609 2 [0,0] jq [((305,11,30),[7]),((307,11,27),[7])],false⟩,
 ⟨dM 72 4 "House.check_ends" 616 2 [0,0] jq,false⟩,
 ⟨dM 72 22 "House.turned" 742 2 [0,0] jq,false⟩,
 ⟨dM 72 5 "House.do" 623 2 [1,1] jq,true⟩,
 ⟨dM 72 6 "House.put" 630 2 [1,1,1,1] jq [((324,8,19),[7])] [(325,8)] [8],true⟩,
 ⟨dM 72 7 "House.begin" 637 2 [1] jq,true⟩,
 ⟨dM 72 8 "House.offer" 644 2 [1,1,1] jq,true⟩,
 ⟨dM 72 9 "House.take" 651 2 [1] jq [] [(347,1000)],true⟩,
 ⟨dM 72 10 "House.amend" 658 2 [1,1,1] jq [] [(353,1000)],true⟩,
 ⟨dM 72 11 "House.turn" 665 2 [1] jq,true⟩,
 ⟨dM 72 12 "House.fork" 672 2 [1,1] jq,true⟩,
 ⟨dM 72 14 "House.change" 686 2 [1] jq [((376,16,18),[8,1]),((377,37,51),[7])] [(380,1000)],true⟩,
 ⟨dM 72 15 "House.back" 693 2 [] jq [] [(385,1000)],true⟩]
def BU:Tb:=BS.addsH 104 l7
def Vr:Df:=dM 72 0 "House.__init__" 588 2 [1] jq [((290,27,29),[8,1]),((290,31,33),[7])]
def BV:Tb:=BU.ah "House" (.mH 133 Vr.de.ps [true] 773 (Ga [true] Vr.de.lo.length ((yw BU Vr.de).getD j_)))
def l9:List Df:=[dF 125 1034 2 [0,0,0] jq,
 dF 126 1041 2 [0,1,1] jq [((733,48,66),[9])],
 dF 127 1048 1 [0,1,1] jq [] [] [3]]
def Qy:Tb:=BV.addsF 134 l9
def jW:Df:=dF 124 1027 0 [0,0] jq
def VY:Tb:=Qy.ag "_law_same" (.fE (140+6) jW.de.ps jW.de.ks (jV 979 6))
def Jg:Df:=dF 128 1053 0 [0] jq [((766,16,53),[9]),((769,59,105),[4]),((769,59,114),[])]
def uo:List D->Option D:=Y6 [false] Jg.de.lo.length ((yb VY Jg.de false).getD j_)
def cd(l:List Stmt):DS.DS:=(cQ (rc 30) 30 (gm VY Jg.de false) l).getD j_
def tl(k:Nat):DS.DS:=cd ((defBody Jg.st).drop k)
def S3:DS.DS:=cd (((defBody Jg.st).drop 3).take 1)
def S0:DS.DS:=yd 1 (dL (zA (yH 979) [(false,dV 0),(false,dK (.int 8))]))
def S1:DS.DS:=yd 2 (kW (dK (.str "abcd")) (fun _=>some none) (fun Z=>((d2 zx (dK (.int 1)) (d2 YQ (d2 zM (dV 1) (dK (.int 0))) (dK (.int 4)))) Z).bind uU))
def S2:DS.DS:=yd 3 (dL (G_ (jP 979) [(true,dK (.int 3)),(false,dL (ZS [(true,GU [(true,dK (.int 1)),(true,dK (.int 1)),(true,dK (.int 0))]),(true,GU [(true,dK (.int 1)),(true,dK (.int 1)),(true,d2 YQ (d2 zM (dV 1) (dK (.int 1))) (dK (.int 2)))])])),(false,dL (ZS [])),(false,dL (ZS [])),(false,dL (ZS []))]))
theorem dY:(yb VY Jg.de false).getD j_=jF S0 (tl 1):=by kernel_rfl
theorem dZ:tl 1=jF S1 (tl 2):=by kernel_rfl
theorem d_:tl 2=jF S2 (tl 3):=by kernel_rfl
theorem D0:tl 3=jF S3 (tl 4):=by kernel_rfl
noncomputable def tr(a b c:Int):D:=.tup [.int a,.int b,.int c]
noncomputable def bk(r:Int):D:=.ins 979 ["size", "kind_rows", "shun_rows", "bar_rows", "due_rows"] [.int 3,.tup [tr 1 1 0,tr 1 1 r],.tup [],.tup [],.tup []]
end M
namespace M
open PySem L2 DS
theorem UV(C:Addr)(t:T3):yP C [t3 t]=some (.bl (fK t)):=by
 obtain⟨x,y,z⟩:=t;unfold fK;simp only[yP,YV,t3];by_cases h1:1<=x
 ·by_cases h2:x<=y
  ·by_cases h3:y<=4
   ·by_cases h4:0<=z <;> simp[h1,h2,h3,h4]
   ·simp[h1,h2,h3]
  ·simp[h1,h2]
 ·simp[h1]
theorem UW(C:Addr)(t:T3)(m:Int):yQ C [t3 t,.int m]=some (.bl (fS m t)):=by
 obtain⟨x,y,z⟩:=t;unfold fS;simp only[yQ,YW,t3];by_cases h1:0<=x
 ·by_cases h2:x < m
  ·by_cases h3:0<=y
   ·by_cases h4:y < m
    ·by_cases h5:1<=z <;> simp[h1,h2,h3,h4,h5]
    ·simp[h1,h2,h3,h4]
   ·simp[h1,h2,h3]
  ·simp[h1,h2]
 ·simp[h1]
theorem UX(C:Addr)(t:T3)(m s:Int):yR C [t3 t,.int m,.int s]=some (.bl (fB m s t)):=by
 obtain⟨x,y,z⟩:=t;unfold fB;simp only[yR,YX,t3];by_cases h1:0<=x
 ·by_cases h2:x < m
  ·by_cases h3:1<=y
   ·by_cases h4:y<=z <;> simp[h1,h2,h3,h4]
   ·simp[h1,h2,h3]
  ·simp[h1,h2]
 ·simp[h1]
theorem Vs(C:Addr)(s:Int)(k h b d:List D):Y2 C [.int s,.lst k,.lst h,.lst b,.lst d]=some (.bl (fC s k.length h.length b.length d.length)):=by
 unfold fC;simp only[Y2,Y1];by_cases h1:1<=s
 ·by_cases h2:s<=30
  ·by_cases h3:(1:Int)<=k.length
   ·by_cases h4:(k.length:Int)<=4
    ·by_cases h5:(h.length:Int)<=20
     ·by_cases h6:(b.length:Int)<=12 <;> simp[h1,h2,h3,h4,h5,h6]
     ·simp[h1,h2,h3,h4,h5]
    ·simp[h1,h2,h3,h4]
   ·simp[h1,h2,h3]
  ·simp[h1,h2]
 ·simp[h1]
theorem yI{α:Type}(f:α->Bool):∀l:List α,ZT (l.map fun x=>D.bl (f x))=some (l.map f)
 | []=>rfl
 | x::l=>by simp[yI f l]
theorem wu{α:Type}(f:α->Bool)(l m:List α):ZT (l.map (fun x=>D.bl (f x))++m.map fun x=>D.bl (f x))=some (l.map f++m.map f):=by rw[<-uDa,yI,uDa]
theorem vh{α:Type}(f:α->Bool)(l:List α):((l.map f).all id)=l.all f:=by
 induction l with
 | nil=>rfl
 | cons t ts ih=>simp only[List.map_cons,List.all_cons,ih,id]
theorem UY(C:Addr)(s:Int)(k h b d:List T3)(hk:k.length<=100)(hh:h.length<=100)(hb:b.length<=100)(hd:d.length<=100):YZ C [.int s,.lst (k.map t3),.lst (h.map t3),.lst (b.map t3),.lst (d.map t3)]=some (.bl (fR s k h b d)):=by
 have sz:∀n,n<=200->n<=sizeLine:=fun n hn=>wQa (YN (by lia));have c1:∀Z:jb,yp (gN 0) yo (jD (yP C) [(true,dC 0)]) (k.map t3) (.un::Z)=some (k.map fun t=>D.bl (fK t)):=fun Z=>Yy t3 _ fun t _=>⟨_,rfl,rfl,by simp[UV]⟩
 have c2:∀Z:jb,yp (gN 0) yo (jD (yQ C) [(true,dC 0),(false,dV 1)]) (h.map t3) (.un::.cl (.int k.length)::Z)=some (h.map fun t=>D.bl (fS k.length t)):=fun Z=>Yy t3 _ fun t _=>⟨_,rfl,rfl,by simp[UW]⟩
 have c3:∀Z:jb,yp (gN 0) yo (jD (yR C) [(true,dC 0),(false,dV 1),(false,dV 2)]) ((b++d).map t3) (.un::.cl (.int k.length)::.bo (.int s)::Z)=some ((b++d).map fun t=>D.bl (fB k.length s t)):=fun Z=>Yy t3 _ fun t _=>⟨_,rfl,rfl,by simp[UX]⟩
 rw[uDa]at c3;unfold fR;have e3:b.length+d.length<=sizeLine:=sz _ (by lia);simp only[YZ,YY];by_cases h1:k.all fK=true
 ·by_cases h2:h.all (fS k.length)=true
  ·simp[c1,c2,c3,yI,wu,vh,List.all_append,sz _ (Nat.le_trans hk (by decide:100<=200)),sz _ (Nat.le_trans hh (by decide:100<=200)),e3,h1,h2]
  ·simp[c1,c2,yI,vh,sz _ (Nat.le_trans hk (by decide:100<=200)),sz _ (Nat.le_trans hh (by decide:100<=200)),h1,h2]
 ·simp[c1,yI,vh,sz _ (Nat.le_trans hk (by decide:100<=200)),h1]
structure OkB (b:Bk):Prop where
 s1:1<=b.size
 s2:b.size<=30
 k1:1<=b.kinds.length
 k2:b.kinds.length<=4
 h2:b.shuns.length<=20
 b2:b.bars.length<=12
 d2:b.dues.length<=3
 ks:∀t∈b.kinds,fK t=true
 hs:∀t∈b.shuns,fS b.kinds.length t=true
 bs:∀t∈b.bars,fB b.kinds.length b.size t=true
 ds:∀t∈b.dues,fB b.kinds.length b.size t=true
theorem Gq{b:Bk}:UT b=true↔OkB b:=by
 unfold UT fC fR;simp only[Bool.and_eq_true,decide_eq_true_eq,List.all_eq_true,List.mem_append];constructor
 ·rintro⟨⟨a1,a2,a3,a4,a5,a6,a7⟩,b1,b2,b3⟩;exact⟨a1,a2,by lia,by lia,by lia,by lia,by lia,b1,b2,fun t h=>b3 t (.inl h),fun t h=>b3 t (.inr h)⟩
 ·intro h;exact⟨⟨h.s1,h.s2,by have:=h.k1;lia,by have:=h.k2;lia,by have:=h.h2;lia,by have:=h.b2;lia,by have:=h.d2;lia⟩,h.ks,h.hs,fun t ht=>ht.elim (h.bs t) (h.ds t)⟩
theorem Xr(C p:Addr)(b:Bk)(h:OkB b):JA C p [.int b.size,.lst (b.kinds.map t3),.lst (b.shuns.map t3),.lst (b.bars.map t3),.lst (b.dues.map t3)]=some (UU C b):=by
 have hb:=Gq.mpr h;unfold UT at hb;rw[Bool.and_eq_true]at hb;have e1:=Vs C b.size (b.kinds.map t3) (b.shuns.map t3) (b.bars.map t3) (b.dues.map t3);simp only[List.length_map]at e1;rw[hb.1]at e1;have e2:=UY C b.size b.kinds b.shuns b.bars b.dues (by have:=h.k2;lia) (by have:=h.h2;lia) (by have:=h.b2;lia) (by have:=h.d2;lia);rw[hb.2]at e2;have n1:("size" : Str)≠ "kind_rows" := by decide
 have n2:("size" : Str)≠ "shun_rows" := by decide
 have n3:("size" : Str)≠ "bar_rows" := by decide
 have n4:("size" : Str)≠ "due_rows" := by decide
 have n5:("kind_rows" : Str)≠ "shun_rows" := by decide
 have n6:("kind_rows" : Str)≠ "bar_rows" := by decide
 have n7:("kind_rows" : Str)≠ "due_rows" := by decide
 have n8:("shun_rows" : Str)≠ "bar_rows" := by decide
 have n9:("shun_rows" : Str)≠ "due_rows" := by decide
 have n0:("bar_rows" : Str)≠ "due_rows" := by decide
 simp only[JA,JK,UU];simp[e1,e2,n1,n2,n3,n4,n5,n6,n7,n8,n9,n0]
theorem ZB(C p:Addr)(ds:List D)(o:OD)(h:jP C ds=some o):JA C p ds=some o:=by
 obtain⟨b,ok,rfl,rfl⟩:=BO h;exact Xr C p b (Gq.mp ok)
theorem wv{a b:Int}(h:0 < b):0<=a % b/\a % b < b:=⟨Int.emod_nonneg _ (by lia),Int.emod_lt_of_pos _ h⟩
theorem UZ{α β:Type}(f:α->β)(xs:List α)(lo hi:Option Int):JT (xs.map f) lo hi=(JT xs lo hi).map f:=by
 unfold JT;rw[vYa,List.map_take,List.map_drop]
theorem U_{α:Type}(xs:List α)(lo hi:Option Int):(JT xs lo hi).length<=xs.length:=by
 unfold JT;rw[uOa,uNa]
 lia
theorem BW{α:Type}(xs:List α)(n:Nat):JT xs none (some (n:Int))=xs.take n:=by
 unfold JT;have e:HT.sIx xs.length 0 none=0:=rfl;rw[HT.sIx_nat,e,List.drop_zero,Nat.sub_zero];by_cases h:n<=xs.length
 ·rw[Nat.min_eq_left h]
 ·rw[Nat.min_eq_right (by lia),List.take_of_length_le (by lia),List.take_of_length_le (by lia)]
theorem vY{i j:Int}(h1:-(2 ^ 64) < i)(h2:i < 2 ^ 64):GP i j=true:=by
 have e:(2:Int) ^ 64=18446744073709551616:=by decide
 rw[e]at h1 h2;unfold GP;rw[Bool.or_eq_true,Nat.blt_eq];exact .inl (by lia)
theorem K0(C:Addr)(ns:List Int)(m:Int)(h63:ns.length<=63)(m0:0<=m)(m1:m<=1000):∃ms:List Int,yH C [.scr ns,.int m]=some (.lst (ms.map .int))/\(ms.length:Int)=m:=by
 have Zy:∀(v x seed:Int) (ms:List Int) (x6:Sl) (c:Nat),ms.length<=c->c<=5000->∃(ms':List Int) (v':Int) (x6':Sl),YJ ye (Jl C) (ZV 0 60) [.bo (.scr ns),.bo (.int m),.ow none (.lst (ms.map .int)),.cl (.int seed),.cl (.int x),.cl (.int v),x6]=some (.nx [.bo (.scr ns),.bo (.int m),.ow none (.lst (ms'.map .int)),.cl (.int seed),.cl (.int x),.cl (.int v'),x6'])/\ms'.length<=c+60:=by
  intro v x seed ms x6 c hc hc2;have L:=US (g:=ye) (s:=Jl C) (items:=ZV 0 60) (fun i Z=>∃(ms':List Int) (v':Int) (x6':Sl),Z=[.bo (.scr ns),.bo (.int m),.ow none (.lst (ms'.map .int)),.cl (.int seed),.cl (.int x),.cl (.int v'),x6']/\ms'.length<=c+i) ?_ ⟨ms,v,x6,rfl,hc⟩
  ·obtain⟨Z',L1,ms',v',x6',rfl,hl⟩:=L;exact⟨ms',v',x6',L1,hl⟩
  ·rintro i d Z hi ⟨ms',v',x6',rfl,hl⟩;have hi60:i < 60:=by have:=(uSa hi).1;simpa[ZV]using this
   have hz:ms'.length < sizeLine:=YN (by lia);by_cases h0:0 < v'
   ·refine⟨_,[.bo (.scr ns),.bo (.int m),.ow none (.lst ((ms'++[v' % 1009]).map .int)),.cl (.int seed),.cl (.int x),.cl (.int (v' / 1009)),.cl d],rfl,?_,ms'++[v' % 1009],v' / 1009,.cl d,rfl,by simp;lia⟩;simp[Jl,h0,hz]
   ·refine⟨_,[.bo (.scr ns),.bo (.int m),.ow none (.lst (ms'.map .int)),.cl (.int seed),.cl (.int x),.cl (.int v'),.cl d],rfl,?_,ms',v',.cl d,rfl,by lia⟩;simp[Jl,h0]
 have L:=US (g:=JI) (s:=JJ C) (items:=(JT ns none (some 63)).map D.int) (fun i Z=>∃(ms:List Int) (seed:Int) (x4 x5 x6:Sl),Z=[.bo (.scr ns),.bo (.int m),.ow none (.lst (ms.map .int)),.cl (.int seed),x4,x5,x6]/\0<=seed/\seed < 2147483648/\ms.length<=i * 61) ?_ ⟨[],29,.un,.un,.un,rfl,by decide,by decide,by simp⟩
 ·obtain⟨Z',L1,ms,seed,x4,x5,x6,rfl,s0,s1,hl⟩:=L;have hc:=U_ ns none (some 63);rw[vYa]at hl;have hl:ms.length<=4000:=by lia
  obtain⟨Z2,W1,⟨ms2,seed2,rfl,t0,t1,hl2⟩,W2⟩:=wr (dt:=Jm C) (s:=yf C) (fun Z=>∃(ms:List Int) (seed:Int),Z=[.bo (.scr ns),.bo (.int m),.ow none (.lst (ms.map .int)),.cl (.int seed),x4,x5,x6]/\0<=seed/\seed < 2147483648/\ms.length<=4000) (fun Z=>match Z with | [_,_,.ow _ (.lst l),_,_,_,_]=>6000 - l.length | _=>0) (fun Z=>by
    rintro⟨ms,seed,rfl,s0,s1,hl⟩;by_cases h:(ms.length:Int) < m
    ·right;refine⟨by simp[Jm,h],?_⟩;have b1:=wv (a:=seed * seed+69621 * seed+7 * (ms.length:Int)+5) (b:=2147483629) (by decide);have hz:ms.length < sizeLine:=YN (by lia);refine⟨[.bo (.scr ns),.bo (.int m),.ow none (.lst ((ms++[(seed * seed+69621 * seed+7 * (ms.length:Int)+5) % 2147483629 / 1013 % 9973]).map .int)),.cl (.int ((seed * seed+69621 * seed+7 * (ms.length:Int)+5) % 2147483629)),x4,x5,x6],?_,⟨_,_,rfl,b1.1,by lia,by simp;lia⟩,by simp;lia⟩;simp[yf,vY (i:=seed) (j:=seed) (by lia) (by lia),vY (i:=69621) (j:=seed) (by decide) (by decide),vY (i:=7) (j:=(ms.length:Int)) (by decide) (by decide),hz]
    ·left;simp[Jm,h]) (n:=20000) ⟨ms,seed,rfl,s0,s1,hl⟩ (by simp;lia)
  have hm:m<=(ms2.length:Int):=by
   simp[Jm]at W2
   lia
  refine⟨ms2.take m.toNat,?_,by rw[uOa];lia⟩;simp only[yH,yG];have em:m=((m.toNat:Nat):Int):=by lia
  have ec:JT (ms2.map D.int) none (some m)=(ms2.take m.toNat).map D.int:=by
   have z:=BW ms2 m.toNat
   rw[<-em]at z;rw[UZ,z]
  rw[uJa]at L1;have s60:zj 60=true:=by decide
  simp[UZ,L1,W1]at ec⊢;simp[ec]
 ·rintro i d Z hi ⟨ms,seed,x4,x5,x6,rfl,s0,s1,hl⟩;have hlt:i < 63:=by
   have h1:=(uSa hi).1;have h2:=U_ ns none (some 63);rw[vYa]at h1
   lia
  obtain⟨x,rfl⟩:∃x,d=D.int x:=by
   rw[uAa]at hi;cases q:(JT ns none (some 63))[i]? with
   | none=>rw[q]at hi;cases hi
   | some z=>rw[q]at hi;exact⟨z,(vFa hi).symm⟩
  have b1:=wv (a:=seed * 48271+x % 1000003+11) (b:=2147483647) (by decide);have s60:zj 60=true:=by decide
  have hz:ms.length < sizeLine:=YN (by lia);by_cases h0:x - 10 ^ 18 < 0
  ·obtain⟨ms',v',x6',e,hl'⟩:=Zy (x - 10 ^ 18) x ((seed * 48271+x % 1000003+11) % 2147483647) (ms++[x % 9973]) x6 (i * 61+1) (by simp;lia) (by lia);refine⟨_,[.bo (.scr ns),.bo (.int m),.ow none (.lst (ms'.map .int)),.cl (.int ((seed * 48271+x % 1000003+11) % 2147483647)),.cl (.int x),.cl (.int v'),x6'],rfl,?_,ms',_,_,_,_,rfl,b1.1,by lia,by lia⟩;rw[uDa]at e;simp only[JJ,JI];simp at e h0;simp[vY (i:=seed) (j:=48271) (by lia) (by lia),h0,hz,e,s60]
  ·obtain⟨ms',v',x6',e,hl'⟩:=Zy (x - 10 ^ 18) x ((seed * 48271+x % 1000003+11) % 2147483647) ms x6 (i * 61+1) (by lia) (by lia);refine⟨_,[.bo (.scr ns),.bo (.int m),.ow none (.lst (ms'.map .int)),.cl (.int ((seed * 48271+x % 1000003+11) % 2147483647)),.cl (.int x),.cl (.int v'),x6'],rfl,?_,ms',_,_,_,_,rfl,b1.1,by lia,by lia⟩;simp only[JJ,JI];simp at e h0;have h0':¬(x - 1000000000000000000 < 0):=by lia
   simp[vY (i:=seed) (j:=48271) (by lia) (by lia),h0',hz,e,s60]
mutual
noncomputable def VZ:D->Prop
 | .tup l=>l.length<=sizeLine/\vi l
 | .lst l=>l.length<=sizeLine/\vi l
 | .int _=>True
 | .str _=>True
 | _=>False
noncomputable def vi:List D->Prop
 | []=>True
 | d::ds=>VZ d/\vi ds
end
theorem vj:∀{l:List D} {d:D},vi l->d∈l->VZ d
 | e::l,d,h,hd=>by
  rw[vi]at h;rcases uTa hd with rfl | hd
  ·exact h.1
  ·exact vj h.2 hd
theorem g6(l:List D):List.zipWith (fun p q=>D.tup [p,q]) l l=l.map fun x=>D.tup [x,x]:=by
 induction l with
 | nil=>rfl
 | cons x l ih=>rw[List.zipWith_cons_cons,vWa,ih]
theorem Yw{α:Type}(l:List α):ZT (l.map fun _=>D.bl true)=some (l.map fun _=>true):=yI (fun _=>true) l
theorem Gr(C:Addr)(d:D):∀n:Nat,VZ d->dep d < n->jV C n [d,d]=some (.bl true):=by
 induction d using D.ind with
 | h d i1 i2=>
  intro n hp hn;cases n with
  | zero=>lia
  | succ n=>
   have seq:∀l:List D,(∀x∈l,jV C n [x,x]=some (.bl true))->yp (gT 2 (gC (gN 0) (gC (gN 1) gZ))) yo (jD (jV C n) [(false,dV 0),(false,dV 1)]) (l.map fun x=>D.tup [x,x]) [.un,.un]=some (l.map fun _=>D.bl true):=fun l h=>Yy (fun x=>D.tup [x,x]) _ fun x hx=>⟨_,rfl,rfl,by simp[h x hx]⟩
   have al:∀l:List D,((l.map fun _=>true).all id)=true:=fun l=>by simp
   simp only[jV,yS];cases d with
   | int i=>simp[VF,Zc]
   | str s=>simp[VF,Zc]
   | tup l=>
    rw[VZ]at hp;rw[dep]at hn;have q:=seq l fun x hx=>i1 l rfl x hx n (vj hp.2 hx) (by have:=v3 hx;lia);simp[VF,Zc,g6,q,hp.1,Yw]
   | lst l=>
    rw[VZ]at hp;rw[dep]at hn;have q:=seq l fun x hx=>i2 l rfl x hx n (vj hp.2 hx) (by have:=v3 hx;lia);simp[VF,Zc,g6,q,hp.1,Yw]
   | _=>exact vDa hp (by rw[VZ] <;> (first | exact id | (intros;contradiction)))
end M
namespace M
open PySem L2 DS CP
theorem D4(x:D)(ms:List D):S3 [.bo x,.cl (.lst ms),.cl (.str "a"),.cl (bk 0),.un,.un,.un,.un,.un]=some (.nx [.bo x,.cl (.lst ms),.cl (.str "a"),.cl (bk 0),.cl (.int 22),.un,.un,.un,.un]):=by kernel_rfl
theorem D5(x:D)(ms:List D):S3 [.bo x,.cl (.lst ms),.cl (.str "a"),.cl (bk 1),.un,.un,.un,.un,.un]=some (.nx [.bo x,.cl (.lst ms),.cl (.str "a"),.cl (bk 1),.cl (.int 22),.un,.un,.un,.un]):=by kernel_rfl
theorem D6(x:D)(ms:List D):S3 [.bo x,.cl (.lst ms),.cl (.str "ab"),.cl (bk 0),.un,.un,.un,.un,.un]=some (.nx [.bo x,.cl (.lst ms),.cl (.str "ab"),.cl (bk 0),.cl (.int 22),.un,.un,.un,.un]):=by kernel_rfl
theorem D7(x:D)(ms:List D):S3 [.bo x,.cl (.lst ms),.cl (.str "ab"),.cl (bk 1),.un,.un,.un,.un,.un]=some (.nx [.bo x,.cl (.lst ms),.cl (.str "ab"),.cl (bk 1),.cl (.int 22),.un,.un,.un,.un]):=by kernel_rfl
theorem D8(x:D)(ms:List D):S3 [.bo x,.cl (.lst ms),.cl (.str "abc"),.cl (bk 0),.un,.un,.un,.un,.un]=some (.nx [.bo x,.cl (.lst ms),.cl (.str "abc"),.cl (bk 0),.cl (.int 22),.un,.un,.un,.un]):=by kernel_rfl
theorem D9(x:D)(ms:List D):S3 [.bo x,.cl (.lst ms),.cl (.str "abc"),.cl (bk 1),.un,.un,.un,.un,.un]=some (.nx [.bo x,.cl (.lst ms),.cl (.str "abc"),.cl (bk 1),.cl (.int 22),.un,.un,.un,.un]):=by kernel_rfl
theorem Da(x:D)(ms:List D):S3 [.bo x,.cl (.lst ms),.cl (.str "abcd"),.cl (bk 0),.un,.un,.un,.un,.un]=some (.nx [.bo x,.cl (.lst ms),.cl (.str "abcd"),.cl (bk 0),.cl (.int 22),.un,.un,.un,.un]):=by kernel_rfl
theorem Db(x:D)(ms:List D):S3 [.bo x,.cl (.lst ms),.cl (.str "abcd"),.cl (bk 1),.un,.un,.un,.un,.un]=some (.nx [.bo x,.cl (.lst ms),.cl (.str "abcd"),.cl (bk 1),.cl (.int 22),.un,.un,.un,.un]):=by kernel_rfl
def TF(F:List D->Option D):Tb:=Qy.ag "_law_same" (.fE 146 jW.de.ps jW.de.ks F)
def V_(F:List D->Option D)(k:Nat):DS.DS:=(cQ (rc 30) 30 (gm (TF F) Jg.de false) ((defBody Jg.st).drop k)).getD j_
theorem EU:tl 4=V_ (jV 979 6) 4:=rfl
noncomputable def La(n2 n3:Int)(nm:Str):D:=.lst [.int n2,.str nm,.int n3,.str "cut"]
noncomputable def Lb(n4:Int)(nm:Str):D:=.lst [.str nm,.int n4]
noncomputable def r4(x y z:D)(n0 n1 n2 n3 n4 n5 n6 n7:Int)(nm:Str)(a b c d:Sl):jb:=[.bo x,.cl (.lst [.int n0,.int n1,.int n2,.int n3,.int n4,.int n5,.int n6,.int n7]),.cl (.str nm),.cl y,.cl z,a,b,c,d]
noncomputable def r8(x y z:D)(n0 n1 n2 n3 n4 n5 n6 n7:Int)(nm:Str):jb:=r4 x y z n0 n1 n2 n3 n4 n5 n6 n7 nm (.cl (.exn "Broken" [("word",.str nm),("place",.int n2)])) (.cl (.exn "Broken" [("word",.str "cut"),("place",.int n3)])) (.cl (.exn "Stranded" [("name",.str nm)])) (.cl (.exn "BadRow" [("at",.int n4)]))
set_option backward.match.sparseCases true in
def Fa(F:List D->Option D):Rs->Option Rs
 | .nx Z1=>V_ F 9 Z1
 | r=>some r
section
variable (F:List D->Option D) (x y z:D) (n0 n1 n2 n3 n4 n5 n6 n7:Int) (nm:Str)
theorem EV:V_ F 4 (r4 x y z n0 n1 n2 n3 n4 n5 n6 n7 nm .un .un .un .un)=V_ F 8 (r8 x y z n0 n1 n2 n3 n4 n5 n6 n7 nm):=by kernel_rfl
theorem EW:V_ F 8 (r8 x y z n0 n1 n2 n3 n4 n5 n6 n7 nm)=((((F [La n2 n3 nm,La n2 n3 nm]).bind zy).bind (fun k=>some (!k))).bind (fun k=>if k=true then some (.rt (.bl false))else some (.nx (r8 x y z n0 n1 n2 n3 n4 n5 n6 n7 nm)))).bind (Fa F):=by kernel_rfl
theorem EX:V_ F 9 (r8 x y z n0 n1 n2 n3 n4 n5 n6 n7 nm)=(F [Lb n4 nm,Lb n4 nm]).bind fun d=>some (.rt d):=by kernel_rfl
theorem EY(h1:F [La n2 n3 nm,La n2 n3 nm]=some (.bl true))(h2:F [Lb n4 nm,Lb n4 nm]=some (.bl true)):V_ F 4 (r4 x y z n0 n1 n2 n3 n4 n5 n6 n7 nm .un .un .un .un)=some (.rt (.bl true)):=by
 rw[EV,EW,h1];show V_ F 9 _=_;rw[EX,h2];rfl
theorem BX:tl 4 (r4 x y z n0 n1 n2 n3 n4 n5 n6 n7 nm .un .un .un .un)=some (.rt (.bl true)):=by
 rw[EU];refine EY _ x y z n0 n1 n2 n3 n4 n5 n6 n7 nm (Gr _ _ _ ?_ ?_) (Gr _ _ _ ?_ ?_)
 ·simp[La,VZ,vi,sizeLine]
 ·simp[La,dep,zB]
 ·simp[Lb,VZ,vi,sizeLine]
 ·simp[Lb,dep,zB]
end
theorem vZ{s1 s2:DS.DS}{Z Z1:jb}(h:s1 Z=some (.nx Z1)):jF s1 s2 Z=s2 Z1:=by unfold jF;rw[h];rfl
section
variable (ns:List Int) (n0 n1 n2 n3 n4 n5 n6 n7:Int)
noncomputable def r1(a b c d:Sl):jb:=[.bo (.scr ns),.cl (.lst [.int n0,.int n1,.int n2,.int n3,.int n4,.int n5,.int n6,.int n7]),a,b,c,d,.un,.un,.un]
theorem Dg(nm:Str)(k:Int)(hk:n0 % 4=k)(e:uj (.str "abcd") none (some (1+k))=some (.str nm)):S1 (r1 ns n0 n1 n2 n3 n4 n5 n6 n7 .un .un .un .un)=some (.nx (r1 ns n0 n1 n2 n3 n4 n5 n6 n7 (.cl (.str nm)) .un .un .un)):=by
 subst hk;simp[S1,r1,e,uU,L2.atI,VB]
theorem Di(a:Sl)(k:Int)(hk:n1 % 2=k)(e:jP 979 [.int 3,.lst [tr 1 1 0,tr 1 1 k],.lst [],.lst [],.lst []]=some (.ins 979 ["size", "kind_rows", "shun_rows", "bar_rows", "due_rows"] [.int 3,.tup [tr 1 1 0,tr 1 1 k],.tup [],.tup [],.tup []])):S2 (r1 ns n0 n1 n2 n3 n4 n5 n6 n7 a .un .un .un)=some (.nx (r1 ns n0 n1 n2 n3 n4 n5 n6 n7 a (.cl (bk k)) .un .un)):=by
 subst hk;rw[tr,tr]at e;simp[S2,r1,e,L2.atI,VB,bk,tr]
theorem Qz:jP 979 [.int 3,.lst [tr 1 1 0,tr 1 1 0],.lst [],.lst [],.lst []]=some (.ins 979 ["size", "kind_rows", "shun_rows", "bar_rows", "due_rows"] [.int 3,.tup [tr 1 1 0,tr 1 1 0],.tup [],.tup [],.tup []]):=by kernel_rfl
theorem QA:jP 979 [.int 3,.lst [tr 1 1 0,tr 1 1 1],.lst [],.lst [],.lst []]=some (.ins 979 ["size", "kind_rows", "shun_rows", "bar_rows", "due_rows"] [.int 3,.tup [tr 1 1 0,tr 1 1 1],.tup [],.tup [],.tup []]):=by kernel_rfl
theorem JW(nm:Str)(k j:Int)(hk:n0 % 4=k)(hj:n1 % 2=j)(e:uj (.str "abcd") none (some (1+k))=some (.str nm))(e2:jP 979 [.int 3,.lst [tr 1 1 0,tr 1 1 j],.lst [],.lst [],.lst []]=some (.ins 979 ["size", "kind_rows", "shun_rows", "bar_rows", "due_rows"] [.int 3,.tup [tr 1 1 0,tr 1 1 j],.tup [],.tup [],.tup []]))
  (lp:∀(x:D) (ms:List D),S3 [.bo x,.cl (.lst ms),.cl (.str nm),.cl (bk j),.un,.un,.un,.un,.un]=some (.nx [.bo x,.cl (.lst ms),.cl (.str nm),.cl (bk j),.cl (.int 22),.un,.un,.un,.un])):
  tl 1 (r1 ns n0 n1 n2 n3 n4 n5 n6 n7 .un .un .un .un)=some (.rt (.bl true)):=by
 rw[dZ,vZ (Dg ns n0 n1 n2 n3 n4 n5 n6 n7 nm k hk e),d_,vZ (Di ns n0 n1 n2 n3 n4 n5 n6 n7 _ j hj e2),D0];refine(vZ (lp _ _)).trans ?_;exact BX _ _ _ n0 n1 n2 n3 n4 n5 n6 n7 nm
end
theorem WS(ns:List Int)(hl:ns.length<=63):uo [.scr ns]=some (.bl true):=by
 obtain⟨ms,e,hm⟩:=K0 979 ns 8 hl (by decide) (by decide);rcases ms with _ | ⟨n0,_ | ⟨n1,_ | ⟨n2,_ | ⟨n3,_ | ⟨n4,_ | ⟨n5,_ | ⟨n6,_ | ⟨n7,_ | ⟨n8,ms⟩⟩⟩⟩⟩⟩⟩⟩⟩ <;> simp at hm <;> try lia
 have f0:S0 [.bo (.scr ns),.un,.un,.un,.un,.un,.un,.un,.un]=some (.nx (r1 ns n0 n1 n2 n3 n4 n5 n6 n7 .un .un .un .un)):=by
  simp[S0,e,r1]
 have key:tl 1 (r1 ns n0 n1 n2 n3 n4 n5 n6 n7 .un .un .un .un)=some (.rt (.bl true)):=by
  have a0:0<=n0 % 4:=Int.emod_nonneg _ (by decide);have a1:n0 % 4 < 4:=Int.emod_lt_of_pos _ (by decide);have b0:0<=n1 % 2:=Int.emod_nonneg _ (by decide);have b1:n1 % 2 < 2:=Int.emod_lt_of_pos _ (by decide);have a:n0 % 4=0 \/ n0 % 4=1 \/ n0 % 4=2 \/ n0 % 4=3:=by lia
  have b:n1 % 2=0 \/ n1 % 2=1:=by lia
  rcases a with h | h | h | h <;> rcases b with h' | h'
  ·exact JW ns n0 n1 n2 n3 n4 n5 n6 n7 "a" 0 0 h h' (by kernel_rfl) Qz D4
  ·exact JW ns n0 n1 n2 n3 n4 n5 n6 n7 "a" 0 1 h h' (by kernel_rfl) QA D5
  ·exact JW ns n0 n1 n2 n3 n4 n5 n6 n7 "ab" 1 0 h h' (by kernel_rfl) Qz D6
  ·exact JW ns n0 n1 n2 n3 n4 n5 n6 n7 "ab" 1 1 h h' (by kernel_rfl) QA D7
  ·exact JW ns n0 n1 n2 n3 n4 n5 n6 n7 "abc" 2 0 h h' (by kernel_rfl) Qz D8
  ·exact JW ns n0 n1 n2 n3 n4 n5 n6 n7 "abc" 2 1 h h' (by kernel_rfl) QA D9
  ·exact JW ns n0 n1 n2 n3 n4 n5 n6 n7 "abcd" 3 0 h h' (by kernel_rfl) Qz Da
  ·exact JW ns n0 n1 n2 n3 n4 n5 n6 n7 "abcd" 3 1 h h' (by kernel_rfl) QA Db
 have g:((yb VY Jg.de false).getD j_) [.bo (.scr ns),.un,.un,.un,.un,.un,.un,.un,.un]=some (.rt (.bl true)):=by
  rw[dY,vZ f0,key]
 have le:Jg.de.lo.length=8:=by kernel_rfl
 unfold uo;rw[le];show(((yb VY Jg.de false).getD j_) [.bo (.scr ns),.un,.un,.un,.un,.un,.un,.un,.un]).bind _=_;rw[g];rfl
theorem k1:Zh.chks 2 l1=BI l1:=by kernel_rfl
theorem EZ:yb eN Vp.de false=some (JK 979):=by kernel_rfl
theorem k3:BP.chkF 16 l3=l3.map (fun _=>true):=by kernel_rfl
theorem E_(m:Nat):yb (wt.ag "can_be_ended" (.fE (90+2 * m) zJ.de.ps zJ.de.ks (G1 m))) Zi.de false=some (B2 (G1 m)):=by kernel_rfl
theorem f9(m:Nat):yb (wt.ag "any_can_be_ended" (.fE (90+2 * m+1) Zi.de.ps Zi.de.ks (G2 m))) zJ.de false=some (B1 (G2 m)):=by kernel_rfl
theorem k5:BQ.chkF 100 l5=l5.map (fun _=>true):=by kernel_rfl
theorem k7:BS.chkH 104 l7=l7.map (fun _=>true):=by kernel_rfl
theorem k9:BV.chkF 134 l9=l9.map (fun _=>true):=by kernel_rfl
theorem gk(m:Nat):yb (Qy.ag "_law_same" (.fE (140+m) jW.de.ps jW.de.ks (jV 979 m))) jW.de false=some (yS 979 (jV 979 m)):=by kernel_rfl
theorem Dj:(yb VY Jg.de false).isSome=true:=by kernel_rfl
def v_(K:W.Frag):Sp:=fun vs H Q _=>∃(a:Addr) (ns:List Int),vs=[.ref a]/\jr K H a (ns.map V.int)/\ns.length<=63/\∀H',Q (.bl true) H'
theorem Xs{K:W.Frag}(vs:List V)(H:Hp)(Q:VK)(E:XK)(h:v_ K vs H Q E):Y5 K [false] uo vs H Q E:=by
 obtain⟨a,ns,rfl,hS,hl,q⟩:=h;have e:j4 H []=H:=by funext b;rfl
 exact⟨[],[.scr ns],.bl true,(fun a h=>by cases h),⟨.inl (by rw[e];show DS.j5 K H (.scr ns) _;rw[DS.j5];exact⟨a,rfl,hS⟩),trivial⟩,WS ns hl,fun v H' _ r=>by rw[DS.j5]at r;rw[r];exact q H'⟩
def gb:Df:=dM 23 0 "Broken.__init__" 288 0 [1,0,0] jq
def V0:Df:=dM 24 0 "Stranded.__init__" 307 0 [1,0] jq
def gc:Df:=dM 25 0 "BadRow.__init__" 326 0 [1,0] jq
theorem BZ{l:W.OpenLaw}{w:World}{K:W.Frag}{h:Heap}{mg:Str->Option Value}{fa:Addr}(X:K.In h)(G:h.Ns mainGlobals mg)(hfa:mg "law" = some (.ref fa))
 (aC:W.nsIn K mainGlobals "Rules" = some (some (.ref 979)))
 (pg:W.plainGet K 979 Str.empty=true)
 (hd:W.hasDictIn K 979=true)
 (po:W.plainOver K 979=true)
 (sa:W.findIn K (.ref 979) "__setattr__" = some (some (.builtin "object.__setattr__")))
 (mk:W.makesIn K 979=true)
 (kc:W.keepIn K (.ref 979)=true)
 (aCH:W.nsIn K mainGlobals "House" = some (some (.ref 773)))
 (pgH:W.plainGet K 773 Str.empty=true)
 (hdH:W.hasDictIn K 773=true)
 (poH:W.plainOver K 773=true)
 (saH:W.findIn K (.ref 773) "__setattr__" = some (some (.builtin "object.__setattr__")))
 (mkH:W.makesIn K 773=true)
 (kcH:W.keepIn K (.ref 773)=true)
 (Al1:l1.map (JU K 979)=l1.map (JV K))
 (Al3:l3.map (JU K 979)=l3.map (JV K))
 (Al5:l5.map (JU K 979)=l5.map (JV K))
 (Al9:l9.map (JU K 979)=l9.map (JV K))
 (A_x_RI:JU K 979 Vp=JV K Vp)
 (A_x_C1:JU K 979 zJ=JV K zJ)
 (A_x_C2:JU K 979 Zi=JV K Zi)
 (A_x_RX:JU K 979 Vq=JV K Vq)
 (A_x_HI:JU K 773 Vr=JV K Vr)
 (A_x__law_same:JU K 979 jW=JV K jW)
 (Al7:l7.map (fun d=>JU K 773 d.d)=l7.map (fun d=>JV K d.d))
 (X1:xt.ex.map (BJ K)=xt.ex.map (BK K))
 (X2:(xt.ex.map fun x=>xt.ex.map fun y=>W.kitOne K (.ref (ji K x)) (.ref (ji K y)))=xt.ex.map fun x=>xt.ex.map fun y=>some (x==y))
 (X3:xt.ct.map (fun h=>(W.nsIn K mainGlobals h.1,h.2.1.map (fun x=>W.exmOne K (.ref (ji K x)) (.ref (ji K h.1))),h.2.2.map fun x=>W.exmOne K (.ref (ji K x)) (.ref (ji K h.1))))=xt.ct.map fun h=>(some (some (.ref (ji K h.1))),h.2.1.map (fun _=>some true),h.2.2.map fun _=>some false))
 (X4:xt.xf.map (BL K)=xt.xf.map fun _=>(some (some (.builtin "BaseException.__getattribute__")),some none,true,true,some none))
 (X6:xt.ex.map (fun x=>W.kitOne K (.ref (ji K x)) (.type "ValueError"))=xt.ex.map fun _=>some true)
 (X7:xt.c3.map (fun p=>(p.1.map fun x=>W.nsIn K mainGlobals x,p.2.map fun c=>W.exmAny K (.ref (ji K c)) (p.1.map fun x=>Value.ref (ji K x))))=xt.c3.map fun p=>(p.1.map fun x=>some (some (.ref (ji K x))),p.2.map fun _=>some true))
 (X5:xt.xp.map (fun x=>(W.nsIn K mainGlobals x,W.excIn K (ji K x) ZL "ValueError.__new__"))=xt.xp.map fun x=>(some (some (.ref (ji K x))),true))
 (YBroken1:W.nsIn K mainGlobals "Broken" = some (some (.ref (ji K "Broken"))))
 (YBroken2:ya K (ji K "Broken") ZL "ValueError.__new__" 288=true)
 (YBroken3:W.keepIn K (.ref (ji K "Broken"))=true)
 (YBroken4:W.findIn K (.ref (ji K "Broken")) "__init__" = some (some (.ref 288)))
 (YBroken5:JU K (ji K "Broken") gb=JV K gb)
 (YBroken6:vX K "Broken" "place" = (some (some (.builtin "object.__setattr__")),true,some none,true))
 (YBroken7:vX K "Broken" "word" = (some (some (.builtin "object.__setattr__")),true,some none,true))
 (YStranded1:W.nsIn K mainGlobals "Stranded" = some (some (.ref (ji K "Stranded"))))
 (YStranded2:ya K (ji K "Stranded") ZL "ValueError.__new__" 307=true)
 (YStranded3:W.keepIn K (.ref (ji K "Stranded"))=true)
 (YStranded4:W.findIn K (.ref (ji K "Stranded")) "__init__" = some (some (.ref 307)))
 (YStranded5:JU K (ji K "Stranded") V0=JV K V0)
 (YStranded6:vX K "Stranded" "name" = (some (some (.builtin "object.__setattr__")),true,some none,true))
 (YBadRow1:W.nsIn K mainGlobals "BadRow" = some (some (.ref (ji K "BadRow"))))
 (YBadRow2:ya K (ji K "BadRow") ZL "ValueError.__new__" 326=true)
 (YBadRow3:W.keepIn K (.ref (ji K "BadRow"))=true)
 (YBadRow4:W.findIn K (.ref (ji K "BadRow")) "__init__" = some (some (.ref 326)))
 (YBadRow5:JU K (ji K "BadRow") gc=JV K gc)
 (YBadRow6:vX K "BadRow" "at" = (some (some (.builtin "object.__setattr__")),true,some none,true))
 (Al:JU K 979 Jg=JV K Jg)
 (hF:Zh.fl.map (W.findIn K (.ref 979))=Zh.fl.map fun _=>some none)
 (hFH:(Zh.hfl++Zh.hls).map (W.findIn K (.ref 773))=(Zh.hfl++Zh.hls).map fun _=>some none)
 (hG:Zh.gs.map (fun p=>(Gn (W.nsIn K mainGlobals p.1),(Qw p.2).isSome))=Zh.gs.map fun p=>(Qw p.2,true)):
  ∃fd:FuncData,(∀(s:Shared) (v:Value),BindsTo s fd ⟨[v],[]⟩ [("_law_script",v)])/\∀base:Heap,K.In base->base.Ns mainGlobals mg->FnOk l.prog w K mg base Jx 147 fa fd ["_law_script"] (v_ K):=by
 have XG:∀x v,W.nsIn K mainGlobals x=some (some v)->mg x=some v:=fun x v a=>W.mg_of X G a;obtain⟨f_law,uo,a_law,F_law⟩:=zH Al rfl;have e:=hfa.symm.trans (XG _ _ a_law);cases e;obtain⟨_,_,kV,dc,pm,an,cd,ct,_,rfl,_,_⟩:=F_law.ex;refine⟨W.fnOf "law" "law" (defArgs Jg.st) (defBody Jg.st) (defScope Jg.st) .none kV dc pm an cd ct,fun s v=>.of_eq rfl,fun base _ _=>?_⟩;have h:TOk l.prog w K mg base 2 Zh:=⟨fun p hp=>dS XG (fun x a=>W.mg_none_of X G a) (dT hG p hp),(fun _ h=>by cases h),⟨pg,hd,po,sa⟩,Jd hF,dU XG X1 X2 X3 X4 (fun _=>X6) X7,dW X5,fun x fs e=>?_,⟨pgH,hdH,poH,saH⟩,fun f hf=>Jd hFH f (List.mem_append.mpr hf),fun p hp=>by cases hp⟩
 rotate_left
 ·have m:=Yx e;rcases uTa m with z | m
  ·cases z;exact BM YBroken1 YBroken2 YBroken3 YBroken4 (yY YBroken5 rfl) YBroken6 YBroken7 (by kernel_rfl) rfl (by kernel_rfl) (by kernel_rfl) (by kernel_rfl) (JH (by kernel_rfl))
  rcases uTa m with z | m
  ·cases z;exact wq YStranded1 YStranded2 YStranded3 YStranded4 (yY YStranded5 rfl) YStranded6 rfl (by kernel_rfl) (by kernel_rfl) (by kernel_rfl) (JH (by kernel_rfl))
  rcases uTa m with z | m
  ·cases z;exact wq YBadRow1 YBadRow2 YBadRow3 YBadRow4 (yY YBadRow5 rfl) YBadRow6 rfl (by kernel_rfl) (by kernel_rfl) (by kernel_rfl) (JH (by kernel_rfl))
  ·cases m
 have h:=TOk.adds XG l1 h k1 Al1;have h:TOk l.prog w K mg base 16 BP:=TOk.I XG (d:=Vp.de) h (yY A_x_RI rfl) (by kernel_rfl) EZ (by kernel_rfl) (JH (by kernel_rfl)) mk kc aC (ZB 979);have h:TOk l.prog w K mg base 90 wt:=TOk.addsF XG l3 h k3 Al3;have h:TOk l.prog w K mg base 100 BQ:=TOk.R2 XG (d1:=zJ.de) (d2:=Zi.de) h (zH A_x_C1 rfl) (zH A_x_C2 rfl) G1 G2 B1 B2 5 (fun _=>rfl) (fun _=>rfl) (fun _=>rfl) E_ f9 (by kernel_rfl) (JH (by kernel_rfl)) (by kernel_rfl) (JH (by kernel_rfl));have h:TOk l.prog w K mg base 102 Qx:=TOk.addsF XG l5 h k5 Al5;have h:TOk l.prog w K mg base 104 BS:=TOk.hI XG (d:=Vq) (ks:=BR) (C:=979) (x := "Rules") h (T':=Qx.sw) h.sw A_x_RX (by kernel_rfl) (by kernel_rfl) mk kc aC;have h:TOk l.prog w K mg base 132 BU:=TOk.addsH l7 h k7 Al7;have h:TOk l.prog w K mg base 134 BV:=TOk.hI XG (d:=Vr) (ks:=[true]) (C:=773) (x := "House") h h A_x_HI (by kernel_rfl) (by kernel_rfl) mkH kcH aCH;have h:TOk l.prog w K mg base 140 Qy:=TOk.addsF XG l9 h k9 Al9;have h:TOk l.prog w K mg base 146 VY:=TOk.R XG (d:=jW.de) h (zH A_x__law_same rfl) (jV 979) (yS 979) 6 (fun _=>rfl) (fun _=>rfl) gk (by kernel_rfl) (JH (by kernel_rfl));exact(Gj (d:={ Jg.de with b:=(yb VY Jg.de false).getD j_ }) h F_law (zI (d:=j_) Dj) rfl).imp Xs
theorem fc{l:W.OpenLaw}{q:Program}{loose:List Str}{XP:(Str->Option Value)->Heap->Prop}{YP:World->Heap->Prop}{d:DefRec}{K:Params->W.Frag}(hn:l.most=some 63)(hdf:d.params.defaults=[])
  (hY:∀(w:World) (h:Heap),YP w h->(K w.params).In h)
  (F:∀(w:World) (mg:Str->Option Value) (fa:Addr) (h:Heap),(K w.params).In h->h.Ns mainGlobals mg->mg d.name=some (.ref fa)->
   ∃fd:FuncData,(∀(s:Shared) (u:Value),BindsTo s fd ⟨[u],[]⟩ [("_law_script",u)])/\∀base:Heap,(K w.params).In base->base.Ns mainGlobals mg->FnOk l.prog w (K w.params) mg base Jx 147 fa fd ["_law_script"] (v_ (K w.params))):
  W.WalkO q loose XP YP l.row.toRowW d [] (fun f vs=>PySem.call f vs):=
 L2.QR (n:=63) (k:=147) (x := "_law_script") (CX:=fun _=>Jx) (sp:=fun w=>v_ (K w.params)) hn (by decide) hdf ⟨rfl,by decide,by decide⟩ hY F (fun _ _ a ns hl _ hS=>⟨a,ns,rfl,hS,hl,fun _=>rfl⟩) fun _ _ _ _ _ z=>z
end M
open PySem PySem.W PyProof.Rows
set_option maxRecDepth 100000 in
set_option maxHeartbeats 0 in
theorem PySem.Challenge.cw_moonseat_k44_refusals_apart_holds : PySem.Challenge.rw_moonseat_k44_refusals_apart.Holds := by
 w_on;o_law
 refine holds_open (q:=Hd.q) (loose:=[]) (Xt:=Hd.Xt) (XP:=XL Hd.q []) (Yf:=Hook.obs (kHook Hd.K Hd.kA Hd.kOk)) (Ya:=Hook.val (kHook Hd.K Hd.kA Hd.kOk)) (YP:=Hook.says (kHook Hd.K Hd.kA Hd.kOk)) (N:=18478) Hd.left (Hook.of _) (Hook.keeps _) (fun s e=>xl_of s (Bool.and_eq_true_iff.mp e).1) XL.keeps (by rfl) (by rfl) (by rfl) (fun s e=>recFacts_of (Bool.and_eq_true_iff.mp e).2) (by rfl) (by assumption) (by decide +kernel) ⟨rfl,rfl,rfl,rfl,rfl,by decide +kernel⟩ ?hw ?hc
 case hw=>w_witness2
 exact M.fc (l:=PySem.Challenge.rw_moonseat_k44_refusals_apart) rfl rfl (fun w h Y=>kIn_of Y) fun w mg fa h KX G hmg=>M.BZ KX G hmg (by kernel_rfl) (by kernel_rfl) (by kernel_rfl) (by kernel_rfl) (by kernel_rfl) (by kernel_rfl) (by kernel_rfl) (by kernel_rfl) (by kernel_rfl) (by kernel_rfl) (by kernel_rfl) (by kernel_rfl) (by kernel_rfl) (by kernel_rfl) (by kernel_rfl) (by kernel_rfl) (by kernel_rfl) (by kernel_rfl) (by kernel_rfl) (by kernel_rfl) (by kernel_rfl) (by kernel_rfl) (by kernel_rfl) (by kernel_rfl) (by kernel_rfl) (by kernel_rfl) (by kernel_rfl) (by kernel_rfl) (by kernel_rfl) (by kernel_rfl) (by kernel_rfl) (by kernel_rfl) (by kernel_rfl) (by kernel_rfl) (by kernel_rfl) (by kernel_rfl) (by kernel_rfl) (by kernel_rfl) (by kernel_rfl) (by kernel_rfl) (by kernel_rfl) (by kernel_rfl) (by kernel_rfl) (by kernel_rfl) (by kernel_rfl) (by kernel_rfl) (by kernel_rfl) (by kernel_rfl) (by kernel_rfl) (by kernel_rfl) (by kernel_rfl) (by kernel_rfl) (by kernel_rfl) (by kernel_rfl) (by kernel_rfl)
