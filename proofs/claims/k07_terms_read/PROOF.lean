import PyProof.Rows.All
import Wide.All
import OpenK.AllK
import Wide.FinOn
import Lean
import PyProof.EqAt
import PyProof.EqKinds
import PyProof.TupleCall
import PyProof.Rows.CallKwBuiltin
import KE.KMinKey
import KE.KIntText
import KE.KRevIter
import KE.IntTextLaws
import PySem.Challenge.RW_planwell_k07_terms_read
theorem aJ{a b:Nat}(h:Nat.ble a b=true):a<=b:=Nat.le_of_ble_eq_true h
set_option Elab.async false
set_option linter.all false
set_option maxRecDepth 100000
namespace L2
open PySem PySem.W PyProof.Rows
section
variable (T:String->Option Builtin) (P:Program) (W:World) (m:Nat) (an:Option Value)
def O0:Nat->SharedT->Thread->Option SharedT
  | 0,_,_=>none
  | k+1,x,th=>match through th with
    | true=>some x
    | false=>match stepOk m an th with
      | false=>none
      | true=>match stepT (denote T) P W x th with
        | none=>none
        | some r=>O0 k r.1 r.2
theorem HV:∀ {k:Nat} {x y:SharedT} {th:Thread},O0 T P W m an k x th=some y->topRun T P W m an k x.abs th=some y.abs
  | 0,_,_,_,h=>by cases h
  | k+1,x,y,th,h=>by
    unfold O0 at h
    unfold topRun
    cases a:through th with
    | true=>rw[a] at h;cases h;rfl
    | false=>
      rw[a] at h
      cases b:stepOk m an th with
      | false=>rw[b] at h;cases h
      | true=>
        rw[b] at h
        cases c:stepT (denote T) P W x th with
        | none=>rw[c] at h;cases h
        | some r=>
          rw[c] at h
          rw[stepT_spec (s':=r.1) (t':=r.2) c]
          exact HV h
end
noncomputable def Uc(Q:Params):BT:=((boot_heap Q).objs.toList.foldl (fun r o=>(r.1.ins r.2 o,r.2+1)) (BT.nil,0)).1
noncomputable def Ej(Q:Params)(os:OsState):SharedT:=⟨Uc Q,11,{},#[],boot_drawn,boot_toks,os⟩
theorem JQ(Q:Params)(os:OsState):(Ej Q os).abs=⟨boot_heap Q,#[],boot_drawn,boot_toks,os⟩:=by kernel_rfl
theorem Kq(Q:Params):((boot_heap Q).isNs mainGlobals&&(#[]:Array GenState).size==0,(boot_heap Q).objs.size,(boot_heap Q).nsMap mainGlobals "__annotations__")=(true,11,some (.ref 6)):=by kernel_rfl
end L2
namespace L2
open PySem PySem.W PyProof.Rows
section
variable (T:String->Option Builtin) (P:Program) (W:World) (m:Nat) (an:Option Value)
def K0:Nat->SharedT->Thread->Option (SharedT×Thread)
  | 0,x,th=>some (x,th)
  | k+1,x,th=>match through th with
    | true=>none
    | false=>match stepOk m an th with
      | false=>none
      | true=>match stepT (denote T) P W x th with
        | none=>none
        | some r=>K0 k r.1 r.2
theorem MC:∀ {k:Nat} {x y:SharedT} {th ZN:Thread},K0 T P W m an k x th=some (y,ZN)->topGo T P W m an k x.abs th=some (y.abs,ZN)
  | 0,_,_,_,_,h=>by cases h;rfl
  | k+1,x,y,th,ZN,h=>by
    unfold K0 at h
    unfold topGo
    cases a:through th with
    | true=>rw[a] at h;cases h
    | false=>
      rw[a] at h
      cases b:stepOk m an th with
      | false=>rw[b] at h;cases h
      | true=>
        rw[b] at h
        cases c:stepT (denote T) P W x th with
        | none=>rw[c] at h;cases h
        | some r=>
          rw[c] at h
          rw[stepT_spec (s':=r.1) (t':=r.2) c]
          exact MC h
end
theorem VA{p q:Program}{loose:List Str}{Xt:Shared->Bool}{α:Type}{Yf:Shared->α}{Ya:World->α}{N:Nat}{g:Bool}(e:opening p=plainProg p.main.scope.names)(hN:Nat.ble 600 N=true)(f:∀ s,fenceModules? p s=some s)
    (h:∀ (w:World) (os:OsState),∃ x:SharedT,topRun treeTable p w 11 (some (.ref 6)) N (Ej w.params os).abs (topStub p)=some x.abs /\
      ((staticsOk (importedModules p.main.body) (boot_heap w.params) x.abs.heap&&namesBound p x.abs.heap&&gensDone x.abs&&laidKept (boot_heap w.params) x.abs.heap),
        openSeen q loose (importedModules p.main.body) Xt g x.abs,Yf x.abs)=(true,openGood q loose,Ya w)):LeftO p q loose Xt Yf Ya N g:=fun w=>by
  obtain⟨⟨h0,gs,d,k,os⟩,a,b⟩:=Option.map_eq_some_iff.mp (boot_open e hN f w)
  obtain⟨rfl,rfl,rfl,rfl⟩:h0=boot_heap w.params/\gs=#[]/\d=boot_drawn/\k=boot_toks:=by simpa using b
  obtain⟨z1,z2,z3⟩:_/\_/\_:=by simpa only [Prod.mk.injEq] using Kq w.params
  obtain⟨x,r',l⟩:=h w os
  rw[JQ] at r'
  obtain⟨l1,l2,l3⟩:_/\_/\_:=by simpa only [Prod.mk.injEq] using l
  have t:topFrom treeTable p w N ⟨boot_heap w.params,#[],boot_drawn,boot_toks,os⟩=some x.abs:=by
    unfold topFrom
    dsimp only
    rw[z1,z2,z3,r']
    show (match staticsOk (importedModules p.main.body) (boot_heap w.params) x.abs.heap&&namesBound p x.abs.heap&&gensDone x.abs&&laidKept (boot_heap w.params) x.abs.heap with | true=>some x.abs | false=>none)=_
    rw[l1]
  unfold openEnds
  rw[a]
  show (topFrom treeTable p w N _).map _=_
  rw[t]
  exact congrArg some (Prod.ext l2 l3)
theorem G0{p:Program}{w:World}{env:Env}{c:Code}{p1 p3 qp:Pos}{n N j:Nat}{l:List Stmt}{s s':SharedT}{r:Shared}(hA:segRunT treeTable p w 11 (some (.ref 6)) 1 n s (piecesOf (l.take j) env c p1 [topFrame qp])=some (.next,s',c,p3))
    (k:topRun treeTable p w 11 (some (.ref 6)) N s'.abs (restOf (l.drop j) env c p3 [topFrame qp])=some r):topRun treeTable p w 11 (some (.ref 6)) (n+N) s.abs (restOf l env c p1 [topFrame qp])=some r:=by
  have:=piece_app (segRun_of hA) k
  rw[List.take_append_drop] at this
  exact this
noncomputable def VQ{α:Type}(p q:Program)(loose:List Str)(Xt:Shared->Bool)(Yf:Shared->α)(g:Bool)(w:World)(x:SharedT):=((staticsOk (importedModules p.main.body) (boot_heap w.params) x.abs.heap&&namesBound p x.abs.heap&&gensDone x.abs&&laidKept (boot_heap w.params) x.abs.heap),
        openSeen q loose (importedModules p.main.body) Xt g x.abs,Yf x.abs)
theorem Ww{p q:Program}{loose:List Str}{Xt:Shared->Bool}{α:Type}{Yf:Shared->α}{Ya:World->α}{n1 N:Nat}{g:Bool}{env:Env}{p1 qp:Pos}{s0:World->OsState->SharedT}(e:opening p=plainProg p.main.scope.names)(hN:Nat.ble 600 (n1+(1+N))=true)(f:∀ s,fenceModules? p s=some s)
    (hG:∀ (w:World) (os:OsState),K0 treeTable p w 11 (some (.ref 6)) n1 (Ej w.params os) (topStub p)=some (s0 w os,⟨denote treeTable (.body (behindTheImports p) env),.body (behindTheImports p) env,p1,[topFrame qp]⟩))
    (hB:∀ (w:World) (os:OsState),segRunT treeTable p w 11 (some (.ref 6)) 1 1 (s0 w os) (blockOf (behindTheImports p) env (.body (behindTheImports p) env) p1 [topFrame qp])=some (.next,s0 w os,.body (behindTheImports p) env,p1))
    (h:∀ (w:World) (os:OsState),∃ x:SharedT,topRun treeTable p w 11 (some (.ref 6)) N (s0 w os).abs (restOf (behindTheImports p) env (.body (behindTheImports p) env) p1 [topFrame qp])=some x.abs/\VQ p q loose Xt Yf g w x=(true,openGood q loose,Ya w)):LeftO p q loose Xt Yf Ya (n1+(1+N)) g:=
  VA e hN f fun w os=>by
    obtain⟨x,r,l⟩:=h w os
    exact⟨x,go_top (MC _ _ _ _ _ (hG w os)) (piece_block (segRun_of (hB w os)) r),l⟩
end L2
namespace Pw
open PySem
def tp(i:Nat):Stmt:=PySem.Challenge.pw_planwell_k07_terms_read.main.body.getD i (.Pass ⟨0,0,0,0⟩)
def sub(i j:Nat):Stmt:=match tp i with
  | .ClassDef _ _ _ b ..=>b.getD j (.Pass ⟨0,0,0,0⟩)
  | _=>.Pass ⟨0,0,0,0⟩
def mC(n q:String)(s:Stmt)(d:Value)(m:String)(t c:Nat):FuncData:=match s with
  | .FunctionDef _ a b _ _ _ sc _ _ _=>PySem.W.fnOf (.ofString n) (.ofString q) a b sc d .none .none (.str (.ofString m) t) none (.ref c) .none
  | _=>PySem.W.fnOf (.ofString n) (.ofString q) { posonlyargs:=[],args:=[],vararg:=none,kwonlyargs:=[],kw_defaults:=[],kwarg:=none,defaults:=[] } [] { kind:=.function,names:=[],isGenerator:=false,isCoroutine:=false } d .none .none (.str (.ofString m) t) none (.ref c) .none
def fQ(n q:String)(s:Stmt)(d:Value)(m:String)(t c:Nat):Obj:=⟨.type "function",none,.func (mC n q s d m t c),#[]⟩
def fN(n q:String)(s:Stmt):Obj:=match s with
  | .FunctionDef _ a b _ _ _ sc _ _ _=>{ cls:=.none,data:=.func { name:=.ofString n,qualname:=.ofString q,params:=a,body:=.stmts b,scope:=sc,globals:=0,closure:=[],defaults:=.none,kwdefaults:=.none } }
  | _=>{ cls:=.none,data:=.fields #[] }
def nO(l:List Value):Obj:={ cls:=.none,data:=.fields l.toArray }
def cO(n q:String)(t:Nat)(l a:Int)(r:Nat)(A B:Value)(c e:Nat):Obj:={ cls:=.type "code",data:=.fields #[.str (.ofString n) t,.str (.ofString q) (t+1),.str (.ofString "/claim/cut.py") (t+2),.int l 0,.int a 0,.int 0 0,.int 0 0,.int 3 0,.ref r,.bool true,.int 181 0,.ref (r+1),.none,A,B,.ref c,.int ((e:Int)-1) 0,.int l 0,.str (.ofString "/claim/cut.py") e] }
def dO(n:Nat)(P:Params)(l:List (String×Nat×Value)):Obj:={ cls:=.type "dict",data:=.dict (l.map fun e=>⟨PyData.keyHash P (.ofString e.1),.str (.ofString e.1) e.2.1,e.2.2⟩).toArray n }
def tO(l:List Value):Obj:={ cls:=.type "tuple",data:=.seq l.toArray }
noncomputable def bO(P:Params)(i:Nat):Obj:=(PySem.W.boot_heap P).objs.toList.getD i { cls:=.none,data:=.fields #[] }
abbrev bN:=PySem.W.BT.node
abbrev bA:=PySem.W.BT.nil
abbrev bL(o:Obj):=bN o bA bA
def kO(n:String)(b m:List Value)(s:Nat)(q:String)(c:List Value)(l:List (Option Value)):Obj:={ cls:=.type "type",data:=.cls { name:=.ofString n,bases:=b,mro:=m,ns:=s,qualname:=.ofString q,subclasses:=c },slots:=l.toArray }
def z1:Obj:=kO "PlanError" [.type "ValueError"] [.ref 31,.type "ValueError",.type "Exception",.type "BaseException",.type "object"] 30 "PlanError" [.ref 44,.ref 56,.ref 68,.ref 80,.ref 92,.ref 104,.ref 116,.ref 128] [some (.ref 22),none,some (.str "PlanError" 196),some (.str "PlanError" 204),some (.builtin "ValueError.__new__"),some (.bool .true)]
def z2(P:Params):Obj:=dO 2 P [("__module__",333,.str "planwell.errors" 194),("__firstlineno__",337,.int 21 336),("__static_attributes__",338,.ref 126),("__doc__",339,.none)]
def z3:Obj:=tO [.str "self" 434,.str "most" 435,.str "names" 436]
def z4:Obj:=cO "__init__" "Cursor.__init__" 391 41 3 154 (.ref 156) (.ref 157) 158 398
def z5:Obj:=fQ "take_value" "Cursor.take_value" (sub 16 9) .none "planwell.cursor" 363 222
def z6(P:Params):Obj:=dO 2 P [("__module__",269,.str "planwell.errors" 194),("__firstlineno__",273,.int 13 272),("__static_attributes__",274,.ref 78),("__doc__",275,.none)]
def z7:Obj:=fN "fraction" "fraction" (tp 13)
def z8:Obj:=fN "take_number" "Cursor.take_number" (sub 16 7)
def z9:Obj:={ cls:=.type "builtin_function_or_method",data:=.fields #[.builtin "type.__prepare__",.type "type"] }
def Zj:Obj:=fN "greatest_divisor" "greatest_divisor" (tp 12)
def XE(P:Params):Obj:=dO 2 P [("__module__",301,.str "planwell.errors" 194),("__firstlineno__",305,.int 17 304),("__static_attributes__",306,.ref 102),("__doc__",307,.none)]
def XO:Obj:=fQ "seen" "Cursor.seen" (sub 16 1) .none "planwell.cursor" 363 166
def Xr:Obj:=tO [.str "at" 479,.str "held" 480]
def XJ(P:Params):Obj:=dO 2 P [("__module__",237,.str "planwell.errors" 194),("__firstlineno__",241,.int 9 240),("__static_attributes__",242,.ref 54),("__doc__",243,.none)]
def ZF:Obj:=nO [.int 41 0,.int 4 0,.ref 159,.int 45 0,.int 4 0,.ref 166,.int 50 0,.int 4 0,.ref 173,.int 56 0,.int 4 0,.ref 180,.int 60 0,.int 4 0,.ref 187,.int 67 0,.int 4 0,.ref 194,.int 75 0,.int 4 0,.ref 201,.int 78 0,.int 4 0,.ref 208,.int 85 0,.int 4 0,.ref 215,.int 94 0,.int 4 0,.ref 222,.int 97 0,.int 4 0,.ref 229]
def XI:Obj:=cO "take_ratio" "Cursor.take_ratio" 455 85 1 210 (.ref 212) (.ref 213) 214 462
def ZZ:Obj:=fN "_wall" "_wall" (tp 0)
def XD(P:Params):Obj:=dO 2 P [("__module__",253,.str "planwell.errors" 194),("__firstlineno__",257,.int 11 256),("__static_attributes__",258,.ref 66),("__doc__",259,.none)]
def Xz:Obj:=fQ "take_names" "Cursor.take_names" (sub 16 5) .none "planwell.cursor" 363 194
def Xm(P:Params):Obj:=dO 2 P [("__module__",317,.str "planwell.errors" 194),("__firstlineno__",321,.int 19 320),("__static_attributes__",322,.ref 114),("__doc__",323,.none)]
def z21:Obj:=fN "wants" "Cursor.wants" (sub 16 3)
def Z5:Obj:=⟨.type "code",none,.fields (List.toArray [.str "PlanError" 198,.str "PlanError" 199,.str "/claim/cut.py" 200,.int 5 0,.int 0 0,.int 0 0,.int 0 0,.int 0 0,.ref 25,.bool false,.int 181 0,.ref 26,.none,.none,.none,.none,.int 201 0,.int 5 0,.str "/claim/cut.py" 202]),#[]⟩
def Xy(P:Params):Obj:=dO 2 P [("__module__",221,.str "planwell.errors" 194),("__firstlineno__",225,.int 7 224),("__static_attributes__",226,.ref 42),("__doc__",227,.none)]
def XW:Obj:={ cls:=.type "getset_descriptor",data:=.fields #[.str "__weakref__" 484,.ref 233,.builtin "ExceptionGroup.__weakref__",.none] }
def Xh(P:Params):Obj:=dO 2 P [("__module__",285,.str "planwell.errors" 194),("__firstlineno__",289,.int 15 288),("__static_attributes__",290,.ref 90),("__doc__",291,.none)]
def Xp:Obj:=cO "take_name" "Cursor.take_name" 423 60 1 182 (.ref 184) (.ref 185) 186 429
def X8:Obj:={ cls:=.type "super",data:=.fields #[.ref 31,.ref 31,.ref 31] }
def Y4:Obj:={ cls:=.type "frame",slots:=#[some (.ref 64),some (.ref 3),some (.ref 61),none,some (.str "planwell.errors" 194),none,some (.ref 0)] }
def Yi:Obj:={ cls:=.type "super",data:=.fields #[.ref 128,.ref 128,.ref 128] }
def Zw:Obj:=fN "take_names" "Cursor.take_names" (sub 16 5)
def Y3(P:Params):Obj:=dO 4 P [("__module__",301,.str "planwell.errors" 194),("__qualname__",303,.str "BadEnds" 302),("__firstlineno__",305,.int 17 304),("__static_attributes__",306,.ref 102)]
def Zu(P:Params):Obj:=dO 4 P [("__module__",237,.str "planwell.errors" 194),("__qualname__",239,.str "NotLinear" 238),("__firstlineno__",241,.int 9 240),("__static_attributes__",242,.ref 54)]
def Yo:Obj:={ cls:=.type "super",data:=.fields #[.ref 80,.ref 80,.ref 80] }
def Xu:Obj:=fQ "fraction" "fraction" (tp 13) (.ref 138) "planwell.fractions" 342 144
def X0:Obj:=fQ "take_number" "Cursor.take_number" (sub 16 7) .none "planwell.cursor" 363 208
def YH:Obj:={ cls:=.type "frame",slots:=#[some (.ref 112),some (.ref 3),some (.ref 109),none,some (.str "planwell.errors" 194),none,some (.ref 0)] }
def Zv:Obj:=tO [.str "self" 418,.str "word" 419]
def Zt:Obj:={ cls:=.type "frame",slots:=#[some (.ref 40),some (.ref 3),some (.ref 37),none,some (.str "planwell.errors" 194),none,some (.ref 0)] }
def YE(P:Params):Obj:=dO 4 P [("__module__",269,.str "planwell.errors" 194),("__qualname__",271,.str "BadName" 270),("__firstlineno__",273,.int 13 272),("__static_attributes__",274,.ref 78)]
def XQ:Obj:=fQ "greatest_divisor" "greatest_divisor" (tp 12) .none "planwell.fractions" 342 136
def Xj:Obj:=cO "sees_number" "Cursor.sees_number" 440 75 1 196 (.ref 198) (.ref 199) 200 445
def ZC:Obj:={ cls:=.type "super",data:=.fields #[.ref 104,.ref 104,.ref 104] }
def XC:Obj:={ cls:=.type "type",data:=.cls { name:="Cursor",bases:=[.type "object"],mro:=[.ref 233,.type "object"],ns:=232,qualname:="Cursor" },slots:=#[none,none,some (.str "Cursor" 379),some (.str "Cursor" 387),some (.builtin "object.__new__"),some (.bool .true)] }
def Yp:Obj:={ cls:=.type "super",data:=.fields #[.ref 56,.ref 56,.ref 56] }
def Yj:Obj:={ cls:=.type "frame",slots:=#[some (.ref 88),some (.ref 3),some (.ref 85),none,some (.str "planwell.errors" 194),none,some (.ref 0)] }
def z46:Obj:={ cls:=.type "frame",slots:=#[some (.ref 152),some (.ref 3),some (.ref 149),none,some (.str "planwell.cursor" 363),none,some (.ref 0)] }
def Zx(P:Params):Obj:=dO 4 P [("__module__",333,.str "planwell.errors" 194),("__qualname__",335,.str "TooMany" 334),("__firstlineno__",337,.int 21 336),("__static_attributes__",338,.ref 126)]
def Zb:Obj:=⟨.type "code",none,.fields (List.toArray [.str "<module>" 182,.str "<module>" 183,.str "/claim/cut.py" 184,.int 1 0,.int 0 0,.int 0 0,.int 0 0,.int 0 0,.ref 11,.bool false,.int 181 0,.ref 12,.none,.none,.none,.none,.int 185 0,.int 1 0,.str "/claim/cut.py" 186]),#[]⟩
def XY:Obj:=fQ "_wall" "_wall" (tp 0) .none "__main__" 164 20
def Yz(P:Params):Obj:=dO 4 P [("__module__",221,.str "planwell.errors" 194),("__qualname__",223,.str "BadFraction" 222),("__firstlineno__",225,.int 7 224),("__static_attributes__",226,.ref 42)]
def Ze:Obj:={ cls:=.type "super",data:=.fields #[.ref 68,.ref 68,.ref 68] }
def YY:Obj:=tO [.str "one" 347,.str "other" 348,.str "rest" 349]
def Za:Obj:={ cls:=.type "frame",slots:=#[some (.ref 100),some (.ref 3),some (.ref 97),none,some (.str "planwell.errors" 194),none,some (.ref 0)] }
def YU:Obj:=fN "seen" "Cursor.seen" (sub 16 1)
def XU:Obj:=cO "take_keys" "Cursor.take_keys" 471 97 1 224 (.ref 226) (.ref 227) 228 477
def Yn:Obj:={ cls:=.type "frame",slots:=#[some (.ref 52),some (.ref 3),some (.ref 49),none,some (.str "planwell.errors" 194),none,some (.ref 0)] }
def Ym(P:Params):Obj:=dO 4 P [("__module__",285,.str "planwell.errors" 194),("__qualname__",287,.str "BadTable" 286),("__firstlineno__",289,.int 15 288),("__static_attributes__",290,.ref 90)]
def Yq(P:Params):Obj:=dO 15 P [("__module__",386,.str "planwell.cursor" 363),("__qualname__",388,.str "Cursor" 387),("__firstlineno__",390,.int 39 389),("__init__",399,.ref 160),("seen",406,.ref 167),("passes",414,.ref 174),("wants",422,.ref 181),("take_name",430,.ref 188),("take_names",439,.ref 195),("sees_number",446,.ref 202),("take_number",454,.ref 209),("take_ratio",463,.ref 216),("take_value",470,.ref 223),("take_keys",478,.ref 230),("__static_attributes__",481,.ref 231)]
def Z4:Obj:={ cls:=.type "super",data:=.fields #[.ref 116,.ref 116,.ref 116] }
def XZ:Obj:=fQ "wants" "Cursor.wants" (sub 16 3) .none "planwell.cursor" 363 180
def Z0:Obj:={ cls:=.type "super",data:=.fields #[.ref 44,.ref 44,.ref 44] }
def Y7:Obj:={ cls:=.type "frame",slots:=#[some (.ref 76),some (.ref 3),some (.ref 73),none,some (.str "planwell.errors" 194),none,some (.ref 0)] }
def Yh:Obj:=tO [.str "top" 357,.str "bottom" 358,.str "divisor" 359]
def YK:Obj:=tO [.str "self" 450,.str "word" 451]
def X6(P:Params):Obj:=dO 4 P [("__module__",317,.str "planwell.errors" 194),("__qualname__",319,.str "BadGoal" 318),("__firstlineno__",321,.int 19 320),("__static_attributes__",322,.ref 114)]
def Xi:Obj:=cO "passes" "Cursor.passes" 407 50 2 168 (.ref 170) (.ref 171) 172 413
def Zr:Obj:={ cls:=.type "builtin_function_or_method",data:=.fields #[.builtin "object.__init_subclass__",.ref 233] }
def ZO(P:Params):Obj:=dO 4 P [("__module__",253,.str "planwell.errors" 194),("__qualname__",255,.str "BadText" 254),("__firstlineno__",257,.int 11 256),("__static_attributes__",258,.ref 66)]
def YL:Obj:={ cls:=.type "super",data:=.fields #[.ref 92,.ref 92,.ref 92] }
def Zd:Obj:=fN "take_value" "Cursor.take_value" (sub 16 9)
def Y5:Obj:={ cls:=.type "frame",slots:=#[some (.ref 124),some (.ref 3),some (.ref 121),none,some (.str "planwell.errors" 194),none,some (.ref 0)] }
def XT:Obj:={ cls:=.type "getset_descriptor",data:=.fields #[.str "__weakref__" 209,.ref 31,.builtin "ExceptionGroup.__weakref__",.none] }
def YM:Obj:=⟨.type "code",none,.fields (List.toArray [.str "BadText" 248,.str "BadText" 249,.str "/claim/cut.py" 250,.int 11 0,.int 0 0,.int 0 0,.int 0 0,.int 0 0,.ref 62,.bool false,.int 181 0,.ref 63,.none,.none,.none,.none,.int 251 0,.int 11 0,.str "/claim/cut.py" 252]),#[]⟩
def Xs:Obj:={ cls:=.type "type",data:=.cls { name:="TooMany",bases:=[.ref 31],mro:=[.ref 128,.ref 31,.type "ValueError",.type "Exception",.type "BaseException",.type "object"],ns:=127,qualname:="TooMany" },slots:=#[some (.ref 119),none,some (.str "TooMany" 326),some (.str "TooMany" 334),some (.builtin "ValueError.__new__"),some (.bool .true)] }
def W':Obj:=fQ "__init__" "Cursor.__init__" (sub 16 0) .none "planwell.cursor" 363 159
def XH:Obj:={ cls:=.type "type",data:=.cls { name:="BadName",bases:=[.ref 31],mro:=[.ref 80,.ref 31,.type "ValueError",.type "Exception",.type "BaseException",.type "object"],ns:=79,qualname:="BadName" },slots:=#[some (.ref 71),none,some (.str "BadName" 262),some (.str "BadName" 270),some (.builtin "ValueError.__new__"),some (.bool .true)] }
def XR:Obj:=cO "fraction" "fraction" 354 30 2 139 (.ref 141) (.ref 142) 143 361
def XS:Obj:=cO "take_number" "Cursor.take_number" 447 78 1 203 (.ref 205) (.ref 206) 207 453
def ZX:Obj:=⟨.type "code",none,.fields (List.toArray [.str "BadGoal" 312,.str "BadGoal" 313,.str "/claim/cut.py" 314,.int 19 0,.int 0 0,.int 0 0,.int 0 0,.int 0 0,.ref 110,.bool false,.int 181 0,.ref 111,.none,.none,.none,.none,.int 315 0,.int 19 0,.str "/claim/cut.py" 316]),#[]⟩
def Zg(P:Params):Obj:=dO 4 P [("__module__",203,.str "planwell.errors" 194),("__qualname__",205,.str "PlanError" 204),("__firstlineno__",207,.int 5 206),("__static_attributes__",208,.ref 29)]
def ZU:Obj:=⟨.type "code",none,.fields (List.toArray [.str "BadFraction" 216,.str "BadFraction" 217,.str "/claim/cut.py" 218,.int 7 0,.int 0 0,.int 0 0,.int 0 0,.int 0 0,.ref 38,.bool false,.int 181 0,.ref 39,.none,.none,.none,.none,.int 219 0,.int 7 0,.str "/claim/cut.py" 220]),#[]⟩
def Xk:Obj:=cO "greatest_divisor" "greatest_divisor" 344 24 2 131 (.ref 133) (.ref 134) 135 351
def Z1:Obj:=fN "sees_number" "Cursor.sees_number" (sub 16 6)
def Xc:Obj:={ cls:=.type "type",data:=.cls { name:="BadEnds",bases:=[.ref 31],mro:=[.ref 104,.ref 31,.type "ValueError",.type "Exception",.type "BaseException",.type "object"],ns:=103,qualname:="BadEnds" },slots:=#[some (.ref 95),none,some (.str "BadEnds" 294),some (.str "BadEnds" 302),some (.builtin "ValueError.__new__"),some (.bool .true)] }
def XA(P:Params):Obj:=dO 4 P [("__module__",386,.str "planwell.cursor" 363),("__firstlineno__",390,.int 39 389),("__init__",399,.ref 160),("seen",406,.ref 167),("passes",414,.ref 174),("wants",422,.ref 181),("take_name",430,.ref 188),("take_names",439,.ref 195),("sees_number",446,.ref 202),("take_number",454,.ref 209),("take_ratio",463,.ref 216),("take_value",470,.ref 223),("take_keys",478,.ref 230),("__static_attributes__",481,.ref 231),("__dict__",483,.ref 234),("__weakref__",485,.ref 235),("__doc__",486,.none)]
def W8:Obj:={ cls:=.type "type",data:=.cls { name:="NotLinear",bases:=[.ref 31],mro:=[.ref 56,.ref 31,.type "ValueError",.type "Exception",.type "BaseException",.type "object"],ns:=55,qualname:="NotLinear" },slots:=#[some (.ref 47),none,some (.str "NotLinear" 230),some (.str "NotLinear" 238),some (.builtin "ValueError.__new__"),some (.bool .true)] }
def YD:Obj:=⟨.type "code",none,.fields (List.toArray [.str "BadTable" 280,.str "BadTable" 281,.str "/claim/cut.py" 282,.int 15 0,.int 0 0,.int 0 0,.int 0 0,.int 0 0,.ref 86,.bool false,.int 181 0,.ref 87,.none,.none,.none,.none,.int 283 0,.int 15 0,.str "/claim/cut.py" 284]),#[]⟩
def Ys:Obj:=⟨.type "code",none,.fields (List.toArray [.str "Cursor" 381,.str "Cursor" 382,.str "/claim/cut.py" 383,.int 39 0,.int 0 0,.int 0 0,.int 0 0,.int 0 0,.ref 150,.bool false,.int 181 0,.ref 151,.none,.none,.none,.none,.int 384 0,.int 39 0,.str "/claim/cut.py" 385]),#[]⟩
def Xg:Obj:=fQ "take_ratio" "Cursor.take_ratio" (sub 16 8) .none "planwell.cursor" 363 215
def YC:Obj:=tO [.str "self" 426,.str "word" 427]
def Xl:Obj:=cO "_wall" "_wall" 187 1 1 15 (.ref 17) (.ref 18) 19 192
def XX:Obj:={ cls:=.type "type",data:=.cls { name:="BadText",bases:=[.ref 31],mro:=[.ref 68,.ref 31,.type "ValueError",.type "Exception",.type "BaseException",.type "object"],ns:=67,qualname:="BadText" },slots:=#[some (.ref 59),none,some (.str "BadText" 246),some (.str "BadText" 254),some (.builtin "ValueError.__new__"),some (.bool .true)] }
def Y1:Obj:=⟨.type "code",none,.fields (List.toArray [.str "BadEnds" 296,.str "BadEnds" 297,.str "/claim/cut.py" 298,.int 17 0,.int 0 0,.int 0 0,.int 0 0,.int 0 0,.ref 98,.bool false,.int 181 0,.ref 99,.none,.none,.none,.none,.int 299 0,.int 17 0,.str "/claim/cut.py" 300]),#[]⟩
def Zi:Obj:=fN "take_keys" "Cursor.take_keys" (sub 16 10)
def z95:Obj:=⟨.type "code",none,.fields (List.toArray [.str "NotLinear" 232,.str "NotLinear" 233,.str "/claim/cut.py" 234,.int 9 0,.int 0 0,.int 0 0,.int 0 0,.int 0 0,.ref 50,.bool false,.int 181 0,.ref 51,.none,.none,.none,.none,.int 235 0,.int 9 0,.str "/claim/cut.py" 236]),#[]⟩
def ZJ:Obj:=tO [.str "self" 458,.str "top" 459,.str "bottom" 460]
def Xb:Obj:={ cls:=.type "type",data:=.cls { name:="BadGoal",bases:=[.ref 31],mro:=[.ref 116,.ref 31,.type "ValueError",.type "Exception",.type "BaseException",.type "object"],ns:=115,qualname:="BadGoal" },slots:=#[some (.ref 107),none,some (.str "BadGoal" 310),some (.str "BadGoal" 318),some (.builtin "ValueError.__new__"),some (.bool .true)] }
def X2:Obj:=cO "wants" "Cursor.wants" 415 56 2 175 (.ref 177) (.ref 178) 179 421
def YR:Obj:={ cls:=.type "frame",slots:=#[some (.ref 27),some (.ref 3),some (.ref 24),none,some (.str "planwell.errors" 194),none,some (.ref 0)] }
def Pa:Obj:={ cls:=.type "type",data:=.cls { name:="BadFraction",bases:=[.ref 31],mro:=[.ref 44,.ref 31,.type "ValueError",.type "Exception",.type "BaseException",.type "object"],ns:=43,qualname:="BadFraction" },slots:=#[some (.ref 35),none,some (.str "BadFraction" 214),some (.str "BadFraction" 222),some (.builtin "ValueError.__new__"),some (.bool .true)] }
def RA:Obj:=⟨.type "code",none,.fields (List.toArray [.str "BadName" 264,.str "BadName" 265,.str "/claim/cut.py" 266,.int 13 0,.int 0 0,.int 0 0,.int 0 0,.int 0 0,.ref 74,.bool false,.int 181 0,.ref 75,.none,.none,.none,.none,.int 267 0,.int 13 0,.str "/claim/cut.py" 268]),#[]⟩
def RV:Obj:=fN "passes" "Cursor.passes" (sub 16 2)
def Ts:Obj:={ cls:=.type "super",data:=.fields #[.ref 233,.ref 233,.ref 233] }
def N4:Obj:={ cls:=.type "type",data:=.cls { name:="BadTable",bases:=[.ref 31],mro:=[.ref 92,.ref 31,.type "ValueError",.type "Exception",.type "BaseException",.type "object"],ns:=91,qualname:="BadTable" },slots:=#[some (.ref 83),none,some (.str "BadTable" 278),some (.str "BadTable" 286),some (.builtin "ValueError.__new__"),some (.bool .true)] }
def RD:Obj:=tO [.str "self" 394,.str "held" 395,.str "at" 396]
def S9:Obj:=⟨.type "code",none,.fields (List.toArray [.str "TooMany" 328,.str "TooMany" 329,.str "/claim/cut.py" 330,.int 21 0,.int 0 0,.int 0 0,.int 0 0,.int 0 0,.ref 122,.bool false,.int 181 0,.ref 123,.none,.none,.none,.none,.int 331 0,.int 21 0,.str "/claim/cut.py" 332]),#[]⟩
def NF:Obj:=fQ "take_name" "Cursor.take_name" (sub 16 4) .none "planwell.cursor" 363 187
def QI:Obj:={ cls:=.type "builtin_function_or_method",data:=.fields #[.builtin "object.__init_subclass__",.ref 31] }
def Qm:Obj:={ cls:=.type "builtin_function_or_method",data:=.fields #[.builtin "object.__init_subclass__",.ref 128] }
def NO:Obj:=cO "take_names" "Cursor.take_names" 431 67 2 189 (.ref 191) (.ref 192) 193 438
def SH:Obj:=tO [.str "self" 474,.str "keys" 475]
def QV:Obj:={ cls:=.type "builtin_function_or_method",data:=.fields #[.builtin "object.__init_subclass__",.ref 80] }
def Oy:Obj:=tO [.str "set" 365,.str "table" 366,.str "unknown" 367,.str "over" 368,.str "whole" 369,.str "from" 370,.str "to" 371,.str "row" 372,.str "each" 373,.str "in" 374,.str "sum" 375,.str "least" 376,.str "most" 377]
def OJ:Obj:=fQ "sees_number" "Cursor.sees_number" (sub 16 6) .none "planwell.cursor" 363 201
def Q3:Obj:={ cls:=.type "builtin_function_or_method",data:=.fields #[.builtin "object.__init_subclass__",.ref 104] }
def P9:Obj:=tO [.str "self" 410,.str "word" 411]
def OK:Obj:={ cls:=.type "getset_descriptor",data:=.fields #[.str "__dict__" 482,.ref 233,.builtin "function.__dict__",.builtin "function.__dict__#set"] }
def SF:Obj:={ cls:=.type "builtin_function_or_method",data:=.fields #[.builtin "object.__init_subclass__",.ref 56] }
def R':Obj:=fN "take_name" "Cursor.take_name" (sub 16 4)
def Rt:Obj:={ cls:=.type "frame",slots:=#[some (.ref 13),some (.ref 3),some (.ref 3),none,some (.str "__main__" 164),none,some (.ref 0)] }
def Sw:Obj:=tO [.type "ValueError"]
def Rl:Obj:={ cls:=.type "builtin_function_or_method",data:=.fields #[.builtin "object.__init_subclass__",.ref 68] }
def N6:Obj:=cO "seen" "Cursor.seen" 400 45 1 161 (.ref 163) (.ref 164) 165 405
def OQ:Obj:=fQ "take_keys" "Cursor.take_keys" (sub 16 10) .none "planwell.cursor" 363 229
def RY:Obj:=fN "take_ratio" "Cursor.take_ratio" (sub 16 8)
def QD:Obj:={ cls:=.type "builtin_function_or_method",data:=.fields #[.builtin "object.__init_subclass__",.ref 116] }
def NM(P:Params):Obj:=dO 3 P [("__module__",203,.str "planwell.errors" 194),("__firstlineno__",207,.int 5 206),("__static_attributes__",208,.ref 29),("__weakref__",210,.ref 32),("__doc__",211,.none)]
def Qj:Obj:={ cls:=.type "builtin_function_or_method",data:=.fields #[.builtin "object.__init_subclass__",.ref 44] }
def NQ:Obj:=fQ "passes" "Cursor.passes" (sub 16 2) .none "planwell.cursor" 363 173
def QT:Obj:={ cls:=.type "builtin_function_or_method",data:=.fields #[.builtin "object.__init_subclass__",.ref 92] }
def Tc:Obj:=fN "__init__" "Cursor.__init__" (sub 16 0)
def Og:Obj:=cO "take_value" "Cursor.take_value" 464 94 1 217 (.ref 219) (.ref 220) 221 469
def Uy:Obj:=tO [.str "self" 665,.str "world" 666]
def Qq:Obj:=fQ "told" "Number.told" (sub 19 1) .none "planwell.terms" 489 318
def Rw:Obj:=cO "laid" "Negative.laid" 733 177 2 442 (.ref 444) (.ref 445) 446 739
def Wb:Obj:=⟨.type "code",none,.fields (List.toArray [.str "Entry" 620,.str "Entry" 621,.str "/claim/cut.py" 622,.int 140 0,.int 0 0,.int 0 0,.int 0 0,.int 0 0,.ref 349,.bool false,.int 181 0,.ref 350,.none,.none,.none,.none,.int 623 0,.int 140 0,.str "/claim/cut.py" 624]),#[]⟩
def Ro:Obj:=cO "put" "Term.put" 524 113 3 266 (.ref 268) (.ref 269) 270 531
def Ws:Obj:={ cls:=.type "builtin_function_or_method",data:=.fields #[.builtin "object.__init_subclass__",.ref 397] }
def WL:Obj:=nO [.int 126 0,.int 4 0,.ref 311,.int 129 0,.int 4 0,.ref 318,.int 132 0,.int 4 0,.ref 325,.int 135 0,.int 4 0,.ref 332,.int 138 0,.int 4 0,.ref 339]
def UJ:Obj:=fN "shown" "Term.shown" (sub 18 2)
def QW:Obj:={ cls:=.type "getset_descriptor",data:=.fields #[.str "__dict__" 555,.ref 294,.builtin "function.__dict__",.builtin "function.__dict__#set"] }
def Sx:Obj:=fQ "__init__" "Entry.__init__" (sub 20 0) .none "planwell.terms" 489 358
def Se:Obj:=fQ "laid" "Term.laid" (sub 18 4) .none "planwell.terms" 489 278
def SZ:Obj:={ cls:=.type "type",data:=.cls { name:="Number",bases:=[.ref 294],mro:=[.ref 343,.ref 294,.type "object"],ns:=342,qualname:="Number" },slots:=#[some (.ref 299),none,some (.str "Number" 562),some (.str "Number" 570),some (.builtin "object.__new__"),some (.bool .true)] }
def S_:Obj:=cO "__init__" "Number.__init__" 574 126 2 306 (.ref 308) (.ref 309) 310 580
def Uk:Obj:=fN "put" "Negative.put" (sub 21 4)
def Tx:Obj:=fQ "laid" "Entry.laid" (sub 20 4) .none "planwell.terms" 489 386
def RM:Obj:={ cls:=.type "type",data:=.cls { name:="Negative",bases:=[.ref 294],mro:=[.ref 451,.ref 294,.type "object"],ns:=450,qualname:="Negative" },slots:=#[some (.ref 400),none,some (.str "Negative" 683),some (.str "Negative" 691),some (.builtin "object.__new__"),some (.bool .true)] }
def S0:Obj:=fQ "depth" "Term.depth" (sub 18 6) .none "planwell.terms" 489 290
def Tt:Obj:=cO "parts" "Negative.parts" 703 165 1 414 (.ref 416) (.ref 417) 418 708
def W3:Obj:=tO [.str "self" 633,.str "name" 634,.str "keys" 635]
def VI:Obj:=tO [.str "self" 536,.str "world" 537]
def R7:Obj:=cO "laid" "Number.laid" 605 138 2 334 (.ref 336) (.ref 337) 338 611
def Ue:Obj:=⟨.type "code",none,.fields (List.toArray [.str "Term" 493,.str "Term" 494,.str "/claim/cut.py" 495,.int 102 0,.int 0 0,.int 0 0,.int 0 0,.int 0 0,.ref 241,.bool false,.int 181 0,.ref 242,.none,.none,.none,.none,.int 496 0,.int 102 0,.str "/claim/cut.py" 497]),#[]⟩
def VB:Obj:=fN "shown" "Entry.shown" (sub 20 2)
def RQ:Obj:=tO [.str "name" 677,.str "places" 678]
def Vm:Obj:=fN "put" "Number.put" (sub 19 3)
def S4:Obj:=fQ "told" "Negative.told" (sub 21 2) .none "planwell.terms" 489 426
def UY:Obj:=fN "__init__" "Negative.__init__" (sub 21 0)
def P_:Obj:=fQ "parts" "Term.parts" (sub 18 0) .none "planwell.terms" 489 250
def Qg:Obj:=cO "put" "Entry.put" 653 152 3 374 (.ref 376) (.ref 377) 378 660
def Rb:Obj:=cO "told" "Term.told" 510 107 1 252 (.ref 254) (.ref 255) 256 515
def We:Obj:=fN "laid" "Entry.laid" (sub 20 4)
def WX:Obj:=fN "depth" "Term.depth" (sub 18 6)
def Vs:Obj:={ cls:=.type "frame",slots:=#[some (.ref 304),some (.ref 3),some (.ref 301),none,some (.str "planwell.terms" 489),none,some (.ref 0)] }
def Su:Obj:=cO "shown" "Negative.shown" 717 171 1 428 (.ref 430) (.ref 431) 432 722
def S6:Obj:=fQ "shown" "Term.shown" (sub 18 2) .none "planwell.terms" 489 264
def Sd:Obj:=cO "entries" "Entry.entries" 670 158 1 388 (.ref 390) (.ref 391) 392 675
def WQ:Obj:=tO [.str "self" 599,.str "binder" 600,.str "member" 601]
def UX:Obj:={ cls:=.type "super",data:=.fields #[.ref 294,.ref 294,.ref 294] }
def Us:Obj:=fN "told" "Negative.told" (sub 21 2)
def UA:Obj:=tO [.str "self" 698,.str "one" 699]
def UH:Obj:={ cls:=.type "builtin_function_or_method",data:=.fields #[.builtin "object.__init_subclass__",.ref 343] }
def RX:Obj:=fQ "put" "Negative.put" (sub 21 4) .none "planwell.terms" 489 440
def WI:Obj:=fN "parts" "Term.parts" (sub 18 0)
def Qc:Obj:=cO "shown" "Number.shown" 589 132 1 320 (.ref 322) (.ref 323) 324 594
def Wx:Obj:={ cls:=.type "builtin_function_or_method",data:=.fields #[.builtin "object.__init_subclass__",.ref 451] }
def QZ(P:Params):Obj:=dO 4 P [("__module__",498,.str "planwell.terms" 489),("__firstlineno__",502,.int 102 501),("parts",509,.ref 251),("told",516,.ref 258),("shown",523,.ref 265),("put",532,.ref 272),("laid",540,.ref 279),("entries",547,.ref 286),("depth",553,.ref 291),("__static_attributes__",554,.ref 292),("__dict__",556,.ref 295),("__weakref__",558,.ref 296),("__doc__",559,.none)]
def Wk:Obj:=fN "__init__" "Entry.__init__" (sub 20 0)
def Vf:Obj:=fN "laid" "Term.laid" (sub 18 4)
def Ul:Obj:=⟨.type "code",none,.fields (List.toArray [.str "Negative" 685,.str "Negative" 686,.str "/claim/cut.py" 687,.int 160 0,.int 0 0,.int 0 0,.int 0 0,.int 0 0,.ref 403,.bool false,.int 181 0,.ref 404,.none,.none,.none,.none,.int 688 0,.int 160 0,.str "/claim/cut.py" 689]),#[]⟩
def VW:Obj:=tO [.str "self" 727,.str "binder" 728,.str "member" 729]
def Rk:Obj:=fQ "shown" "Entry.shown" (sub 20 2) .none "planwell.terms" 489 372
def Qi:Obj:={ cls:=.type "type",data:=.cls { name:="Entry",bases:=[.ref 294],mro:=[.ref 397,.ref 294,.type "object"],ns:=396,qualname:="Entry" },slots:=#[some (.ref 346),none,some (.str "Entry" 618),some (.str "Entry" 626),some (.builtin "object.__new__"),some (.bool .true)] }
def RE:Obj:=fQ "put" "Number.put" (sub 19 3) .none "planwell.terms" 489 332
def Vl(P:Params):Obj:=dO 9 P [("__module__",569,.str "planwell.terms" 489),("__qualname__",571,.str "Number" 570),("__firstlineno__",573,.int 124 572),("__init__",581,.ref 312),("told",588,.ref 319),("shown",595,.ref 326),("put",604,.ref 333),("laid",612,.ref 340),("__static_attributes__",614,.ref 341)]
def SW:Obj:=cO "told" "Entry.told" 639 146 1 360 (.ref 362) (.ref 363) 364 644
def Ra:Obj:=cO "entries" "Term.entries" 541 119 1 280 (.ref 282) (.ref 283) 284 546
def SE:Obj:=fQ "__init__" "Negative.__init__" (sub 21 0) .none "planwell.terms" 489 412
def T7:Obj:=fN "told" "Number.told" (sub 19 1)
def U7:Obj:=fN "told" "Term.told" (sub 18 1)
def QM:Obj:=fQ "laid" "Negative.laid" (sub 21 5) .none "planwell.terms" 489 447
def Vc:Obj:={ cls:=.type "frame",slots:=#[some (.ref 351),some (.ref 3),some (.ref 348),none,some (.str "planwell.terms" 489),none,some (.ref 0)] }
def R0:Obj:=fQ "put" "Term.put" (sub 18 3) .none "planwell.terms" 489 271
def Ud:Obj:=tO [.str "self" 608,.str "world" 609]
def Wi:Obj:=⟨.type "code",none,.fields (List.toArray [.str "Number" 564,.str "Number" 565,.str "/claim/cut.py" 566,.int 124 0,.int 0 0,.int 0 0,.int 0 0,.int 0 0,.ref 302,.bool false,.int 181 0,.ref 303,.none,.none,.none,.none,.int 567 0,.int 124 0,.str "/claim/cut.py" 568]),#[]⟩
def VD:Obj:=fN "shown" "Negative.shown" (sub 21 3)
def U6(P:Params):Obj:=dO 11 P [("__module__",498,.str "planwell.terms" 489),("__qualname__",500,.str "Term" 499),("__firstlineno__",502,.int 102 501),("parts",509,.ref 251),("told",516,.ref 258),("shown",523,.ref 265),("put",532,.ref 272),("laid",540,.ref 279),("entries",547,.ref 286),("depth",553,.ref 291),("__static_attributes__",554,.ref 292)]
def RP:Obj:=cO "shown" "Term.shown" 517 110 1 259 (.ref 261) (.ref 262) 263 522
def WO:Obj:=fN "entries" "Entry.entries" (sub 20 5)
def Sm:Obj:={ cls:=.type "getset_descriptor",data:=.fields #[.str "__weakref__" 557,.ref 294,.builtin "ExceptionGroup.__weakref__",.none] }
def V_:Obj:={ cls:=.type "super",data:=.fields #[.ref 343,.ref 343,.ref 343] }
def Tb:Obj:=fQ "__init__" "Number.__init__" (sub 19 0) .none "planwell.terms" 489 311
def TN:Obj:=cO "put" "Negative.put" 724 174 3 435 (.ref 437) (.ref 438) 439 731
def Wd:Obj:=tO [.str "self" 656,.str "binder" 657,.str "member" 658]
def W7:Obj:=fN "shown" "Number.shown" (sub 19 2)
def V':Obj:={ cls:=.type "super",data:=.fields #[.ref 451,.ref 451,.ref 451] }
def Q7:Obj:=fQ "parts" "Negative.parts" (sub 21 1) .none "planwell.terms" 489 419
def Wr:Obj:=nO [.int 162 0,.int 4 0,.ref 412,.int 165 0,.int 4 0,.ref 419,.int 168 0,.int 4 0,.ref 426,.int 171 0,.int 4 0,.ref 433,.int 174 0,.int 4 0,.ref 440,.int 177 0,.int 4 0,.ref 447]
def Tr:Obj:=fQ "laid" "Number.laid" (sub 19 4) .none "planwell.terms" 489 339
def Wz:Obj:=tO [.str "self" 577,.str "fraction" 578]
def UZ:Obj:={ cls:=.type "frame",slots:=#[some (.ref 243),some (.ref 3),some (.ref 240),none,some (.str "planwell.terms" 489),none,some (.ref 0)] }
def RW:Obj:=cO "shown" "Entry.shown" 646 149 1 367 (.ref 369) (.ref 370) 371 651
def UO:Obj:=tO [.str "self" 527,.str "binder" 528,.str "member" 529]
def R3(P:Params):Obj:=dO 2 P [("__module__",625,.str "planwell.terms" 489),("__firstlineno__",629,.int 140 628),("__init__",638,.ref 359),("told",645,.ref 366),("shown",652,.ref 373),("put",661,.ref 380),("laid",669,.ref 387),("entries",676,.ref 394),("__static_attributes__",679,.ref 395),("__doc__",680,.none)]
def Sn:Obj:=cO "put" "Number.put" 596 135 3 327 (.ref 329) (.ref 330) 331 603
def VF:Obj:=fN "told" "Entry.told" (sub 20 1)
def U3:Obj:=fN "entries" "Term.entries" (sub 18 5)
def Sf:Obj:=cO "__init__" "Negative.__init__" 695 162 2 407 (.ref 409) (.ref 410) 411 701
def VX(P:Params):Obj:=dO 10 P [("__module__",625,.str "planwell.terms" 489),("__qualname__",627,.str "Entry" 626),("__firstlineno__",629,.int 140 628),("__init__",638,.ref 359),("told",645,.ref 366),("shown",652,.ref 373),("put",661,.ref 380),("laid",669,.ref 387),("entries",676,.ref 394),("__static_attributes__",679,.ref 395)]
def UW:Obj:=tO [.str "self" 736,.str "world" 737]
def Qr:Obj:=fQ "put" "Entry.put" (sub 20 3) .none "planwell.terms" 489 379
def S8:Obj:=fQ "told" "Term.told" (sub 18 1) .none "planwell.terms" 489 257
def RN:Obj:=cO "laid" "Entry.laid" 662 155 2 381 (.ref 383) (.ref 384) 385 668
def Sj(P:Params):Obj:=dO 2 P [("__module__",690,.str "planwell.terms" 489),("__firstlineno__",694,.int 160 693),("__init__",702,.ref 413),("parts",709,.ref 420),("told",716,.ref 427),("shown",723,.ref 434),("put",732,.ref 441),("laid",740,.ref 448),("__static_attributes__",742,.ref 449),("__doc__",743,.none)]
def R4:Obj:=cO "depth" "Term.depth" 548 122 1 287 .none .none 289 552
def U9:Obj:=fN "parts" "Negative.parts" (sub 21 1)
def UL(P:Params):Obj:=dO 10 P [("__module__",690,.str "planwell.terms" 489),("__qualname__",692,.str "Negative" 691),("__firstlineno__",694,.int 160 693),("__init__",702,.ref 413),("parts",709,.ref 420),("told",716,.ref 427),("shown",723,.ref 434),("put",732,.ref 441),("laid",740,.ref 448),("__static_attributes__",742,.ref 449)]
def WJ:Obj:=fN "laid" "Number.laid" (sub 19 4)
def QY:Obj:=fQ "shown" "Negative.shown" (sub 21 3) .none "planwell.terms" 489 433
def VT:Obj:=nO [.int 104 0,.int 4 0,.ref 250,.int 107 0,.int 4 0,.ref 257,.int 110 0,.int 4 0,.ref 264,.int 113 0,.int 4 0,.ref 271,.int 116 0,.int 4 0,.ref 278,.int 119 0,.int 4 0,.ref 285,.int 122 0,.int 4 0,.ref 290]
def TH:Obj:=fQ "entries" "Entry.entries" (sub 20 5) .none "planwell.terms" 489 393
def Wj:Obj:={ cls:=.type "builtin_function_or_method",data:=.fields #[.builtin "object.__init_subclass__",.ref 294] }
def SO:Obj:=cO "told" "Negative.told" 710 168 1 421 (.ref 423) (.ref 424) 425 715
def RZ:Obj:=cO "parts" "Term.parts" 503 104 1 245 (.ref 247) (.ref 248) 249 508
def Wt:Obj:=fN "put" "Entry.put" (sub 20 3)
def Ri:Obj:=fQ "shown" "Number.shown" (sub 19 2) .none "planwell.terms" 489 325
def SM:Obj:=cO "__init__" "Entry.__init__" 630 142 3 353 (.ref 355) (.ref 356) 357 637
def Rc:Obj:=cO "laid" "Term.laid" 533 116 2 273 (.ref 275) (.ref 276) 277 539
def WY:Obj:={ cls:=.type "frame",slots:=#[some (.ref 405),some (.ref 3),some (.ref 402),none,some (.str "planwell.terms" 489),none,some (.ref 0)] }
def Sy(P:Params):Obj:=dO 2 P [("__module__",569,.str "planwell.terms" 489),("__firstlineno__",573,.int 124 572),("__init__",581,.ref 312),("told",588,.ref 319),("shown",595,.ref 326),("put",604,.ref 333),("laid",612,.ref 340),("__static_attributes__",614,.ref 341),("__doc__",615,.none)]
def U0:Obj:=fN "__init__" "Number.__init__" (sub 19 0)
def Uz:Obj:=fN "put" "Term.put" (sub 18 3)
def Vq:Obj:={ cls:=.type "super",data:=.fields #[.ref 397,.ref 397,.ref 397] }
def R_:Obj:=fQ "told" "Entry.told" (sub 20 1) .none "planwell.terms" 489 365
def Q8:Obj:=fQ "entries" "Term.entries" (sub 18 5) .none "planwell.terms" 489 285
def T8:Obj:=nO [.int 142 0,.int 4 0,.ref 358,.int 146 0,.int 4 0,.ref 365,.int 149 0,.int 4 0,.ref 372,.int 152 0,.int 4 0,.ref 379,.int 155 0,.int 4 0,.ref 386,.int 158 0,.int 4 0,.ref 393]
def R9:Obj:=cO "told" "Number.told" 582 129 1 313 (.ref 315) (.ref 316) 317 587
def U2:Obj:=fN "laid" "Negative.laid" (sub 21 5)
def WZ:Obj:=cO "shown" "Joined.shown" 783 193 1 482 (.ref 484) (.ref 485) 486 788
def Ut:Obj:=cO "put" "Times.put" 903 220 3 574 (.ref 576) (.ref 577) 578 910
def Um:Obj:=fQ "put" "Minus.put" (sub 24 1) .none "planwell.terms" 489 546
def WT:Obj:=fQ "__init__" "Joined.__init__" (sub 22 0) .none "planwell.terms" 489 466
def Wh(P:Params):Obj:=dO 2 P [("__module__",805,.str "planwell.terms" 489),("__firstlineno__",809,.int 195 808),("__init__",818,.ref 507),("put",827,.ref 514),("laid",835,.ref 521),("__static_attributes__",836,.ref 522),("__doc__",837,.none)]
def VH:Obj:=fQ "laid" "Times.laid" (sub 25 2) .none "planwell.terms" 489 586
def U1:Obj:=kO "Joined" [.ref 294] [.ref 491,.ref 294,.type "object"] 490 "Joined" [.ref 524,.ref 557,.ref 590] [some (.ref 454),none,some (.str "Joined" 746),some (.str "Joined" 754),some (.builtin "object.__new__"),some (.bool .true)]
def UV:Obj:=cO "__init__" "Minus.__init__" 852 207 3 534 (.ref 536) (.ref 537) 538 859
def Vy:Obj:=fQ "__init__" "Plus.__init__" (sub 23 0) .none "planwell.terms" 489 506
def WD:Obj:=cO "put" "Plus.put" 819 200 3 508 (.ref 510) (.ref 511) 512 826
def W5:Obj:=fQ "told" "Joined.told" (sub 22 2) .none "planwell.terms" 489 480
def UI:Obj:=fQ "laid" "Plus.laid" (sub 23 2) .none "planwell.terms" 489 520
def Uo:Obj:=cO "laid" "Minus.laid" 870 213 2 548 (.ref 550) (.ref 551) 552 876
def UN:Obj:=tO [.str "mark" 790,.str "one" 791,.str "other" 792,.str "word" 793]
def VJ:Obj:=cO "parts" "Joined.parts" 769 187 1 468 (.ref 470) (.ref 471) 472 774
def UT(P:Params):Obj:=dO 2 P [("__module__",889,.str "planwell.terms" 489),("__firstlineno__",893,.int 215 892),("__init__",902,.ref 573),("put",911,.ref 580),("laid",919,.ref 587),("__static_attributes__",920,.ref 588),("__doc__",921,.none)]
def V3:Obj:={ cls:=.type "type",data:=.cls { name:="Minus",bases:=[.ref 491],mro:=[.ref 557,.ref 491,.ref 294,.type "object"],ns:=556,qualname:="Minus" },slots:=#[some (.ref 527),none,some (.str "Minus" 840),some (.str "Minus" 848),some (.builtin "object.__new__"),some (.bool .true)] }
def VN:Obj:=fQ "__init__" "Times.__init__" (sub 25 0) .none "planwell.terms" 489 572
def VU:Obj:=cO "told" "Joined.told" 776 190 1 475 (.ref 477) (.ref 478) 479 781
def V6:Obj:=cO "laid" "Plus.laid" 828 203 2 515 (.ref 517) (.ref 518) 519 834
def Uh:Obj:=fQ "shown" "Joined.shown" (sub 22 3) .none "planwell.terms" 489 487
def Ve:Obj:=fQ "put" "Times.put" (sub 25 1) .none "planwell.terms" 489 579
def Ur:Obj:={ cls:=.type "type",data:=.cls { name:="Plus",bases:=[.ref 491],mro:=[.ref 524,.ref 491,.ref 294,.type "object"],ns:=523,qualname:="Plus" },slots:=#[some (.ref 494),none,some (.str "Plus" 798),some (.str "Plus" 806),some (.builtin "object.__new__"),some (.bool .true)] }
def VE(P:Params):Obj:=dO 2 P [("__module__",847,.str "planwell.terms" 489),("__firstlineno__",851,.int 205 850),("__init__",860,.ref 540),("put",869,.ref 547),("laid",877,.ref 554),("__static_attributes__",878,.ref 555),("__doc__",879,.none)]
def Up:Obj:=fQ "__init__" "Minus.__init__" (sub 24 0) .none "planwell.terms" 489 539
def U':Obj:=cO "__init__" "Times.__init__" 894 217 3 567 (.ref 569) (.ref 570) 571 901
def VZ:Obj:=fQ "put" "Plus.put" (sub 23 1) .none "planwell.terms" 489 513
def Wu:Obj:=cO "put" "Minus.put" 861 210 3 541 (.ref 543) (.ref 544) 545 868
def UP:Obj:=cO "__init__" "Joined.__init__" 758 181 5 461 (.ref 463) (.ref 464) 465 767
def V2:Obj:=cO "laid" "Times.laid" 912 223 2 581 (.ref 583) (.ref 584) 585 918
def Wa:Obj:=fQ "laid" "Minus.laid" (sub 24 2) .none "planwell.terms" 489 553
def Wl(P:Params):Obj:=dO 2 P [("__module__",753,.str "planwell.terms" 489),("__firstlineno__",757,.int 179 756),("__init__",768,.ref 467),("parts",775,.ref 474),("told",782,.ref 481),("shown",789,.ref 488),("__static_attributes__",794,.ref 489),("__doc__",795,.none)]
def Vn:Obj:=fQ "parts" "Joined.parts" (sub 22 1) .none "planwell.terms" 489 473
def UU:Obj:=cO "__init__" "Plus.__init__" 810 197 3 501 (.ref 503) (.ref 504) 505 817
def Va:Obj:={ cls:=.type "type",data:=.cls { name:="Times",bases:=[.ref 491],mro:=[.ref 590,.ref 491,.ref 294,.type "object"],ns:=589,qualname:="Times" },slots:=#[some (.ref 560),none,some (.str "Times" 882),some (.str "Times" 890),some (.builtin "object.__new__"),some (.bool .true)] }
def KP(P:Params):PySem.W.Frag:=
  (nat_lit 2,{ cls:=.none,data:=.dict #[] }) ::
  (nat_lit 3,dO 57 P [("__name__",165,.str "law_planwell_k07_terms_read" 1074),("__doc__",166,.none),("__package__",167,.none),("__loader__",168,.builtin "__main__.__loader__#opaque"),("__spec__",169,.none),("__annotations__",170,.ref 6),("__builtins__",171,.ref 4),("__file__",173,.str "/claim/cut.py" 172),("__cached__",174,.none),("_wall",193,.ref 21),("PlanError",213,.ref 31),("BadFraction",229,.ref 44),("NotLinear",245,.ref 56),("BadText",261,.ref 68),("BadName",277,.ref 80),("BadTable",293,.ref 92),("BadEnds",309,.ref 104),("BadGoal",325,.ref 116),("TooMany",341,.ref 128),("greatest_divisor",352,.ref 137),("fraction",362,.ref 145),("KEPT_WORDS",378,.ref 146),("Cursor",488,.ref 233),("Term",561,.ref 294),("Number",617,.ref 343),("Entry",682,.ref 397),("Negative",745,.ref 451),("Joined",797,.ref 491),("Plus",839,.ref 524),("Minus",881,.ref 557),("Times",923,.ref 590),("Sum",990,.ref 644),("MOST_DEPTH",994,.int 60 993),("MOST_OPEN",996,.int 30 995),("MOST_SUMS",998,.int 3 997),("term_of",1008,.ref 653),("term_at",1018,.ref 660),("product_at",1028,.ref 667),("part_at",1038,.ref 674),("sum_at",1050,.ref 681),("entry_at",1059,.ref 688),("one_more_open",1066,.ref 695),("checked_depth",1073,.ref 702),("_law_at",1083,.ref 709),("_law_mixed",1092,.ref 716),("_law_reserved",1099,.ref 723),("_law_pool",1105,.ref 728),("_law_fraction",1116,.ref 735),("_law_tree",1122,.ref 740),("_law_row_of",1139,.ref 747),("_law_is_bad",1146,.ref 754),("_law_told",1155,.ref 761),("_law_right",1168,.ref 768),("_law_long",1184,.ref 775),("_law_sums",1195,.ref 782),("_law_deep",1201,.ref 787),("law",1215,.ref 794)]) ::
  (nat_lit 4,{ cls:=.type "module",dict:=some 0 }) ::
  (nat_lit 6,dO 0 P []) ::
  (nat_lit 20,Xl) ::
  (nat_lit 21,XY) ::
  (nat_lit 29,tO []) ::
  (nat_lit 30,(NM P)) ::
  (nat_lit 31,z1) ::
  (nat_lit 32,XT) ::
  (nat_lit 42,tO []) ::
  (nat_lit 43,(Xy P)) ::
  (nat_lit 44,Pa) ::
  (nat_lit 54,tO []) ::
  (nat_lit 55,(XJ P)) ::
  (nat_lit 56,W8) ::
  (nat_lit 66,tO []) ::
  (nat_lit 67,(XD P)) ::
  (nat_lit 68,XX) ::
  (nat_lit 78,tO []) ::
  (nat_lit 79,(z6 P)) ::
  (nat_lit 80,XH) ::
  (nat_lit 90,tO []) ::
  (nat_lit 91,(Xh P)) ::
  (nat_lit 92,N4) ::
  (nat_lit 102,tO []) ::
  (nat_lit 103,(XE P)) ::
  (nat_lit 104,Xc) ::
  (nat_lit 114,tO []) ::
  (nat_lit 115,(Xm P)) ::
  (nat_lit 116,Xb) ::
  (nat_lit 126,tO []) ::
  (nat_lit 127,(z2 P)) ::
  (nat_lit 128,Xs) ::
  (nat_lit 136,Xk) ::
  (nat_lit 137,XQ) ::
  (nat_lit 138,tO [.int 1 353]) ::
  (nat_lit 144,XR) ::
  (nat_lit 145,Xu) ::
  (nat_lit 146,Oy) ::
  (nat_lit 159,z4) ::
  (nat_lit 160,W') ::
  (nat_lit 166,N6) ::
  (nat_lit 167,XO) ::
  (nat_lit 173,Xi) ::
  (nat_lit 174,NQ) ::
  (nat_lit 180,X2) ::
  (nat_lit 181,XZ) ::
  (nat_lit 187,Xp) ::
  (nat_lit 188,NF) ::
  (nat_lit 194,NO) ::
  (nat_lit 195,Xz) ::
  (nat_lit 201,Xj) ::
  (nat_lit 202,OJ) ::
  (nat_lit 208,XS) ::
  (nat_lit 209,X0) ::
  (nat_lit 215,XI) ::
  (nat_lit 216,Xg) ::
  (nat_lit 222,Og) ::
  (nat_lit 223,z5) ::
  (nat_lit 229,XU) ::
  (nat_lit 230,OQ) ::
  (nat_lit 231,Xr) ::
  (nat_lit 232,(XA P)) ::
  (nat_lit 233,XC) ::
  (nat_lit 234,OK) ::
  (nat_lit 235,XW) ::
  (nat_lit 250,RZ) ::
  (nat_lit 251,P_) ::
  (nat_lit 257,Rb) ::
  (nat_lit 258,S8) ::
  (nat_lit 264,RP) ::
  (nat_lit 265,S6) ::
  (nat_lit 271,Ro) ::
  (nat_lit 272,R0) ::
  (nat_lit 278,Rc) ::
  (nat_lit 279,Se) ::
  (nat_lit 285,Ra) ::
  (nat_lit 286,Q8) ::
  (nat_lit 290,R4) ::
  (nat_lit 291,S0) ::
  (nat_lit 292,tO []) ::
  (nat_lit 293,(QZ P)) ::
  (nat_lit 294,kO "Term" [.type "object"] [.ref 294,.type "object"] 293 "Term" [.ref 343,.ref 397,.ref 451,.ref 491,.ref 644] [none,none,some (.str "Term" 491),some (.str "Term" 499),some (.builtin "object.__new__"),some (.bool .true)]) ::
  (nat_lit 295,QW) ::
  (nat_lit 296,Sm) ::
  (nat_lit 311,S_) ::
  (nat_lit 312,Tb) ::
  (nat_lit 318,R9) ::
  (nat_lit 319,Qq) ::
  (nat_lit 325,Qc) ::
  (nat_lit 326,Ri) ::
  (nat_lit 332,Sn) ::
  (nat_lit 333,RE) ::
  (nat_lit 339,R7) ::
  (nat_lit 340,Tr) ::
  (nat_lit 341,tO [.str "worth" 613]) ::
  (nat_lit 342,(Sy P)) ::
  (nat_lit 343,SZ) ::
  (nat_lit 358,SM) ::
  (nat_lit 359,Sx) ::
  (nat_lit 365,SW) ::
  (nat_lit 366,R_) ::
  (nat_lit 372,RW) ::
  (nat_lit 373,Rk) ::
  (nat_lit 379,Qg) ::
  (nat_lit 380,Qr) ::
  (nat_lit 386,RN) ::
  (nat_lit 387,Tx) ::
  (nat_lit 393,Sd) ::
  (nat_lit 394,TH) ::
  (nat_lit 395,RQ) ::
  (nat_lit 396,(R3 P)) ::
  (nat_lit 397,Qi) ::
  (nat_lit 412,Sf) ::
  (nat_lit 413,SE) ::
  (nat_lit 419,Tt) ::
  (nat_lit 420,Q7) ::
  (nat_lit 426,SO) ::
  (nat_lit 427,S4) ::
  (nat_lit 433,Su) ::
  (nat_lit 434,QY) ::
  (nat_lit 440,TN) ::
  (nat_lit 441,RX) ::
  (nat_lit 447,Rw) ::
  (nat_lit 448,QM) ::
  (nat_lit 449,tO [.str "one" 741]) ::
  (nat_lit 450,(Sj P)) ::
  (nat_lit 451,RM) ::
  (nat_lit 466,UP) ::
  (nat_lit 467,WT) ::
  (nat_lit 473,VJ) ::
  (nat_lit 474,Vn) ::
  (nat_lit 480,VU) ::
  (nat_lit 481,W5) ::
  (nat_lit 487,WZ) ::
  (nat_lit 488,Uh) ::
  (nat_lit 489,UN) ::
  (nat_lit 490,(Wl P)) ::
  (nat_lit 491,U1) ::
  (nat_lit 506,UU) ::
  (nat_lit 507,Vy) ::
  (nat_lit 513,WD) ::
  (nat_lit 514,VZ) ::
  (nat_lit 520,V6) ::
  (nat_lit 521,UI) ::
  (nat_lit 522,tO []) ::
  (nat_lit 523,(Wh P)) ::
  (nat_lit 524,Ur) ::
  (nat_lit 539,UV) ::
  (nat_lit 540,Up) ::
  (nat_lit 546,Wu) ::
  (nat_lit 547,Um) ::
  (nat_lit 553,Uo) ::
  (nat_lit 554,Wa) ::
  (nat_lit 555,tO []) ::
  (nat_lit 556,(VE P)) ::
  (nat_lit 557,V3) ::
  (nat_lit 572,U') ::
  (nat_lit 573,VN) ::
  (nat_lit 579,Ut) ::
  (nat_lit 580,Ve) ::
  (nat_lit 586,V2) ::
  (nat_lit 587,VH) ::
  (nat_lit 588,tO []) ::
  (nat_lit 589,(UT P)) ::
  (nat_lit 590,Va) ::
  (nat_lit 605,cO "__init__" "Sum.__init__" 936 227 4 600 (.ref 602) (.ref 603) 604 944) ::
  (nat_lit 606,fQ "__init__" "Sum.__init__" (sub 26 0) .none "planwell.terms" 489 605) ::
  (nat_lit 612,cO "parts" "Sum.parts" 946 232 1 607 (.ref 609) (.ref 610) 611 951) ::
  (nat_lit 613,fQ "parts" "Sum.parts" (sub 26 1) .none "planwell.terms" 489 612) ::
  (nat_lit 619,cO "told" "Sum.told" 953 235 1 614 (.ref 616) (.ref 617) 618 958) ::
  (nat_lit 620,fQ "told" "Sum.told" (sub 26 2) .none "planwell.terms" 489 619) ::
  (nat_lit 626,cO "shown" "Sum.shown" 960 238 1 621 (.ref 623) (.ref 624) 625 965) ::
  (nat_lit 627,fQ "shown" "Sum.shown" (sub 26 3) .none "planwell.terms" 489 626) ::
  (nat_lit 633,cO "put" "Sum.put" 967 241 3 628 (.ref 630) (.ref 631) 632 974) ::
  (nat_lit 634,fQ "put" "Sum.put" (sub 26 4) .none "planwell.terms" 489 633) ::
  (nat_lit 640,cO "laid" "Sum.laid" 976 244 2 635 (.ref 637) (.ref 638) 639 982) ::
  (nat_lit 641,fQ "laid" "Sum.laid" (sub 26 5) .none "planwell.terms" 489 640) ::
  (nat_lit 642,tO [.str "binder" 984,.str "group" 985,.str "one" 986]) ::
  (nat_lit 643,dO 2 P [("__module__",931,.str "planwell.terms" 489),("__firstlineno__",935,.int 225 934),("__init__",945,.ref 606),("parts",952,.ref 613),("told",959,.ref 620),("shown",966,.ref 627),("put",975,.ref 634),("laid",983,.ref 641),("__static_attributes__",987,.ref 642),("__doc__",988,.none)]) ::
  (nat_lit 644,{ cls:=.type "type",data:=.cls { name:="Sum",bases:=[.ref 294],mro:=[.ref 644,.ref 294,.type "object"],ns:=643,qualname:="Sum" },slots:=#[some (.ref 593),none,some (.str "Sum" 924),some (.str "Sum" 932),some (.builtin "object.__new__"),some (.bool .true)] }) ::
  (nat_lit 652,cO "term_of" "term_of" 999 250 2 647 (.ref 649) (.ref 650) 651 1007) ::
  (nat_lit 653,fQ "term_of" "term_of" (tp 31) .none "planwell.parsing" 991 652) ::
  (nat_lit 659,cO "term_at" "term_at" 1009 254 3 654 (.ref 656) (.ref 657) 658 1017) ::
  (nat_lit 660,fQ "term_at" "term_at" (tp 32) .none "planwell.parsing" 991 659) ::
  (nat_lit 666,cO "product_at" "product_at" 1019 263 3 661 (.ref 663) (.ref 664) 665 1027) ::
  (nat_lit 667,fQ "product_at" "product_at" (tp 33) .none "planwell.parsing" 991 666) ::
  (nat_lit 673,cO "part_at" "part_at" 1029 268 3 668 (.ref 670) (.ref 671) 672 1037) ::
  (nat_lit 674,fQ "part_at" "part_at" (tp 34) .none "planwell.parsing" 991 673) ::
  (nat_lit 680,cO "sum_at" "sum_at" 1039 280 3 675 (.ref 677) (.ref 678) 679 1049) ::
  (nat_lit 681,fQ "sum_at" "sum_at" (tp 35) .none "planwell.parsing" 991 680) ::
  (nat_lit 687,cO "entry_at" "entry_at" 1051 291 2 682 (.ref 684) (.ref 685) 686 1058) ::
  (nat_lit 688,fQ "entry_at" "entry_at" (tp 36) .none "planwell.parsing" 991 687) ::
  (nat_lit 694,cO "one_more_open" "one_more_open" 1060 297 1 689 (.ref 691) (.ref 692) 693 1065) ::
  (nat_lit 695,fQ "one_more_open" "one_more_open" (tp 37) .none "planwell.parsing" 991 694) ::
  (nat_lit 701,cO "checked_depth" "checked_depth" 1067 301 1 696 (.ref 698) (.ref 699) 700 1072) ::
  (nat_lit 702,fQ "checked_depth" "checked_depth" (tp 38) .none "planwell.parsing" 991 701) ::
  (nat_lit 708,cO "_law_at" "_law_at" 1076 306 2 703 (.ref 705) (.ref 706) 707 1082) ::
  (nat_lit 709,fQ "_law_at" "_law_at" (tp 40) .none "law_planwell_k07_terms_read" 1074 708) ::
  (nat_lit 715,cO "_law_mixed" "_law_mixed" 1084 310 2 710 (.ref 712) (.ref 713) 714 1091) ::
  (nat_lit 716,fQ "_law_mixed" "_law_mixed" (tp 41) .none "law_planwell_k07_terms_read" 1074 715) ::
  (nat_lit 722,cO "_law_reserved" "_law_reserved" 1093 313 0 717 (.ref 719) (.ref 720) 721 1098) ::
  (nat_lit 723,fQ "_law_reserved" "_law_reserved" (tp 42) .none "law_planwell_k07_terms_read" 1074 722) ::
  (nat_lit 727,cO "_law_pool" "_law_pool" 1100 316 1 724 .none .none 726 1104) ::
  (nat_lit 728,fQ "_law_pool" "_law_pool" (tp 43) .none "law_planwell_k07_terms_read" 1074 727) ::
  (nat_lit 734,cO "_law_fraction" "_law_fraction" 1106 326 1 729 (.ref 731) (.ref 732) 733 1115) ::
  (nat_lit 735,fQ "_law_fraction" "_law_fraction" (tp 44) .none "law_planwell_k07_terms_read" 1074 734) ::
  (nat_lit 739,cO "_law_tree" "_law_tree" 1117 333 4 736 .none .none 738 1121) ::
  (nat_lit 740,fQ "_law_tree" "_law_tree" (tp 45) .none "law_planwell_k07_terms_read" 1074 739) ::
  (nat_lit 746,cO "_law_row_of" "_law_row_of" 1123 347 3 741 (.ref 743) (.ref 744) 745 1138) ::
  (nat_lit 747,fQ "_law_row_of" "_law_row_of" (tp 46) .none "law_planwell_k07_terms_read" 1074 746) ::
  (nat_lit 753,cO "_law_is_bad" "_law_is_bad" 1140 371 1 748 (.ref 750) (.ref 751) 752 1145) ::
  (nat_lit 754,fQ "_law_is_bad" "_law_is_bad" (tp 47) .none "law_planwell_k07_terms_read" 1074 753) ::
  (nat_lit 760,cO "_law_told" "_law_told" 1147 377 2 755 (.ref 757) (.ref 758) 759 1154) ::
  (nat_lit 761,fQ "_law_told" "_law_told" (tp 48) .none "law_planwell_k07_terms_read" 1074 760) ::
  (nat_lit 767,cO "_law_right" "_law_right" 1156 382 4 762 (.ref 764) (.ref 765) 766 1167) ::
  (nat_lit 768,fQ "_law_right" "_law_right" (tp 49) .none "law_planwell_k07_terms_read" 1074 767) ::
  (nat_lit 774,cO "_law_long" "_law_long" 1169 391 2 769 (.ref 771) (.ref 772) 773 1183) ::
  (nat_lit 775,fQ "_law_long" "_law_long" (tp 50) .none "law_planwell_k07_terms_read" 1074 774) ::
  (nat_lit 781,cO "_law_sums" "_law_sums" 1185 403 2 776 (.ref 778) (.ref 779) 780 1194) ::
  (nat_lit 782,fQ "_law_sums" "_law_sums" (tp 51) .none "law_planwell_k07_terms_read" 1074 781) ::
  (nat_lit 786,cO "_law_deep" "_law_deep" 1196 409 2 783 .none .none 785 1200) ::
  (nat_lit 787,fQ "_law_deep" "_law_deep" (tp 52) .none "law_planwell_k07_terms_read" 1074 786) ::
  (nat_lit 793,cO "law" "law" 1202 437 1 788 (.ref 790) (.ref 791) 792 1214) ::
  (nat_lit 794,fQ "law" "law" (tp 53) .none "law_planwell_k07_terms_read" 1074 793) ::
  []
def posOf(s:Stmt):Pos:=match s with | .FunctionDef _ _ _ _ _ _ _ _ _ p=>p | _=>⟨0,0,0,0⟩
def KA:List Addr:=[2,3,4,6,20,21,29,30,31,32,42,43,44,54,55,56,66,67,68,78,79,80,90,91,92,102,103,104,114,115,116,126,127,128,136,137,138,144,145,146,159,160,166,167,173,174,180,181,187,188,194,195,201,202,208,209,215,216,222,223,229,230,231,232,233,234,235,250,251,257,258,264,265,271,272,278,279,285,286,290,291,292,293,294,295,296,311,312,318,319,325,326,332,333,339,340,341,342,343,358,359,365,366,372,373,379,380,386,387,393,394,395,396,397,412,413,419,420,426,427,433,434,440,441,447,448,449,450,451,466,467,473,474,480,481,487,488,489,490,491,506,507,513,514,520,521,522,523,524,539,540,546,547,553,554,555,556,557,572,573,579,580,586,587,588,589,590,605,606,612,613,619,620,626,627,633,634,640,641,642,643,644,652,653,659,660,666,667,673,674,680,681,687,688,694,695,701,702,708,709,715,716,722,723,727,728,734,735,739,740,746,747,753,754,760,761,767,768,774,775,781,782,786,787,793,794]
def BO:Program:=PySem.W.view PySem.Challenge.pw_planwell_k07_terms_read [0,2,3,4,5,6,7,8,9,10,12,15,16,18,19,20,21,22,23,24,25,26,28,29,30,31,32,33,34,35,36,37,38,40,41,42,43,44,45,46,47,48,49,50,51,52,53]
noncomputable def YA(P:Params):PySem.W.BT:=
  (bN (bO P 0) (bN (bO P 1) (bN (dO 23 P [("__name__",165,.str "planwell.terms" 489),("__doc__",166,.none),("__package__",167,.none),("__loader__",168,.builtin "__main__.__loader__#opaque"),("__spec__",169,.none),("__annotations__",170,.ref 6),("__builtins__",171,.ref 4),("__file__",173,.str "/claim/cut.py" 172),("__cached__",174,.none),("_wall",193,.ref 21),("PlanError",213,.ref 31),("BadFraction",229,.ref 44),("NotLinear",245,.ref 56),("BadText",261,.ref 68),("BadName",277,.ref 80),("BadTable",293,.ref 92),("BadEnds",309,.ref 104),("BadGoal",325,.ref 116),("TooMany",341,.ref 128),("greatest_divisor",352,.ref 137),("fraction",362,.ref 145),("KEPT_WORDS",378,.ref 146),("Cursor",488,.ref 233)]) (bN (bO P 7) (bN (tO []) (bN z1 (bN (nO []) (bL (z2 P)) (bL z3)) (bN (tO [.ref 31]) (bL z4) (bL z5))) (bN (tO [.ref 31]) (bN (z6 P) (bL z7) (bL z8)) (bN (nO []) (bL (tO [])) bA))) (bN z9 (bN (nO []) (bN (tO [.ref 31]) (bL Zj) (bL (tO []))) (bN (XE P) (bL XO) (bL Xr))) (bN (XJ P) (bN (nO []) (bL ZF) (bL XI)) (bN (tO [.ref 31]) (bL (nO [])) bA)))) (bN (tO []) (bN ZZ (bN (tO [.ref 31]) (bN (XD P) (bL (tO [])) (bL Xz)) (bN (nO []) (bL (tO [.str "self" 403])) (bL (tO [])))) (bN (nO []) (bN (tO [.ref 31]) (bL (tO [])) (bL (nO []))) (bN (Xm P) (bL z21) bA))) (bN Z5 (bN (Xy P) (bN (nO []) (bL (tO [])) (bL (tO []))) (bN (tO [.ref 31]) (bL (tO [])) (bL XW))) (bN (tO [.ref 31]) (bN (Xh P) (bL (nO [])) (bL (tO [.str "self" 467]))) (bN (nO []) (bL Xp) bA))))) (bN (bO P 5) (bN (bO P 9) (bN (tO [.str "k" 190]) (bN X8 (bN Y4 (bL Yi) (bL Zw)) (bN (Y3 P) (bL (tO [])) (bL (nO [])))) (bN (Zu P) (bN Yo (bL Xu) (bL X0)) (bN YH (bL Zv) bA))) (bN (tO []) (bN Zt (bN (YE P) (bL XQ) (bL Xj)) (bN ZC (bL (nO [])) (bL XC))) (bN Yp (bN Yj (bL z46) (bL (tO []))) (bN (Zx P) (bL (tO [])) bA)))) (bN Zb (bN XY (bN (Yz P) (bN Ze (bL YY) (bL (nO []))) (bN Za (bL YU) (bL XU))) (bN Yn (bN (Ym P) (bL (Yq P)) (bL (tO []))) (bN Z4 (bL XZ) bA))) (bN (tO []) (bN Z0 (bN Y7 (bL Yh) (bL YK)) (bN (X6 P) (bL Xi) (bL Zr))) (bN (ZO P) (bN YL (bL (tO [])) (bL Zd)) (bN Y5 (bL (tO [])) bA)))))) (bN (bO P 2) (bN (bO P 4) (bN (bO P 8) (bN (nO []) (bN XT (bN YM (bL Xs) (bL (tO []))) (bN z9 (bL W') (bL (tO [])))) (bN z9 (bN XH (bL XR) (bL XS)) (bN ZX (bL (nO [])) bA))) (bN (Zg P) (bN ZU (bN z9 (bL Xk) (bL Z1)) (bN Xc (bL (tO [])) (bL (XA P)))) (bN W8 (bN YD (bL Ys) (bL Xg)) (bN z9 (bL YC) bA)))) (bN (nO [.int 1 0,.int 0 0,.ref 20,.int 5 0,.int 0 0,.ref 27,.int 7 0,.int 0 0,.ref 40,.int 9 0,.int 0 0,.ref 52,.int 11 0,.int 0 0,.ref 64,.int 13 0,.int 0 0,.ref 76,.int 15 0,.int 0 0,.ref 88,.int 17 0,.int 0 0,.ref 100,.int 19 0,.int 0 0,.ref 112,.int 21 0,.int 0 0,.ref 124,.int 24 0,.int 0 0,.ref 136,.int 30 0,.int 0 0,.ref 144,.int 39 0,.int 0 0,.ref 152]) (bN Xl (bN z9 (bN XX (bL (nO [])) (bL (tO []))) (bN Y1 (bL (tO [])) (bL Zi))) (bN z95 (bN z9 (bL z9) (bL ZJ)) (bN Xb (bL X2) bA))) (bN YR (bN Pa (bN RA (bL (nO [])) (bL (nO []))) (bN z9 (bL RV) (bL Ts))) (bN z9 (bN N4 (bL RD) (bL (tO []))) (bN S9 (bL NF) bA))))) (bN (bO P 6) (bN (bO P 10) (bN (tO []) (bN QI (bN (tO []) (bL Qm) (bL NO)) (bN (tO []) (bL (nO [])) (bL SH))) (bN (tO []) (bN QV (bL Oy) (bL (tO []))) (bN (tO []) (bL (tO [])) bA))) (bN (nO []) (bN (tO []) (bN (tO []) (bL (tO [.int 1 353])) (bL OJ)) (bN Q3 (bL P9) (bL OK))) (bN SF (bN (tO []) (bL (tO [])) (bL (nO []))) (bN (tO []) (bL R') bA)))) (bN Rt (bN Sw (bN (tO []) (bN Rl (bL (tO [])) (bL (tO [.str "self" 443]))) (bN (tO []) (bL N6) (bL OQ))) (bN (tO []) (bN (tO []) (bL (tO [])) (bL RY)) (bN QD (bL (tO [])) bA))) (bN (NM P) (bN Qj (bN (tO []) (bL (tO [])) (bL (tO []))) (bN (tO []) (bL NQ) bA)) (bN (tO []) (bN QT (bL Tc) (bL Og)) (bN (tO []) (bL (nO [])) bA)))))))
noncomputable def Zp(P:Params):PySem.W.BT:=
  (bN (bO P 0) (bN (bO P 1) (bN (dO 27 P [("__name__",165,.str "planwell.terms" 489),("__doc__",166,.none),("__package__",167,.none),("__loader__",168,.builtin "__main__.__loader__#opaque"),("__spec__",169,.none),("__annotations__",170,.ref 6),("__builtins__",171,.ref 4),("__file__",173,.str "/claim/cut.py" 172),("__cached__",174,.none),("_wall",193,.ref 21),("PlanError",213,.ref 31),("BadFraction",229,.ref 44),("NotLinear",245,.ref 56),("BadText",261,.ref 68),("BadName",277,.ref 80),("BadTable",293,.ref 92),("BadEnds",309,.ref 104),("BadGoal",325,.ref 116),("TooMany",341,.ref 128),("greatest_divisor",352,.ref 137),("fraction",362,.ref 145),("KEPT_WORDS",378,.ref 146),("Cursor",488,.ref 233),("Term",561,.ref 294),("Number",617,.ref 343),("Entry",682,.ref 397),("Negative",745,.ref 451)]) (bN (bO P 7) (bN (tO []) (bN z1 (bN (nO []) (bN (z2 P) (bL (tO [])) (bL Uy)) (bN z3 (bL Qq) (bL Rw))) (bN (tO [.ref 31]) (bN z4 (bL (tO [])) (bL (nO []))) (bN z5 (bL Wb) bA))) (bN (tO [.ref 31]) (bN (z6 P) (bN z7 (bL Ro) (bL Ws)) (bN z8 (bL (nO [])) bA)) (bN (nO []) (bN (tO []) (bL WL) (bL (tO []))) (bN z9 (bL (tO [])) bA)))) (bN z9 (bN (nO []) (bN (tO [.ref 31]) (bN Zj (bL UJ) (bL (tO []))) (bN (tO []) (bL (tO [])) bA)) (bN (XE P) (bN XO (bL QW) (bL (tO [.str "self" 713]))) (bN Xr (bL Sx) bA))) (bN (XJ P) (bN (nO []) (bN ZF (bL Se) (bL (tO []))) (bN XI (bL SZ) bA)) (bN (tO [.ref 31]) (bN (nO []) (bL S_) (bL Uk)) (bN (tO [.str "self" 506]) (bL (nO [])) bA))))) (bN (tO []) (bN ZZ (bN (tO [.ref 31]) (bN (XD P) (bN (tO []) (bL (tO [])) (bL Tx)) (bN Xz (bL (tO [])) (bL RM))) (bN (nO []) (bN (tO [.str "self" 403]) (bL S0) (bL Tt)) (bN (tO []) (bL W3) bA))) (bN (nO []) (bN (tO [.ref 31]) (bN (tO []) (bL VI) (bL (tO []))) (bN (nO []) (bL R7) bA)) (bN (Xm P) (bN z21 (bL (nO [])) (bL (tO []))) (bN Ue (bL VB) bA)))) (bN Z5 (bN (Xy P) (bN (nO []) (bN (tO []) (bL (nO [])) (bL RQ)) (bN (tO []) (bL Vm) bA)) (bN (tO [.ref 31]) (bN (tO []) (bL (tO [.ref 294])) (bL S4)) (bN XW (bL (tO [])) bA))) (bN (tO [.ref 31]) (bN (Xh P) (bN (nO []) (bL (tO [])) (bL UY)) (bN (tO [.str "self" 467]) (bL z9) bA)) (bN (nO []) (bN Xp (bL (tO [.str "self" 585])) (bL (nO []))) (bN P_ (bL Qg) bA)))))) (bN (bO P 5) (bN (bO P 9) (bN (tO [.str "k" 190]) (bN X8 (bN Y4 (bN Yi (bL Rb) (bL We)) (bN Zw (bL (nO [])) (bL (tO [.str "one" 741])))) (bN (Y3 P) (bN (tO []) (bL WX) (bL (tO []))) (bN (nO []) (bL (tO [])) bA))) (bN (Zu P) (bN Yo (bN Xu (bL (tO [])) (bL z9)) (bN X0 (bL (tO [])) bA)) (bN YH (bN Zv (bL Vs) (bL Su)) (bN (tO []) (bL (tO [.str "self" 649])) bA)))) (bN (tO []) (bN Zt (bN (YE P) (bN XQ (bL S6) (bL Sd)) (bN Xj (bL WQ) bA)) (bN ZC (bN (nO []) (bL UX) (bL Us)) (bN XC (bL (nO [])) bA))) (bN Yp (bN Yj (bN z46 (bL (nO [])) (bL UA)) (bN (tO []) (bL UH) bA)) (bN (Zx P) (bN (tO []) (bL (tO [])) (bL RX)) (bN WI (bL (tO [])) bA))))) (bN Zb (bN XY (bN (Yz P) (bN Ze (bN YY (bL (tO [.str "self" 520])) (bL (nO []))) (bN (nO []) (bL Qc) (bL Wx))) (bN Za (bN YU (bL (QZ P)) (bL (tO []))) (bN XU (bL Wk) bA))) (bN Yn (bN (Ym P) (bN (Yq P) (bL Vf) (bL Ul)) (bN (tO []) (bL (tO [.str "worth" 613])) bA)) (bN Z4 (bN XZ (bL (tO [])) (bL VW)) (bN (tO []) (bL Rk) bA)))) (bN (tO []) (bN Z0 (bN Y7 (bN Yh (bL (tO [])) (bL Qi)) (bN YK (bL RE) bA)) (bN (X6 P) (bN Xi (bL (Vl P)) (bL (nO []))) (bN Zr (bL SW) bA))) (bN (ZO P) (bN YL (bN (tO []) (bL Ra) (bL SE)) (bN Zd (bL (tO [])) bA)) (bN Y5 (bN (tO []) (bL T7) (bL (tO []))) (bN (nO []) (bL (tO [])) bA))))))) (bN (bO P 2) (bN (bO P 4) (bN (bO P 8) (bN (nO []) (bN XT (bN YM (bN Xs (bL U7) (bL (tO []))) (bN (tO []) (bL (tO [])) (bL QM))) (bN z9 (bN W' (bL (nO [])) (bL (tO [.str "self" 706]))) (bN (tO []) (bL Vc) bA))) (bN z9 (bN XH (bN XR (bL R0) (bL (tO [.ref 294]))) (bN XS (bL Ud) bA)) (bN ZX (bN (nO []) (bL Wi) (bL VD)) (bN (U6 P) (bL (nO [])) bA)))) (bN (Zg P) (bN ZU (bN z9 (bN Xk (bL RP) (bL WO)) (bN Z1 (bL (nO [])) bA)) (bN Xc (bN (tO []) (bL Sm) (bL (tO []))) (bN (XA P) (bL (tO [])) bA))) (bN W8 (bN YD (bN Ys (bL (tO [])) (bL (nO []))) (bN Xg (bL V_) bA)) (bN z9 (bN YC (bL Tb) (bL TN)) (bN (tO []) (bL Wd) bA))))) (bN (nO [.int 1 0,.int 0 0,.ref 20,.int 5 0,.int 0 0,.ref 27,.int 7 0,.int 0 0,.ref 40,.int 9 0,.int 0 0,.ref 52,.int 11 0,.int 0 0,.ref 64,.int 13 0,.int 0 0,.ref 76,.int 15 0,.int 0 0,.ref 88,.int 17 0,.int 0 0,.ref 100,.int 19 0,.int 0 0,.ref 112,.int 21 0,.int 0 0,.ref 124,.int 24 0,.int 0 0,.ref 136,.int 30 0,.int 0 0,.ref 144,.int 39 0,.int 0 0,.ref 152,.int 102 0,.int 0 0,.ref 243,.int 124 0,.int 0 0,.ref 304,.int 140 0,.int 0 0,.ref 351,.int 160 0,.int 0 0,.ref 405]) (bN Xl (bN z9 (bN XX (bN (nO []) (bL (nO [])) (bL (tO []))) (bN (tO []) (bL W7) (bL V'))) (bN Y1 (bN (tO []) (bL (tO [])) (bL Q7)) (bN Zi (bL (tO [])) bA))) (bN z95 (bN z9 (bN z9 (bL (tO [])) (bL Wr)) (bN ZJ (bL Tr) bA)) (bN Xb (bN X2 (bL Wz) (bL (nO []))) (bN UZ (bL RW) bA)))) (bN YR (bN Pa (bN RA (bN (nO []) (bL UO) (bL (R3 P))) (bN (nO []) (bL Sn) bA)) (bN z9 (bN RV (bL z9) (bL (tO []))) (bN Ts (bL VF) bA))) (bN z9 (bN N4 (bN RD (bL U3) (bL Sf)) (bN (tO []) (bL (VX P)) bA)) (bN S9 (bN NF (bL (tO [])) (bL UW)) (bN (tO []) (bL Qr) bA)))))) (bN (bO P 6) (bN (bO P 10) (bN (tO []) (bN QI (bN (tO []) (bN Qm (bL S8) (bL RN)) (bN NO (bL (tO [.str "self" 592])) (bL (Sj P)))) (bN (tO []) (bN (nO []) (bL R4) (bL U9)) (bN SH (bL (nO [])) bA))) (bN (tO []) (bN QV (bN Oy (bL (nO [])) (bL (UL P))) (bN (tO []) (bL WJ) bA)) (bN (tO []) (bN (tO []) (bL (tO [])) (bL QY)) (bN VT (bL (tO [])) bA)))) (bN (nO []) (bN (tO []) (bN (tO []) (bN (tO [.int 1 353]) (bL (tO [])) (bL TH)) (bN OJ (bL (tO [])) bA)) (bN Q3 (bN P9 (bL Wj) (bL SO)) (bN OK (bL (tO [.str "self" 642])) bA))) (bN SF (bN (tO []) (bN (tO []) (bL (tO [.str "self" 544])) (bL (tO []))) (bN (nO []) (bL (tO [.ref 294])) bA)) (bN (tO []) (bN R' (bL (nO [])) (bL (tO []))) (bN RZ (bL Wt) bA))))) (bN Rt (bN Sw (bN (tO []) (bN Rl (bN (tO []) (bL (tO [])) (bL (tO [.str "self" 673]))) (bN (tO [.str "self" 443]) (bL Ri) bA)) (bN (tO []) (bN N6 (bL (kO "Term" [.type "object"] [.ref 294,.type "object"] 293 "Term" [.ref 343,.ref 397,.ref 451] [none,none,some (.str "Term" 491),some (.str "Term" 499),some (.builtin "object.__new__"),some (.bool .true)])) (bL (nO []))) (bN OQ (bL SM) bA))) (bN (tO []) (bN (tO []) (bN (tO []) (bL Rc) (bL WY)) (bN RY (bL (Sy P)) bA)) (bN QD (bN (tO []) (bL U0) (bL (tO []))) (bN (nO []) (bL (tO [])) bA)))) (bN (NM P) (bN Qj (bN (tO []) (bN (tO []) (bL Uz) (bL Vq)) (bN (tO []) (bL (tO [])) bA)) (bN (tO []) (bN NQ (bL (tO [])) (bL (tO [.str "self" 720]))) (bN (tO []) (bL R_) bA))) (bN (tO []) (bN QT (bN Tc (bL Q8) (bL (tO []))) (bN Og (bL T8) bA)) (bN (tO []) (bN (nO []) (bL R9) (bL U2)) (bN (tO [.str "self" 513]) (bL (nO [])) bA))))))))
noncomputable def aab(P:Params):PySem.W.BT:=
  (bN (bO P 0) (bN (bO P 1) (bN (dO 31 P [("__name__",165,.str "planwell.terms" 489),("__doc__",166,.none),("__package__",167,.none),("__loader__",168,.builtin "__main__.__loader__#opaque"),("__spec__",169,.none),("__annotations__",170,.ref 6),("__builtins__",171,.ref 4),("__file__",173,.str "/claim/cut.py" 172),("__cached__",174,.none),("_wall",193,.ref 21),("PlanError",213,.ref 31),("BadFraction",229,.ref 44),("NotLinear",245,.ref 56),("BadText",261,.ref 68),("BadName",277,.ref 80),("BadTable",293,.ref 92),("BadEnds",309,.ref 104),("BadGoal",325,.ref 116),("TooMany",341,.ref 128),("greatest_divisor",352,.ref 137),("fraction",362,.ref 145),("KEPT_WORDS",378,.ref 146),("Cursor",488,.ref 233),("Term",561,.ref 294),("Number",617,.ref 343),("Entry",682,.ref 397),("Negative",745,.ref 451),("Joined",797,.ref 491),("Plus",839,.ref 524),("Minus",881,.ref 557),("Times",923,.ref 590)]) (bN (bO P 7) (bN (tO []) (bN z1 (bN (nO []) (bN (z2 P) (bN (tO []) (bL (tO [])) bA) (bL Uy)) (bN z3 (bN Qq (bL (nO [])) bA) (bL Rw))) (bN (tO [.ref 31]) (bN z4 (bN (tO []) (bL (tO [.str "self" 864,.str "binder" 865,.str "member" 866])) bA) (bL (nO []))) (bN z5 (bL Wb) (bL (fN "told" "Joined.told" (sub 22 2)))))) (bN (tO [.ref 31]) (bN (z6 P) (bN z7 (bN Ro (bL (tO [.ref 491])) bA) (bL Ws)) (bN z8 (bN (nO []) (bL ({ cls:=.type "super",data:=.fields #[.ref 590,.ref 590,.ref 590] })) bA) (bL (tO [.str "self" 761,.str "word" 762,.str "mark" 763,.str "one" 764,.str "other" 765])))) (bN (nO []) (bN (tO []) (bN WL (bL ({ cls:=.type "builtin_function_or_method",data:=.fields #[.builtin "object.__init_subclass__",.ref 557] })) bA) (bL (tO []))) (bN z9 (bL (tO [])) (bL z9))))) (bN z9 (bN (nO []) (bN (tO [.ref 31]) (bN Zj (bN UJ (bL (fN "laid" "Plus.laid" (sub 23 2))) bA) (bL (tO []))) (bN (tO []) (bN (tO []) (bL (tO [.str "self" 915,.str "world" 916])) bA) (bL z9))) (bN (XE P) (bN XO (bN QW (bL (tO [])) bA) (bL (tO [.str "self" 713]))) (bN Xr (bL Sx) (bL WZ)))) (bN (XJ P) (bN (nO []) (bN ZF (bN Se (bL (nO [])) bA) (bL (tO []))) (bN XI (bL SZ) (bL (tO [])))) (bN (tO [.ref 31]) (bN (nO []) (bN S_ (bL (tO [])) bA) (bL Uk)) (bN (tO [.str "self" 506]) (bL (nO [])) (bL (tO [.str "self" 813,.str "one" 814,.str "other" 815]))))))) (bN (tO []) (bN ZZ (bN (tO [.ref 31]) (bN (XD P) (bN (tO []) (bN (tO []) (bL (tO [])) bA) (bL Tx)) (bN Xz (bN (tO []) (bL Ut) bA) (bL RM))) (bN (nO []) (bN (tO [.str "self" 403]) (bN S0 (bL Um) bA) (bL Tt)) (bN (tO []) (bL W3) (bL (nO []))))) (bN (nO []) (bN (tO [.ref 31]) (bN (tO []) (bN VI (bL (nO [.int 207 0,.int 4 0,.ref 539,.int 210 0,.int 4 0,.ref 546,.int 213 0,.int 4 0,.ref 553])) bA) (bL (tO []))) (bN (nO []) (bL R7) (bL WT))) (bN (Xm P) (bN z21 (bN (nO []) (bL (tO [])) bA) (bL (tO []))) (bN Ue (bL VB) (bL (⟨.type "code",none,.fields (List.toArray [.str "Plus" 800,.str "Plus" 801,.str "/claim/cut.py" 802,.int 195 0,.int 0 0,.int 0 0,.int 0 0,.int 0 0,.ref 497,.bool false,.int 181 0,.ref 498,.none,.none,.none,.none,.int 803 0,.int 195 0,.str "/claim/cut.py" 804]),#[]⟩)))))) (bN Z5 (bN (Xy P) (bN (nO []) (bN (tO []) (bN (nO []) (bL (Wh P)) bA) (bL RQ)) (bN (tO []) (bN Vm (bL VH) bA) (bL (⟨.type "code",none,.fields (List.toArray [.str "Joined" 748,.str "Joined" 749,.str "/claim/cut.py" 750,.int 179 0,.int 0 0,.int 0 0,.int 0 0,.int 0 0,.ref 457,.bool false,.int 181 0,.ref 458,.none,.none,.none,.none,.int 751 0,.int 179 0,.str "/claim/cut.py" 752]),#[]⟩)))) (bN (tO [.ref 31]) (bN (tO []) (bN (tO [.ref 294]) (bL (tO [])) bA) (bL S4)) (bN XW (bL (tO [])) (bL U1)))) (bN (tO [.ref 31]) (bN (Xh P) (bN (nO []) (bN (tO []) (bL UV) bA) (bL UY)) (bN (tO [.str "self" 467]) (bL z9) (bL (tO [])))) (bN (nO []) (bN Xp (bN (tO [.str "self" 585]) (bL (fN "__init__" "Times.__init__" (sub 25 0))) bA) (bL (nO []))) (bN P_ (bL Qg) (bL Vy))))))) (bN (bO P 5) (bN (bO P 9) (bN (tO [.str "k" 190]) (bN X8 (bN Y4 (bN Yi (bN Rb (bL WD) bA) (bL We)) (bN Zw (bN (nO []) (bL (tO [])) bA) (bL (tO [.str "one" 741])))) (bN (Y3 P) (bN (tO []) (bN WX (bL (fN "put" "Minus.put" (sub 24 1))) bA) (bL (tO []))) (bN (nO []) (bL (tO [])) (bL W5)))) (bN (Zu P) (bN Yo (bN Xu (bN (tO []) (bL (dO 7 P [("__module__",847,.str "planwell.terms" 489),("__qualname__",849,.str "Minus" 848),("__firstlineno__",851,.int 205 850),("__init__",860,.ref 540),("put",869,.ref 547),("laid",877,.ref 554),("__static_attributes__",878,.ref 555)])) bA) (bL z9)) (bN X0 (bL (tO [])) (bL (fN "__init__" "Joined.__init__" (sub 22 0))))) (bN YH (bN Zv (bN Vs (bL z9) bA) (bL Su)) (bN (tO []) (bL (tO [.str "self" 649])) (bL (tO [])))))) (bN (tO []) (bN Zt (bN (YE P) (bN XQ (bN S6 (bL UI) bA) (bL Sd)) (bN Xj (bN WQ (bL (fN "laid" "Times.laid" (sub 25 2))) bA) (bL (tO [])))) (bN ZC (bN (nO []) (bN UX (bL Uo) bA) (bL Us)) (bN XC (bL (nO [])) (bL UN)))) (bN Yp (bN Yj (bN z46 (bN (nO []) (bL (tO [])) bA) (bL UA)) (bN (tO []) (bL UH) (bL VJ))) (bN (Zx P) (bN (tO []) (bN (tO []) (bL (tO [.str "self" 897,.str "one" 898,.str "other" 899])) bA) (bL RX)) (bN WI (bL (tO [])) (bL (fN "__init__" "Plus.__init__" (sub 23 0)))))))) (bN Zb (bN XY (bN (Yz P) (bN Ze (bN YY (bN (tO [.str "self" 520]) (bL (tO [.str "self" 831,.str "world" 832])) bA) (bL (nO []))) (bN (nO []) (bN Qc (bL (tO [])) bA) (bL Wx))) (bN Za (bN YU (bN (QZ P) (bL (nO [])) bA) (bL (tO []))) (bN XU (bL Wk) (bL (tO []))))) (bN Yn (bN (Ym P) (bN (Yq P) (bN Vf (bL ({ cls:=.type "frame",slots:=#[some (.ref 532),some (.ref 3),some (.ref 529),none,some (.str "planwell.terms" 489),none,some (.ref 0)] })) bA) (bL Ul)) (bN (tO []) (bL (tO [.str "worth" 613])) (bL (nO [])))) (bN Z4 (bN XZ (bN (tO []) (bL (⟨.type "code",none,.fields (List.toArray [.str "Times" 884,.str "Times" 885,.str "/claim/cut.py" 886,.int 215 0,.int 0 0,.int 0 0,.int 0 0,.int 0 0,.ref 563,.bool false,.int 181 0,.ref 564,.none,.none,.none,.none,.int 887 0,.int 215 0,.str "/claim/cut.py" 888]),#[]⟩)) bA) (bL VW)) (bN (tO []) (bL Rk) (bL (tO [])))))) (bN (tO []) (bN Z0 (bN Y7 (bN Yh (bN (tO []) (bL ({ cls:=.type "super",data:=.fields #[.ref 524,.ref 524,.ref 524] })) bA) (bL Qi)) (bN YK (bN RE (bL (UT P)) bA) (bL (tO [])))) (bN (X6 P) (bN Xi (bN (Vl P) (bL V3) bA) (bL (nO []))) (bN Zr (bL SW) (bL ({ cls:=.type "builtin_function_or_method",data:=.fields #[.builtin "object.__init_subclass__",.ref 491] }))))) (bN (ZO P) (bN YL (bN (tO []) (bN Ra (bL (tO [])) bA) (bL SE)) (bN Zd (bL (tO [])) (bL (tO [.str "self" 779])))) (bN Y5 (bN (tO []) (bN T7 (bL VN) bA) (bL (tO []))) (bN (nO []) (bL (tO [])) (bL (nO []))))))))) (bN (bO P 2) (bN (bO P 4) (bN (bO P 8) (bN (nO []) (bN XT (bN YM (bN Xs (bN U7 (bL (fN "put" "Plus.put" (sub 23 1))) bA) (bL (tO []))) (bN (tO []) (bN (tO []) (bL (tO [.str "self" 906,.str "binder" 907,.str "member" 908])) bA) (bL QM))) (bN z9 (bN W' (bN (nO []) (bL (tO [])) bA) (bL (tO [.str "self" 706]))) (bN (tO []) (bL Vc) (bL VU)))) (bN z9 (bN XH (bN XR (bN R0 (bL z9) bA) (bL (tO [.ref 294]))) (bN XS (bN Ud (bL ({ cls:=.type "builtin_function_or_method",data:=.fields #[.builtin "object.__init_subclass__",.ref 590] })) bA) (bL (tO [])))) (bN ZX (bN (nO []) (bN Wi (bL (tO [.ref 491])) bA) (bL VD)) (bN (U6 P) (bL (nO [])) (bL (dO 7 P [("__module__",805,.str "planwell.terms" 489),("__qualname__",807,.str "Plus" 806),("__firstlineno__",809,.int 195 808),("__init__",818,.ref 507),("put",827,.ref 514),("laid",835,.ref 521),("__static_attributes__",836,.ref 522)])))))) (bN (Zg P) (bN ZU (bN z9 (bN Xk (bN RP (bL V6) bA) (bL WO)) (bN Z1 (bN (nO []) (bL (tO [])) bA) (bL (dO 8 P [("__module__",753,.str "planwell.terms" 489),("__qualname__",755,.str "Joined" 754),("__firstlineno__",757,.int 179 756),("__init__",768,.ref 467),("parts",775,.ref 474),("told",782,.ref 481),("shown",789,.ref 488),("__static_attributes__",794,.ref 489)])))) (bN Xc (bN (tO []) (bN Sm (bL (fN "laid" "Minus.laid" (sub 24 2))) bA) (bL (tO []))) (bN (XA P) (bL (tO [])) (bL Uh)))) (bN W8 (bN YD (bN Ys (bN (tO []) (bL (tO [.str "self" 855,.str "one" 856,.str "other" 857])) bA) (bL (nO []))) (bN Xg (bL V_) (bL (fN "parts" "Joined.parts" (sub 22 1))))) (bN z9 (bN YC (bN Tb (bL (nO [])) bA) (bL TN)) (bN (tO []) (bL Wd) (bL (tO []))))))) (bN (nO [.int 1 0,.int 0 0,.ref 20,.int 5 0,.int 0 0,.ref 27,.int 7 0,.int 0 0,.ref 40,.int 9 0,.int 0 0,.ref 52,.int 11 0,.int 0 0,.ref 64,.int 13 0,.int 0 0,.ref 76,.int 15 0,.int 0 0,.ref 88,.int 17 0,.int 0 0,.ref 100,.int 19 0,.int 0 0,.ref 112,.int 21 0,.int 0 0,.ref 124,.int 24 0,.int 0 0,.ref 136,.int 30 0,.int 0 0,.ref 144,.int 39 0,.int 0 0,.ref 152,.int 102 0,.int 0 0,.ref 243,.int 124 0,.int 0 0,.ref 304,.int 140 0,.int 0 0,.ref 351,.int 160 0,.int 0 0,.ref 405,.int 179 0,.int 0 0,.ref 459,.int 195 0,.int 0 0,.ref 499,.int 205 0,.int 0 0,.ref 532,.int 215 0,.int 0 0,.ref 565]) (bN Xl (bN z9 (bN XX (bN (nO []) (bN (nO []) (bL (nO [])) bA) (bL (tO []))) (bN (tO []) (bN W7 (bL Ve) bA) (bL V'))) (bN Y1 (bN (tO []) (bN (tO []) (bL (tO [])) bA) (bL Q7)) (bN Zi (bL (tO [])) (bL (tO [.str "self" 786]))))) (bN z95 (bN z9 (bN z9 (bN (tO []) (bL (⟨.type "code",none,.fields (List.toArray [.str "Minus" 842,.str "Minus" 843,.str "/claim/cut.py" 844,.int 205 0,.int 0 0,.int 0 0,.int 0 0,.int 0 0,.ref 530,.bool false,.int 181 0,.ref 531,.none,.none,.none,.none,.int 845 0,.int 205 0,.str "/claim/cut.py" 846]),#[]⟩)) bA) (bL Wr)) (bN ZJ (bL Tr) (bL (tO [])))) (bN Xb (bN X2 (bN Wz (bL (nO [.int 217 0,.int 4 0,.ref 572,.int 220 0,.int 4 0,.ref 579,.int 223 0,.int 4 0,.ref 586])) bA) (bL (nO []))) (bN UZ (bL RW) (bL ({ cls:=.type "frame",slots:=#[some (.ref 499),some (.ref 3),some (.ref 496),none,some (.str "planwell.terms" 489),none,some (.ref 0)] })))))) (bN YR (bN Pa (bN RA (bN (nO []) (bN UO (bL Ur) bA) (bL (R3 P))) (bN (nO []) (bN Sn (bL (tO [])) bA) (bL ({ cls:=.type "frame",slots:=#[some (.ref 459),some (.ref 3),some (.ref 456),none,some (.str "planwell.terms" 489),none,some (.ref 0)] })))) (bN z9 (bN RV (bN z9 (bL (VE P)) bA) (bL (tO []))) (bN Ts (bL VF) (bL ({ cls:=.type "super",data:=.fields #[.ref 491,.ref 491,.ref 491] }))))) (bN z9 (bN N4 (bN RD (bN U3 (bL Up) bA) (bL Sf)) (bN (tO []) (bL (VX P)) (bL (nO [])))) (bN S9 (bN NF (bN (tO []) (bL U') bA) (bL UW)) (bN (tO []) (bL Qr) (bL (tO [])))))))) (bN (bO P 6) (bN (bO P 10) (bN (tO []) (bN QI (bN (tO []) (bN Qm (bN S8 (bL VZ) bA) (bL RN)) (bN NO (bN (tO [.str "self" 592]) (bL (fN "put" "Times.put" (sub 25 1))) bA) (bL (Sj P)))) (bN (tO []) (bN (nO []) (bN R4 (bL Wu) bA) (bL U9)) (bN SH (bL (nO [])) (bL (tO []))))) (bN (tO []) (bN QV (bN Oy (bN (nO []) (bL (tO [])) bA) (bL (UL P))) (bN (tO []) (bL WJ) (bL UP))) (bN (tO []) (bN (tO []) (bN (tO []) (bL (dO 7 P [("__module__",889,.str "planwell.terms" 489),("__qualname__",891,.str "Times" 890),("__firstlineno__",893,.int 215 892),("__init__",902,.ref 573),("put",911,.ref 580),("laid",919,.ref 587),("__static_attributes__",920,.ref 588)])) bA) (bL QY)) (bN VT (bL (tO [])) (bL (nO [.int 197 0,.int 4 0,.ref 506,.int 200 0,.int 4 0,.ref 513,.int 203 0,.int 4 0,.ref 520])))))) (bN (nO []) (bN (tO []) (bN (tO []) (bN (tO [.int 1 353]) (bN (tO []) (bL (tO [])) bA) (bL TH)) (bN OJ (bN (tO []) (bL V2) bA) (bL (nO [.int 181 0,.int 4 0,.ref 466,.int 187 0,.int 4 0,.ref 473,.int 190 0,.int 4 0,.ref 480,.int 193 0,.int 4 0,.ref 487])))) (bN Q3 (bN P9 (bN Wj (bL Wa) bA) (bL SO)) (bN OK (bL (tO [.str "self" 642])) (bL (Wl P))))) (bN SF (bN (tO []) (bN (tO []) (bN (tO [.str "self" 544]) (bL (fN "__init__" "Minus.__init__" (sub 24 0))) bA) (bL (tO []))) (bN (nO []) (bL (tO [.ref 294])) (bL Vn))) (bN (tO []) (bN R' (bN (nO []) (bL (tO [])) bA) (bL (tO []))) (bN RZ (bL Wt) (bL UU)))))) (bN Rt (bN Sw (bN (tO []) (bN Rl (bN (tO []) (bN (tO []) (bL (tO [])) bA) (bL (tO [.str "self" 673]))) (bN (tO [.str "self" 443]) (bN Ri (bL (nO [])) bA) (bL (tO [.ref 294])))) (bN (tO []) (bN N6 (bN (kO "Term" [.type "object"] [.ref 294,.type "object"] 293 "Term" [.ref 343,.ref 397,.ref 451,.ref 491] [none,none,some (.str "Term" 491),some (.str "Term" 499),some (.builtin "object.__new__"),some (.bool .true)]) (bL (tO [.str "self" 873,.str "world" 874])) bA) (bL (nO []))) (bN OQ (bL SM) (bL (fN "shown" "Joined.shown" (sub 22 3)))))) (bN (tO []) (bN (tO []) (bN (tO []) (bN Rc (bL (tO [])) bA) (bL WY)) (bN RY (bL (Sy P)) (bL (tO [.str "self" 772])))) (bN QD (bN (tO []) (bN U0 (bL ({ cls:=.type "frame",slots:=#[some (.ref 565),some (.ref 3),some (.ref 562),none,some (.str "planwell.terms" 489),none,some (.ref 0)] })) bA) (bL (tO []))) (bN (nO []) (bL (tO [])) (bL (nO [])))))) (bN (NM P) (bN Qj (bN (tO []) (bN (tO []) (bN Uz (bL ({ cls:=.type "builtin_function_or_method",data:=.fields #[.builtin "object.__init_subclass__",.ref 524] })) bA) (bL Vq)) (bN (tO []) (bN (tO []) (bL Va) bA) (bL (nO [])))) (bN (tO []) (bN NQ (bN (tO []) (bL ({ cls:=.type "super",data:=.fields #[.ref 557,.ref 557,.ref 557] })) bA) (bL (tO [.str "self" 720]))) (bN (tO []) (bL R_) (bL (tO [.ref 491]))))) (bN (tO []) (bN QT (bN Tc (bN Q8 (bL (nO [])) bA) (bL (tO []))) (bN Og (bL T8) (bL (tO [])))) (bN (tO []) (bN (nO []) (bN R9 (bL (tO [])) bA) (bL U2)) (bN (tO [.str "self" 513]) (bL (nO [])) (bL (tO [.str "self" 822,.str "binder" 823,.str "member" 824]))))))))))
def Jv:Env:={ scope:=PySem.Challenge.pw_planwell_k07_terms_read.main.scope,locals:=mainNs,globals:=mainNs,cells:=[],code:=(.ref 13),frame:=some 14 }
def body:List Stmt:=PySem.W.behindTheImports PySem.Challenge.pw_planwell_k07_terms_read
def Qw:Code:=.body (PySem.W.behindTheImports PySem.Challenge.pw_planwell_k07_terms_read) Jv
end Pw
section
open PySem PySem.W PyProof.Rows
noncomputable def Pw.s0(w:World)(os:OsState):SharedT:=match L2.K0 treeTable PySem.Challenge.pw_planwell_k07_terms_read w 11 (some (.ref 6)) 12 (L2.Ej w.params os) (topStub PySem.Challenge.pw_planwell_k07_terms_read) with | some r=>r.1 | none=>L2.Ej w.params os
noncomputable def Pw.s1(w:World)(os:OsState):SharedT:=⟨Pw.YA w.params,238,{},#[],boot_drawn,491,os⟩
noncomputable def Pw.s2(w:World)(os:OsState):SharedT:=⟨Pw.Zp w.params,454,{},#[],boot_drawn,746,os⟩
noncomputable def Pw.s3(w:World)(os:OsState):SharedT:=⟨Pw.aab w.params,593,{},#[],boot_drawn,924,os⟩
theorem Pw.left1(w:World)(os:OsState):segRunT treeTable PySem.Challenge.pw_planwell_k07_terms_read w 11 (some (.ref 6)) 1 2590 (Pw.s0 w os) (piecesOf (Pw.body.take 18) Pw.Jv Pw.Qw ⟨0,0,0,0⟩ [topFrame ⟨0,0,0,0⟩])=some (.next,Pw.s1 w os,Pw.Qw,⟨101,0,101,8⟩):=by kernel_rfl
theorem Pw.left2(w:World)(os:OsState):segRunT treeTable PySem.Challenge.pw_planwell_k07_terms_read w 11 (some (.ref 6)) 1 1591 (Pw.s1 w os) (piecesOf ((Pw.body.drop 18).take 4) Pw.Jv Pw.Qw ⟨101,0,101,8⟩ [topFrame ⟨0,0,0,0⟩])=some (.next,Pw.s2 w os,Pw.Qw,⟨160,0,178,17⟩):=by kernel_rfl
theorem Pw.left3(w:World)(os:OsState):segRunT treeTable PySem.Challenge.pw_planwell_k07_terms_read w 11 (some (.ref 6)) 1 1321 (Pw.s2 w os) (piecesOf (((Pw.body.drop 18).drop 4).take 4) Pw.Jv Pw.Qw ⟨160,0,178,17⟩ [topFrame ⟨0,0,0,0⟩])=some (.next,Pw.s3 w os,Pw.Qw,⟨215,0,224,17⟩):=by kernel_rfl
theorem Pw.leftE(w:World)(os:OsState):(L2.O0 treeTable PySem.Challenge.pw_planwell_k07_terms_read w 11 (some (.ref 6)) 1196 (Pw.s3 w os) (restOf (((Pw.body.drop 18).drop 4).drop 4) Pw.Jv Pw.Qw ⟨215,0,224,17⟩ [topFrame ⟨0,0,0,0⟩])).map (L2.VQ PySem.Challenge.pw_planwell_k07_terms_read Pw.BO ["fraction"] (fun s=>xlAt Pw.BO [] s&&recOk [] s) (fun s=>Pw.KA.map s.heap.get?) true w)=some (true,openGood Pw.BO ["fraction"],(Pw.KP w.params).map fun p=>some p.2):=by kernel_rfl
theorem Pw.left:LeftO PySem.Challenge.pw_planwell_k07_terms_read Pw.BO ["fraction"] (fun s=>xlAt Pw.BO [] s&&recOk [] s) (fun s=>Pw.KA.map s.heap.get?) (fun w=>(Pw.KP w.params).map fun p=>some p.2) (12+(1+(2590+(1591+(1321+(1196)))))):=
  L2.Ww (env:=Pw.Jv) (p1:=⟨0,0,0,0⟩) (qp:=⟨0,0,0,0⟩) (s0:=Pw.s0) (by kernel_rfl) (by kernel_rfl) (fun _=>by kernel_rfl) (fun w os=>by kernel_rfl) (fun w os=>by kernel_rfl) fun w os=>by
    obtain⟨x,r,l⟩:=Option.map_eq_some_iff.mp (Pw.leftE w os)
    exact⟨x,L2.G0 (Pw.left1 w os) (L2.G0 (Pw.left2 w os) (L2.G0 (Pw.left3 w os) (L2.HV _ _ _ _ _ r))),l⟩
end
-- CHANGE: your row's module here,as the last of these rows
namespace L2
open PySem PySem.Spec PyProof.Rows
abbrev Key:=Sum Int Str
def Bn:Key->Value->Bool
  | .inl k,v=>Value.isInt k v
  | .inr x,v=>Value.isStrOf x v
def Y_(w:World):Key->Int
  | .inl k=>hashInt k
  | .inr x=>hashStr w x
theorem eP:∀ {k:Key} {v:Value},Bn k v=true->(∃ i t,k=Sum.inl i/\v=Value.int i t)\/(∃ x t,k=Sum.inr x/\v=Value.str x t)
  | .inl i,v,h=>by
    obtain⟨t,e⟩:=Value.isInt_shape (k:=i) (v:=v) h
    exact .inl ⟨i,t,rfl,e⟩
  | .inr x,v,h=>by
    obtain⟨t,e⟩:=Value.isStrOf_shape (x:=x) (v:=v) h
    exact .inr ⟨x,t,rfl,e⟩
theorem JJ(i:Int)(t:Tok):Bn (.inl i) (.int i t)=true:=by simp [Bn,Value.isInt]
theorem J_(x:Str)(t:Tok):Bn (.inr x) (.str x t)=true:=by simp [Bn,Value.isStrOf]
theorem QU(a b:Int):decide ((Sum.inl a:Key)=Sum.inl b)=(a==b):=by
  by_cases e:a=b
  · subst e;simp
  · have h:¬ (Sum.inl a:Key)=Sum.inl b:=fun q=>e (Sum.inl.inj q)
    rw[decide_eq_false h]
    exact (beq_eq_false_iff_ne.mpr e).symm
theorem Q2(a b:Str):decide ((Sum.inr a:Key)=Sum.inr b)=decide (a=b):=by
  by_cases e:a=b
  · subst e;simp
  · have h:¬ (Sum.inr a:Key)=Sum.inr b:=fun q=>e (Sum.inr.inj q)
    rw[decide_eq_false h,decide_eq_false e]
theorem Tw(a:Int)(b:Str):decide ((Sum.inl a:Key)=Sum.inr b)=false:=decide_eq_false (fun q=>nomatch q)
theorem Qp(a:Str)(b:Int):decide ((Sum.inr a:Key)=Sum.inl b)=false:=decide_eq_false (fun q=>nomatch q)
def eD(prog:Program)(w:World):PySem.KeyKind prog w Key where
  is:=Bn
  hash:=Y_ w
  inj:=fun v a b ha hb=>by
    rcases eP ha with ⟨i,t,rfl,rfl⟩ | ⟨x,t,rfl,rfl⟩
    · rcases eP hb with ⟨j,u,rfl,e⟩ | ⟨y,u,rfl,e⟩
      · injection e with e1 _;rw[e1]
      · exact nomatch e
    · rcases eP hb with ⟨j,u,rfl,e⟩ | ⟨y,u,rfl,e⟩
      · exact nomatch e
      · injection e with e1 _;rw[e1]
  byValue:=fun k v h=>by
    rcases eP h with ⟨i,t,rfl,rfl⟩ | ⟨x,t,rfl,rfl⟩ <;> rfl
  pyHash:=fun hv h=>by
    rcases eP hv with ⟨i,t,rfl,rfl⟩ | ⟨x,t,rfl,rfl⟩
    · exact wpAny_pyHash_int h
    · exact wpAny_pyHash_str h
  eqBool:=fun hu hv h=>by
    rcases eP hu with ⟨i,t,rfl,rfl⟩ | ⟨x,t,rfl,rfl⟩
    · rcases eP hv with ⟨j,u,rfl,rfl⟩ | ⟨y,u,rfl,rfl⟩
      · rw[QU] at h;exact wpAny_eqBool_int h
      · rw[Tw] at h;exact SeqAt.EqAt.int_str i t y u _ _ _ _ h
    · rcases eP hv with ⟨j,u,rfl,rfl⟩ | ⟨y,u,rfl,rfl⟩
      · rw[Qp] at h;exact SeqAt.EqAt.str_int x t j u _ _ _ _ h
      · rw[Q2] at h;exact wpAny_eqBool_str h
  «strs»:=fun k x t v h=>by
    rcases eP h with ⟨i,u,rfl,e⟩ | ⟨y,u,rfl,e⟩
    · exact nomatch e
    · injection e with e1 _
      subst e1
      cases v <;> rfl
theorem D0(prog:Program)(w:World)(i:Int)(t:Tok):(eD prog w).is (.inl i) (.int i t)=true:=JJ i t
theorem FV(prog:Program)(w:World)(x:Str)(t:Tok):(eD prog w).is (.inr x) (.str x t)=true:=J_ x t
end L2
namespace L2
open PySem PySem.Spec PyProof.Rows
inductive V where
  | non | bl (b:Bool) | int (i:Int) | str (x:Str) | byt (b:Array UInt8) | flt (b:UInt64) | ref (a:Addr) | ty (n:String)
  deriving DecidableEq
def RelV:V->Value->Prop
  | .non,u=>u=Value.none
  | .bl b,u=>u=Value.bool b
  | .int i,u=>∃ t,u=Value.int i t
  | .str x,u=>∃ t,u=Value.str x t
  | .byt b,u=>∃ t,u=Value.bytes b t
  | .flt b,u=>∃ t,u=Value.float b t
  | .ref a,u=>u=Value.ref a
  | .ty n,u=>u=Value.type n
abbrev bf:List V->List Value->Prop:=Paired RelV
theorem bf.length{xs:List V}{us:List Value}(r:bf xs us):xs.length=us.length:=Paired.length r
theorem bf.get:∀ {xs:List V} {us:List Value} {i:Nat} {x:V},bf xs us->xs[i]?=some x->∃ u,us[i]?=some u/\RelV x u
  | _,_,_,_,.nil,e=>by simp at e
  | _,_,0,_,.cons r _,e=>by simp at e;subst e;exact⟨_,rfl,r⟩
  | _,_,i+1,x,.cons _ t,e=>by
    obtain⟨u,h1,h2⟩:=bf.get (i:=i) (x:=x) t (by simpa using e)
    exact⟨u,by simpa using h1,h2⟩
theorem bf.append:∀ {xs ys:List V} {us ws:List Value},bf xs us->bf ys ws->bf (xs++ys) (us++ws)
  | _,_,_,_,.nil,s=>s
  | _,_,_,_,.cons r t,s=>.cons r (bf.append t s)
theorem bf.take:∀ {xs:List V} {us:List Value} (n:Nat),bf xs us->bf (xs.take n) (us.take n)
  | _,_,0,_=>.nil
  | _,_,_+1,.nil=>.nil
  | _,_,n+1,.cons r t=>.cons r (bf.take n t)
theorem bf.drop:∀ {xs:List V} {us:List Value} (n:Nat),bf xs us->bf (xs.drop n) (us.drop n)
  | _,_,0,r=>r
  | _,_,_+1,.nil=>.nil
  | _,_,n+1,.cons _ t=>bf.drop n t
def rD:Option V->Option Value->Prop
  | some v,some u=>RelV v u
  | none,none=>True
  | _,_=>False
def KV{κ:Type}:List (κ×V)->List (κ×Value)->Prop:=Paired fun (p:κ×V) (q:κ×Value)=>p.1=q.1/\RelV p.2 q.2
def kV:Key->V
  | .inl i=>.int i
  | .inr x=>.str x
def lq(h:Heap)(a:Addr)(items:Array Value):Prop:=∃ o,h.get? a=some o/\(o.cls=.type "tuple"/\o.dict=none)/\∃ n,o.data=.seq items n
theorem lq.tup{h:Heap}{a:Addr}{items:Array Value}(x:lq h a items):IsTup h a items:=let ⟨o,e,c,r⟩:=x;⟨o,e,c.1,r⟩
theorem lq.lt{h:Heap}{a:Addr}{items:Array Value}(x:lq h a items):a<h.objs.size:=x.tup.lt
theorem lq.new(h:Heap)(items:Array Value):lq (h.push { cls:=.type "tuple",data:=.seq items }) h.objs.size items:=⟨_,Heap.get?_push_size _ rfl,⟨rfl,rfl⟩,_,rfl⟩
inductive HO where
  
  | lst (xs:List V)
  
  | tup (xs:List V)
  
  | dK (kvs:List (Key×V)) | dT (kvs:List (List Key×V))
  
  | set (S:Int->Bool) (n:Nat)
  
  | ins (C dx:Addr) (fs:List (Str×V))
  
  | own (x:Addr)
  
  | xd (fs:List (Str×V))
  
  | met (f x:Addr)
  
  | rng (lo hi:Int)
  
  | frz (o:Obj) (u:HO)
  
  | tbl (ps:Array Value)
  
  | ext (φ:Heap->Prop)
abbrev Hp:=Addr->Option HO
def upd(H:Hp)(a:Addr)(o:HO):Hp:=fun b=>if b=a then some o else H b
theorem aH{H:Hp}{a:Addr}{o:HO}:upd H a o a=some o:=by unfold upd;rw[if_pos rfl]
theorem aI{H:Hp}{a b:Addr}{o:HO}(h:b≠a):upd H a o b=H b:=by unfold upd;rw[if_neg h]
theorem iK{H:Hp}{a:Addr}{o u:HO}:upd (upd H a o) a u=upd H a u:=by
  funext b;unfold upd;split <;> rfl
theorem aU{H:Hp}{a b:Addr}{o:HO}(h:H a=some o)(h':H b=none):a≠b:=by
  intro e;subst e;rw[h] at h';cases h'
section
variable (P:Program) (w:World)
def dz(H:Hp)(h:Heap)(a:Addr):HO->Prop
  | .lst xs=>xs.length<=sizeLine/\∃ (aS:List Value) (n:Nat),bf xs aS/\h.get? a=some { cls:=.type "list",data:=.seq aS.toArray n }
  | .tup xs=>xs.length<=sizeLine/\∃ aS:List Value,bf xs aS/\lq h a aS.toArray
  | .dK kvs=>kvs.length<=sizeLine/\(a==sysModules)=false/\∃ vs,KV kvs vs/\h.DictOf (eD P w) a vs
  | .dT kvs=>kvs.length<=sizeLine/\(a==sysModules)=false/\∃ xs:List (List Key×Addr×Value),
      Paired (fun (p:List Key×V) (q:List Key×Addr×Value)=>p.1=q.1/\H q.2.1=some (.tup (p.1.map kV))/\RelV p.2 q.2.2) kvs xs /\
      ∃ o es ep,h.get? a=some o/\o.ExactDict/\o.data=.dict es ep/\es.toList=xs.map (entryOfKey (tupleKind (eD P w)))/\(xs.map (·.1)).Nodup
  | .set S n=>h.SetOf (intKind P w) a S n
  | .ins C dx fs=>H dx=some (.own a)/\fs.length<=1000/\dx≠a/\h.get? a=some (PySem.W.instObj C dx) /\
      ∃ mA,h.Ns1 dx mA/\(∀ f,rD (fs.lookup f) (mA f))/\PySem.Within mA (fs.map (·.1))
  | .own _=>∃ o,h.get? a=some o
  | .xd fs=>∃ mA,h.Ns1 a mA/\∀ f,rD (fs.lookup f) (mA f)
  | .rng lo hi=>∃ t u v,h.get? a=some { cls:=.type "range",data:=.fields #[.int lo t,.int hi u,.int 1 v] }
  | .frz o u=>h.get? a=some o/\dz H h a u
  | .tbl ps=>h.get? a=some { cls:=.none,data:=.fields ps }
  | .met f x=>h.get? a=some (PySem.W.methodObj (.ref f) (.ref x))
  | .ext φ=>φ h/\(∃ o,h.get? a=some o)/\∀ h1 h2:Heap,φ h1->(∀ o,h1.get? a=some o->h2.get? a=some o)->φ h2
def so(H:Hp)(h:Heap):Prop:=∀ a o,H a=some o->dz P w H h a o
end
section
variable {P:Program} {w:World} {H H':Hp} {h h':Heap} {a:Addr} {o:HO}
theorem dz.lt(x:dz P w H h a o):a<h.objs.size:=by
  cases o with
  | lst xs=>obtain⟨_,_,_,_,e⟩:=x;exact Heap.lt_size e
  | tup xs=>obtain⟨_,_,_,p⟩:=x;exact p.lt
  | dK kvs=>obtain⟨_,_,_,_,o,_,_,e,_⟩:=x;exact Heap.lt_size e
  | dT kvs=>obtain⟨_,_,_,_,o,_,_,e,_⟩:=x;exact Heap.lt_size e
  | set S n=>obtain⟨o,_,_,_,e,_⟩:=x;exact Heap.lt_size e
  | ins C dx fs=>obtain⟨_,_,_,e,_⟩:=x;exact Heap.lt_size e
  | own y=>obtain⟨_,e⟩:=x;exact Heap.lt_size e
  | xd fs=>obtain⟨_,⟨_,_,_,e,_⟩,_⟩:=x;exact Heap.lt_size e
  | rng lo hi=>obtain⟨_,_,_,e⟩:=x;exact Heap.lt_size e
  | frz ob u=>obtain⟨e,_⟩:=x;exact Heap.lt_size e
  | tbl ps=>exact Heap.lt_size (show h.get? a=some _ from x)
  | met f y=>exact Heap.lt_size (show h.get? a=some _ from x)
  | ext φ=>obtain⟨_,⟨_,e⟩,_⟩:=x;exact Heap.lt_size e
theorem Paired.mapP{α β:Type}{F G:α->β->Prop}:∀ {l₁:List α} {l₂:List β},Paired F l₁ l₂->(∀ a b,F a b->G a b)->Paired G l₁ l₂
  | _,_,.nil,_=>.nil
  | _,_,.cons r t,f=>.cons (f _ _ r) (Paired.mapP t f)
theorem dz.stay(x:dz P w H h a o)(k:∀ b u,(b=a\/H b=some (.own a))->h.get? b=some u->h'.get? b=some u)
    (ho:∀ b,H b=some (.own a)->H' b=some (.own a)) (ht:∀ b xs,H b=some (.tup xs)->H' b=some (.tup xs)):dz P w H' h' a o:=by
  induction o with
  | lst xs=>obtain⟨z,aS,n,r,e⟩:=x;exact⟨z,aS,n,r,k _ _ (.inl rfl) e⟩
  | tup xs=>obtain⟨z,aS,r,ob,e,c⟩:=x;exact⟨z,aS,r,ob,k _ _ (.inl rfl) e,c⟩
  | dK kvs=>obtain⟨z,y,vs,r,ob,es,ep,e,c⟩:=x;exact⟨z,y,vs,r,ob,es,ep,k _ _ (.inl rfl) e,c⟩
  | dT kvs=>
    obtain⟨z,y,xs,r,ob,es,ep,e,c⟩:=x
    exact⟨z,y,xs,Paired.mapP r fun p q z=>⟨z.1,ht _ _ z.2.1,z.2.2⟩,ob,es,ep,k _ _ (.inl rfl) e,c⟩
  | set S n=>obtain⟨ob,es,ep,t,e,c⟩:=x;exact⟨ob,es,ep,t,k _ _ (.inl rfl) e,c⟩
  | ins C dx fs=>
    obtain⟨d,z,ne,e,mA,⟨od,es,ep,e2,c⟩,r⟩:=x
    exact⟨ho _ d,z,ne,k _ _ (.inl rfl) e,mA,⟨od,es,ep,k _ _ (.inr d) e2,c⟩,r⟩
  | own y=>obtain⟨ob,e⟩:=x;exact⟨ob,k _ _ (.inl rfl) e⟩
  | xd fs=>obtain⟨mA,⟨od,es,ep,e,c⟩,r⟩:=x;exact⟨mA,⟨od,es,ep,k _ _ (.inl rfl) e,c⟩,r⟩
  | rng lo hi=>obtain⟨t,u,v,e⟩:=x;exact⟨t,u,v,k _ _ (.inl rfl) e⟩
  | frz ob u ih=>obtain⟨e,q⟩:=x;exact⟨k _ _ (.inl rfl) e,ih q⟩
  | tbl ps=>
    have e:h.get? a=some { cls:=.none,data:=.fields ps }:=x
    show h'.get? a=some { cls:=.none,data:=.fields ps }
    exact k a _ (.inl rfl) e
  | met f y=>
    have e:h.get? a=some (PySem.W.methodObj (.ref f) (.ref y)):=x
    show h'.get? a=some (PySem.W.methodObj (.ref f) (.ref y))
    exact k a _ (.inl rfl) e
  | ext φ=>obtain⟨p,⟨o,e⟩,st⟩:=x;exact⟨st _ _ p fun o q=>k _ _ (.inl rfl) q,⟨o,k _ _ (.inl rfl) e⟩,st⟩
theorem so.lt(x:so P w H h)(e:H a=some o):a<h.objs.size:=(x a o e).lt
theorem so.fresh(x:so P w H h)(e:h.objs.size<=a):H a=none:=by
  cases q:H a with
  | none=>rfl
  | some u=>exact absurd (Nat.lt_of_lt_of_le (x.lt q) e) (Nat.lt_irrefl _)
theorem so.kept(x:so P w H h)(k:∀ b u,h.get? b=some u->h'.get? b=some u):so P w H h':=fun a o e=>
  (x a o e).stay (fun b u _ q=>k b u q) (fun _ q=>q) fun _ _ q=>q
theorem so.laid(x:so P w H h)(k:∀ b u,h.get? b=some u->h'.get? b=some u)(hp:h.objs.size<=a)(new:dz P w (upd H a o) h' a o):so P w (upd H a o) h':=fun b u e=>by
  have hn:=x.fresh hp
  by_cases hb:b=a
  · subst hb;rw[aH] at e;cases e;exact new
  · rw[aI hb] at e
    exact (x b u e).stay (fun c v _ q=>k c v q) (fun c q=>by rw[aI (aU q hn)];exact q) fun c xs q=>by rw[aI (aU q hn)];exact q
end
def Rd(H:Hp)(a:Addr)(u:HO):Prop:=H a=some u\/∃ o,H a=some (.frz o u)
theorem Rd.ok{P:Program}{w:World}{H:Hp}{h:Heap}{a:Addr}{u:HO}(r:Rd H a u)(x:so P w H h):dz P w H h a u:=by
  rcases r with r | ⟨o,r⟩
  · exact x a u r
  · obtain⟨_,q⟩:=x a _ r
    exact q
def Vz:Option HO->Prop
  | some (.lst _)=>True
  | some (.dK _)=>True
  | some (.dT _)=>True
  | some (.set _ _)=>True
  | some (.ins _ _ _)=>True
  | some (.ext _)=>True
  | _=>False
section
variable {P:Program} {w:World} {H:Hp} {h h':Heap} {x e:Addr} {o':HO}
theorem so.write(ok:so P w H h)(mu:Vz (H x))(he:e=x\/H e=some (.own x))(k:∀ b u,b≠e->h.get? b=some u->h'.get? b=some u)(T3:∃ u,h'.get? e=some u)
    (new:dz P w (upd H x o') h' x o'):so P w (upd H x o') h':=fun b u q=>by
  have Uj:∀ c y,H c=some (.own y)->c≠x:=fun c y r z=>by subst z;rw[r] at mu;exact mu
  have Y8:∀ c xs,H c=some (.tup xs)->c≠x:=fun c xs r z=>by subst z;rw[r] at mu;exact mu
  by_cases hb:b=x
  · subst hb;rw[aH] at q;cases q;exact new
  · rw[aI hb] at q
    by_cases hbe:b=e
    · have q':H b=some (.own x):=by
        rcases he with z | z
        · exact absurd (hbe.trans z) hb
        · rw[hbe];exact z
      rw[q] at q';cases q'
      obtain⟨v,hv⟩:=T3
      exact⟨v,by rw[hbe];exact hv⟩
    · refine (ok b u q).stay (fun c v hc r=>k c v ?_ r) (fun c r=>by rw[aI (Uj c b r)];exact r) fun c xs r=>by rw[aI (Y8 c xs r)];exact r
      rcases hc with rfl | hc
      · exact hbe
      · rintro rfl
        rcases he with z | z
        · exact Uj c b hc z
        · rw[hc] at z;cases z;exact hb rfl
end
structure Un(fs ex:List Addr)(H H':Hp)(h h':Heap):Prop where
  keep:∀ b o,h.get? b=some o->H b=none->b ∉ fs->b ∉ ex->h'.get? b=some o
  slot:∀ b o,h.get? b=some o->H b=none->b∈fs->b ∉ ex->∃ sl,h'.get? b=some { o with slots:=sl }
  free:∀ b o,h.get? b=some o->H b=none->b ∉ ex->H' b=none
  there:∀ b o,h.get? b=some o->b ∉ ex->∃ o',h'.get? b=some o'
  v7:∀ b xs,H b=some (.tup xs)->H' b=some (.tup xs)
  uS:∀ b o u,H b=some (.frz o u)->H' b=some (.frz o u)
  vv:∀ b ps,H b=some (.tbl ps)->∃ more,H' b=some (.tbl (ps++more))
section
variable {fs Hb ex ex':List Addr} {H H1 H2:Hp} {h h1 h2 h':Heap} {a x e:Addr} {o:HO}
theorem Un.any(u:Un fs ex H H1 h h1){b:Addr}{ob:Obj}(q:h.get? b=some ob)(n:H b=none)(hx:b ∉ ex):∃ sl,h1.get? b=some { ob with slots:=sl }:=by
  by_cases hb:b∈fs
  · exact u.slot b ob q n hb hx
  · exact⟨ob.slots,u.keep b ob q n hb hx⟩
theorem Un.kept(k:∀ b u,h.get? b=some u->h'.get? b=some u):Un fs ex H H h h':=
  ⟨fun b ob q _ _ _=>k b ob q,fun b ob q _ _ _=>⟨ob.slots,k b ob q⟩,fun _ _ _ n _=>n,fun b ob q _=>⟨ob,k b ob q⟩,fun _ _ q=>q,fun _ _ _ q=>q,fun _ ps q=>⟨#[],by rw[q];simp⟩⟩
theorem Un.refl:Un fs ex H H h h:=Un.kept fun _ _ q=>q
theorem Un.laid(k:∀ b u,h.get? b=some u->h'.get? b=some u)(hp:h.objs.size<=a)(hn:H a=none):Un fs ex H (upd H a o) h h' where
  keep:=fun b u q _ _ _=>k b u q
  slot:=fun b u q _ _ _=>⟨u.slots,k b u q⟩
  free:=fun b u q n _=>by rw[aI (Nat.ne_of_lt (Nat.lt_of_lt_of_le (Heap.lt_size q) hp))];exact n
  there:=fun b u q _=>⟨u,k b u q⟩
  v7:=fun b xs q=>by rw[aI (aU q hn)];exact q
  uS:=fun b u xs q=>by rw[aI (aU q hn)];exact q
  vv:=fun b ps q=>⟨#[],by rw[aI (aU q hn),q];simp⟩
theorem Un.write(mu:Vz (H x))(he:e=x\/H e=some (.own x))(k:∀ b u,b≠e->h.get? b=some u->h'.get? b=some u)(T3:∃ u,h'.get? e=some u):Un fs ex H (upd H x o) h h':=by
  have hx:∀ b,H b=none->b≠x:=fun b n z=>by subst z;rw[n] at mu;exact mu
  have hb:∀ b,H b=none->b≠e:=fun b n z=>by
    subst z
    rcases he with r | r
    · exact hx b n r
    · rw[n] at r;cases r
  have hm:∀ b u,H b=some u->¬ Vz (some u)->b≠x:=fun b u q nm z=>by subst z;rw[q] at mu;exact nm mu
  refine⟨fun b u q n _ _=>k b u (hb b n) q,fun b u q n _ _=>⟨u.slots,k b u (hb b n) q⟩,fun b u q n _=>by rw[aI (hx b n)];exact n,fun b u q _=>?_,
    fun b xs q=>by rw[aI (hm b _ q fun z=>z)];exact q,fun b u xs q=>by rw[aI (hm b _ q fun z=>z)];exact q,fun b ps q=>⟨#[],by rw[aI (hm b _ q fun z=>z),q];simp⟩⟩
  by_cases hbe:b=e
  · subst hbe;exact T3
  · exact⟨u,k b u hbe q⟩
end
def XM(h:Heap)(H:Hp):List Addr:=(List.range h.objs.size).filter fun a=>(H a).isSome
def Dr(h:Heap)(H:Hp):Heap:=PySem.W.hideAll h (XM h H)
theorem Js(h:Heap)(H:Hp):(Dr h H).objs.size=h.objs.size:=PySem.W.hideAll_size _ _
theorem ML{h:Heap}{H:Hp}{b:Addr}{o:Obj}(e:h.get? b=some o)(n:H b=none):(Dr h H).get? b=some o:=
  PySem.W.hideAll_get _ e fun hm=>by
    have q:(H b).isSome=true:=(List.mem_filter.mp hm).2
    rw[n] at q;simp at q
theorem Ou{h:Heap}{H:Hp}{b:Addr}{o:Obj}(e:(Dr h H).get? b=some o):h.get? b=some o/\H b=none:=by
  have e':h.get? b=some o:=PySem.W.of_hideAll (XM h H) e
  refine⟨e',?_⟩
  cases q:H b with
  | none=>rfl
  | some x=>
    have hm:b∈XM h H:=List.mem_filter.mpr ⟨List.mem_range.mpr (Heap.lt_size e'),by simp [q]⟩
    have z:(Dr h H).get? b=none:=PySem.W.hideAll_none (XM h H) hm
    rw[z] at e;cases e
end L2
namespace L2
open PySem PySem.Spec PyProof.Rows
structure Mod(K:PySem.W.Frag)(mg:Str->Option Value)(base:Heap):Prop where
  NN:K.In base
  glob:base.Ns mainGlobals mg
  blt:∃ mb,base.Ns builtinsNs mb/\∀ x:Str,x≠"__name__"->mb x=bootBuiltins x
  nolimit:base.NoLimit
structure Cx where
  prog:Program
  w:World
  K:PySem.W.Frag
  mg:Str->Option Value
  base:Heap
  A:Around
  N:List Str
  s₀:Shared
  H₀:Hp
  env:Env
  outer:List Env
  stack:List Env
  ex:List Addr
  fn:Str->Bool
  calm:Bool
  pn:List (Addr×Obj)
  xe:Value->Shared->Prop
def vK(l:List Env):List Addr:=l.filterMap (·.frame)
abbrev Cx.fs(X:Cx):List Addr:=vK X.outer
def Hw(sc:Scope)(x:Str):Prop:=sc.names.lookup x=some .local\/sc.names.lookup x=some .cell\/sc.names.lookup x=some .free
def Loc(sc:Scope)(x:Str):Prop:=sc.names.lookup x=some .local\/sc.names.lookup x=some .cell
def Look(env:Env)(h:Heap)(m:Str->Option Value)(x:Str)(u:Value):Prop:=
  (env.kindOf x=some .local/\m x=some u)\/((env.kindOf x=some .cell\/env.kindOf x=some .free)/\∃ c,env.cells.lookup x=some c/\h.IsCell c (some u))
structure Cx.Ok(X:Cx):Prop where
  mod:Mod X.K X.mg X.base
  kind:X.env.scope.kind=.function
  glob:X.env.globals=mainGlobals
  blt:X.env.builtins=builtinsNs
  above:X.s₀.heap.objs.size<=X.env.locals
  inj:∀ x y c,X.env.cells.lookup x=some c->X.env.cells.lookup y=some c->x=y
  has:∀ x,(X.env.kindOf x=some .cell\/X.env.kindOf x=some .free)->∃ c,X.env.cells.lookup x=some c
  NH:∀ x c,X.fn x=true->X.env.cells.lookup x=some c->X.s₀.heap.objs.size<=c
  hd:X.calm=true->X.A.handled=none
  frames:X.A.frames=some X.stack
  PZ:X.stack=X.outer\/(X.stack=X.env::X.outer/\X.env.frame=some X.env.locals)
  TV:∀ b∈X.ex,b≠X.env.locals/\∀ x c,X.env.cells.lookup x=some c->c≠b
  bs:∀ b o,X.base.get? b=some o->X.s₀.heap.get? b=some o/\X.H₀ b=none
  IW:X.base.objs.size<=X.s₀.heap.objs.size
  Dy:∀ b o,X.base.get? b=some o->b ∉ X.ex
  FZ:∀ b∈X.ex,b ∉ X.fs
  pK:X.s₀.heap.FunFrames X.base X.outer
  Ig:∀ b∈X.fs,X.H₀ b=none
structure Inv(X:Cx)(pins:List (Addr×Obj))(σ:List (Option V))(H:Hp)(s:Shared):Prop where
  ok:X.Ok
  os:s.os=X.s₀.os
  bare:AllBare s.gens
  base:Un X.fs X.ex X.H₀ H X.s₀.heap s.heap
  loc:∃ m,s.heap.Ns X.env.locals m/\∀ (i:Nat) (x:Str) (v:V),X.N[i]?=some x->σ[i]?=some (some v)->Hw X.env.scope x->∃ u,RelV v u/\Look X.env s.heap m x u
  cell:∀ x c,X.env.cells.lookup x=some c->∃ v,s.heap.IsCell c v
  free:H X.env.locals=none
  jr:∀ x c,X.env.cells.lookup x=some c->H c=none
  pin:∀ p∈X.pn++pins,s.heap.get? p.1=some p.2/\H p.1=none/\p.1≠X.env.locals/\p.1 ∉ X.fs/\∀ v,p.2.data≠.cell v
  cQ:so X.prog X.w H s.heap
  len:σ.length=X.N.length
section
variable {X:Cx} {pins:List (Addr×Obj)} {σ:List (Option V)} {H H':Hp} {s:Shared} {h':Heap}
theorem Cx.Ok.nofr(ok:X.Ok){b:Addr}{o:Obj}(e:X.base.get? b=some o):b ∉ X.fs:=fun hb=>by
  have:=(ok.pK.mem hb).1
  rw[e] at this;cases this
theorem Inv.bs(I:Inv X pins σ H s):∀ b o,X.base.get? b=some o->s.heap.get? b=some o/\H b=none:=fun b o e=>
  ⟨I.base.keep b o (I.ok.bs b o e).1 (I.ok.bs b o e).2 (I.ok.nofr e) (I.ok.Dy b o e),I.base.free b o (I.ok.bs b o e).1 (I.ok.bs b o e).2 (I.ok.Dy b o e)⟩
theorem Inv.bk(I:Inv X pins σ H s):∀ b o,X.base.get? b=some o->s.heap.get? b=some o:=fun b o e=>(I.bs b o e).1
theorem Inv.mod(I:Inv X pins σ H s):Mod X.K X.mg X.base:=I.ok.mod
theorem Inv.kIn(I:Inv X pins σ H s):X.K.In s.heap:=I.ok.mod.NN.keeps I.bk
theorem Inv.lt(I:Inv X pins σ H s):X.env.locals<s.heap.objs.size:=let ⟨_,hn,_⟩:=I.loc;hn.lt
theorem Inv.sz(I:Inv X pins σ H s):X.s₀.heap.objs.size<=s.heap.objs.size:=Nat.le_trans I.ok.above (Nat.le_of_lt I.lt)
theorem Inv.nofs(I:Inv X pins σ H s){a:Addr}(h:s.heap.objs.size<=a):a ∉ X.fs:=fun hb=>by
  obtain⟨_,o,ho,_⟩:=I.ok.pK.mem hb
  exact absurd (Nat.lt_of_lt_of_le (Heap.lt_size ho) (Nat.le_trans I.sz h)) (Nat.lt_irrefl _)
theorem Inv.MJ(I:Inv X pins σ H s):∀ x c,X.env.cells.lookup x=some c->c≠X.env.locals:=fun x c e z=>by
  obtain⟨v,o,ho,hd⟩:=I.cell x c e
  obtain⟨m,⟨o',es,ep,ho',hd',_⟩,_⟩:=I.loc
  rw[z,ho'] at ho;cases ho;rw[hd'] at hd;cases hd
theorem Inv.pK(I:Inv X pins σ H s):s.heap.FunFrames X.base X.outer:=by
  have all:∀ (l:List Env),(∀ b∈vK l,b∈X.fs)->X.s₀.heap.FunFrames X.base l->s.heap.FunFrames X.base l:=by
    intro l
    induction l with
    | nil=>intro _ _;trivial
    | cons env r ih=>
      intro hs hl
      obtain⟨hk,⟨L,o,hf,hn,ho,hd⟩,hr⟩:=hl
      have hL:L∈X.fs:=hs L (by unfold vK;rw[List.filterMap_cons,hf];exact List.mem_cons_self)
      obtain⟨sl,e⟩:=I.base.slot L o ho (I.ok.Ig L hL) hL fun z=>I.ok.FZ L z hL
      exact⟨hk,⟨L,_,hf,hn,e,hd⟩,ih (fun b hb=>hs b (by unfold vK;rw[List.filterMap_cons,hf];exact List.mem_cons_of_mem _ hb)) hr⟩
  exact all X.outer (fun _ hb=>hb) I.ok.pK
theorem Inv.stack(I:Inv X pins σ H s):s.heap.FunFrames X.base X.stack:=by
  rcases I.ok.PZ with e | ⟨e,hf⟩
  · rw[e];exact I.pK
  · rw[e]
    obtain⟨m,hn,_⟩:=I.loc
    refine .cons (by rw[I.ok.kind];decide) hf hn ?_ I.pK
    exact Heap.get?_none_of_le (Nat.le_trans I.ok.IW I.ok.above)
theorem Inv.stkSub(I:Inv X pins σ H s):∀ b∈vK X.stack,b∈X.env.locals::X.fs:=fun b hb=>by
  rcases I.ok.PZ with e | ⟨e,hf⟩
  · rw[e] at hb;exact List.mem_cons_of_mem _ hb
  · rw[e] at hb
    unfold vK at hb
    rw[List.filterMap_cons,hf] at hb
    exact hb
theorem Inv.stkFree(I:Inv X pins σ H s):∀ b∈vK X.stack,H b=none:=fun b hb=>by
  rcases List.mem_cons.mp (I.stkSub b hb) with e | hb
  · rw[e];exact I.free
  · obtain⟨_,o,ho,_⟩:=I.ok.pK.mem hb
    exact I.base.free b o ho (I.ok.Ig b hb) fun z=>I.ok.FZ b z hb
theorem Inv.step{g':Array GenState}{t':Nat}{d':Drawn}{ch:List Addr}(I:Inv X pins σ H s)
    (Kv:∀ b∈ch,(b∈X.ex\/X.s₀.heap.objs.size<=b)/\b≠X.env.locals/\(∀ x c,X.env.cells.lookup x=some c->c≠b)/\∀ p∈X.pn++pins,p.1≠b)
    (keep:∀ b o,b≠X.env.locals->b ∉ X.fs->b ∉ ch->s.heap.get? b=some o->H b=none->h'.get? b=some o)
    (slot:∀ b o,b≠X.env.locals->b∈X.fs->b ∉ ch->s.heap.get? b=some o->H b=none->∃ sl,h'.get? b=some { o with slots:=sl }) (free:∀ b o,b ∉ ch->s.heap.get? b=some o->H b=none->H' b=none)
    (there:∀ b o,b ∉ ch->s.heap.get? b=some o->∃ o',h'.get? b=some o')
    (v7:∀ b xs,H b=some (.tup xs)->H' b=some (.tup xs)) (uS:∀ b o u,H b=some (.frz o u)->H' b=some (.frz o u)) (vv:∀ b ps,H b=some (.tbl ps)->∃ more,H' b=some (.tbl (ps++more)))
    (ns:∀ m,s.heap.Ns X.env.locals m->h'.Ns X.env.locals m) (cQ:so X.prog X.w H' h') (hg:AllBare g') :
    Inv X pins σ H' { s with heap:=h',gens:=g',drawn:=d',toks:=t' }:=by
  have neL:∀ b o,X.s₀.heap.get? b=some o->b≠X.env.locals:=fun b o e=>Nat.ne_of_lt (Nat.lt_of_lt_of_le (Heap.lt_size e) I.ok.above)
  have Pj:∀ b o,X.s₀.heap.get? b=some o->b ∉ X.ex->b ∉ ch:=fun b o e hx hb=>by
    rcases (Kv b hb).1 with z | z
    · exact hx z
    · exact absurd (Nat.lt_of_lt_of_le (Heap.lt_size e) z) (Nat.lt_irrefl _)
  have cellK:∀ x c,X.env.cells.lookup x=some c->∀ v,s.heap.IsCell c v->h'.IsCell c v:=fun x c e v ⟨o,ho,hd⟩=>by
    have Vt:c ∉ ch:=fun z=>(Kv c z).2.2.1 x c e rfl
    by_cases hc:c∈X.fs
    · obtain⟨sl,q⟩:=slot c o (I.MJ x c e) hc Vt ho (I.jr x c e)
      exact⟨_,q,hd⟩
    · exact⟨o,keep c o (I.MJ x c e) hc Vt ho (I.jr x c e),hd⟩
  refine⟨I.ok,I.os,hg,⟨fun b o e n hb hx=>?_,fun b o e n hb hx=>?_,fun b o e n hx=>?_,fun b o e hx=>?_,fun b xs e=>v7 b xs (I.base.v7 b xs e),fun b o xs e=>uS b o xs (I.base.uS b o xs e),fun b ps e=>?_⟩,?_,fun x c e=>?_,?_,fun x c e=>?_,fun p hp=>?_,cQ,I.len⟩
  · exact keep b o (neL b o e) hb (Pj b o e hx) (I.base.keep b o e n hb hx) (I.base.free b o e n hx)
  · obtain⟨sl,e1⟩:=I.base.slot b o e n hb hx
    obtain⟨sl',e2⟩:=slot b _ (neL b o e) hb (Pj b o e hx) e1 (I.base.free b o e n hx)
    exact⟨sl',e2⟩
  · obtain⟨o',e1⟩:=I.base.there b o e hx
    exact free b o' (Pj b o e hx) e1 (I.base.free b o e n hx)
  · obtain⟨o',e1⟩:=I.base.there b o e hx
    exact there b o' (Pj b o e hx) e1
  · obtain⟨m1,e1⟩:=I.base.vv b ps e
    obtain⟨m2,e2⟩:=vv b _ e1
    exact⟨m1++m2,by rw[e2,Array.append_assoc]⟩
  · obtain⟨m,hn,hl⟩:=I.loc
    refine⟨m,ns m hn,fun i x v e1 e2 e3=>?_⟩
    obtain⟨u,r,l⟩:=hl i x v e1 e2 e3
    refine⟨u,r,?_⟩
    rcases l with l | ⟨k,c,e,z⟩
    · exact .inl l
    · exact .inr ⟨k,c,e,cellK x c e _ z⟩
  · obtain⟨v,z⟩:=I.cell x c e
    exact⟨v,cellK x c e v z⟩
  · obtain⟨m,⟨o,_,_,ho,_⟩,_⟩:=I.loc
    exact free _ o (fun z=>(Kv _ z).2.1 rfl) ho I.free
  · obtain⟨v,o,ho,hd⟩:=I.cell x c e
    exact free c o (fun z=>(Kv c z).2.2.1 x c e rfl) ho (I.jr x c e)
  · obtain⟨e,n,ne,nf,d⟩:=I.pin p hp
    have Vt:p.1 ∉ ch:=fun z=>(Kv p.1 z).2.2.2 p hp rfl
    exact⟨keep p.1 p.2 ne nf Vt e n,free p.1 p.2 Vt e n,ne,nf,d⟩
theorem Inv.un{t':Nat}(I:Inv X pins σ H s)(u:Un X.fs [] H H' s.heap h')(cQ:so X.prog X.w H' h'):Inv X pins σ H' { s with heap:=h',toks:=t' }:=by
  obtain⟨m,⟨o,es,ep,ho,r⟩,_⟩:=id I.loc
  obtain⟨sl,hL⟩:=u.any ho I.free (by simp)
  exact I.step (g':=s.gens) (d':=s.drawn) (ch:=[]) (fun _ z=>nomatch z) (fun b o _ hb _ e n=>u.keep b o e n hb (by simp)) (fun b o _ hb _ e n=>u.slot b o e n hb (by simp)) (fun b o _ e n=>u.free b o e n (by simp)) (fun b o _ e=>u.there b o e (by simp)) u.v7 u.uS u.vv (fun m' hm=>by
    obtain⟨o',es',ep',ho',r'⟩:=hm
    rw[ho] at ho';cases ho'
    exact⟨_,es',ep',hL,r'⟩) cQ I.bare
theorem Inv.call{g':Array GenState}{t':Nat}{d':Drawn}{ch:List Addr}(I:Inv X pins σ H s)(u:Un (vK X.stack) ch H H' s.heap h')(cQ:so X.prog X.w H' h')(hg:AllBare g')
    (Kv:∀ b∈ch,(b∈X.ex\/X.s₀.heap.objs.size<=b)/\b≠X.env.locals/\(∀ x c,X.env.cells.lookup x=some c->c≠b)/\∀ p∈X.pn++pins,p.1≠b) :
    Inv X pins σ H' { s with heap:=h',gens:=g',drawn:=d',toks:=t' }:=by
  obtain⟨m,⟨o,es,ep,ho,r⟩,_⟩:=id I.loc
  obtain⟨sl,hL⟩:=u.any ho I.free fun z=>(Kv _ z).2.1 rfl
  exact I.step (ch:=ch) Kv (fun b o hL hb hc e n=>u.keep b o e n (fun z=>(List.mem_cons.mp (I.stkSub b z)).elim hL hb) hc) (fun b o _ _ hc e n=>u.any e n hc) (fun b o hc e n=>u.free b o e n hc) (fun b o hc e=>u.there b o e hc) u.v7 u.uS u.vv (fun m' hm=>by
    obtain⟨o',es',ep',ho',r'⟩:=hm
    rw[ho] at ho';cases ho'
    exact⟨_,es',ep',hL,r'⟩) cQ hg
theorem Inv.turned{t':Nat}{it:Addr}(I:Inv X pins σ H s)(k:∀ b o,b≠it->s.heap.get? b=some o->h'.get? b=some o)(hn:H it=none)(hL:it≠X.env.locals)
    (h1:it∈X.ex\/X.s₀.heap.objs.size<=it) (h2:∀ x c,X.env.cells.lookup x=some c->c≠it) (h3:∀ p∈X.pn++pins,p.1≠it):Inv X pins σ H { s with heap:=h',toks:=t' }:=by
  have nit:∀ b u,H b=some u->b≠it:=fun b u e z=>by rw[z,hn] at e;cases e
  refine I.step (g':=s.gens) (d':=s.drawn) (ch:=[it]) (fun b hb=>?_) (fun b o _ _ hc e _=>k b o (fun z=>hc (by simp [z])) e) (fun b o _ _ hc e _=>⟨o.slots,k b o (fun z=>hc (by simp [z])) e⟩) (fun _ _ _ _ n=>n)
    (fun b o hc e=>⟨o,k b o (fun z=>hc (by simp [z])) e⟩) (fun _ _ e=>e) (fun _ _ _ e=>e) (fun b ps e=>⟨#[],by rw[e];simp⟩) (fun m hm=>?_) (fun b u e=>?_) I.bare
  · have e:b=it:=by simpa using hb
    subst e
    exact⟨h1,hL,h2,h3⟩
  · obtain⟨o,es,ep,ho,r⟩:=hm
    exact⟨o,es,ep,k _ o (Ne.symm hL) ho,r⟩
  · refine (I.cQ b u e).stay (fun c v hc q=>k c v ?_ q) (fun _ q=>q) fun _ _ q=>q
    rcases hc with z | z
    · rw[z];exact nit b u e
    · exact nit c _ z
theorem Inv.tok(I:Inv X pins σ H s)(t:Nat):Inv X pins σ H { s with toks:=t }:=I.un (h':=s.heap) (t':=t) Un.refl I.cQ
theorem Inv.kept{t':Nat}(I:Inv X pins σ H s)(k:∀ b u,s.heap.get? b=some u->h'.get? b=some u):Inv X pins σ H { s with heap:=h',toks:=t' }:=I.un (Un.kept k) (I.cQ.kept k)
theorem Inv.laid{a:Addr}{o:HO}{t':Nat}(I:Inv X pins σ H s)(k:∀ b u,s.heap.get? b=some u->h'.get? b=some u)(hp:s.heap.objs.size<=a)(new:dz X.prog X.w (upd H a o) h' a o):
    Inv X pins σ (upd H a o) { s with heap:=h',toks:=t' }:=I.un (Un.laid k hp (I.cQ.fresh hp)) (I.cQ.laid k hp new)
theorem Inv.write{x e:Addr}{o:HO}{t':Nat}(I:Inv X pins σ H s)(mu:Vz (H x))(he:e=x\/H e=some (.own x))(k:∀ b u,b≠e->s.heap.get? b=some u->h'.get? b=some u)(T3:∃ u,h'.get? e=some u)
    (new:dz X.prog X.w (upd H x o) h' x o):Inv X pins σ (upd H x o) { s with heap:=h',toks:=t' }:=I.un (Un.write mu he k T3) (I.cQ.write mu he k T3 new)
theorem Inv.pins_of{yK:List (Addr×Obj)}(I:Inv X pins σ H s)(h:∀ p∈yK,s.heap.get? p.1=some p.2/\H p.1=none/\p.1≠X.env.locals/\p.1 ∉ X.fs/\∀ v,p.2.data≠.cell v):Inv X yK σ H s:=
  ⟨I.ok,I.os,I.bare,I.base,I.loc,I.cell,I.free,I.jr,fun p hp=>(List.mem_append.mp hp).elim (fun z=>I.pin p (List.mem_append_left _ z)) (h p),I.cQ,I.len⟩
theorem zJ{N:List Str}(hN:N.Nodup){i j:Nat}{x:Str}(a:N[i]?=some x)(b:N[j]?=some x):i=j:=by
  obtain⟨h1,e1⟩:=List.getElem?_eq_some_iff.mp a
  obtain⟨h2,e2⟩:=List.getElem?_eq_some_iff.mp b
  exact (List.getElem_inj hN).mp (e1.trans e2.symm)
theorem JF{M:Model}{A:Around}{E:Value->Shared->Prop}{i:Nat}{x:Str}{v:V}{u:Value}{Q:Unit->Shared->Prop}(I:Inv X pins σ H s)(hN:X.N.Nodup)(hi:X.N[i]?=some x)(hx:Loc X.env.scope x)(r:RelV v u)
    (h:∀ s',Inv X pins (σ.set i (some v)) H s'->(∃ a,Heap.SameBut a s.heap s'.heap/\(a=X.env.locals\/X.env.cells.lookup x=some a))->Q () s') (hf:X.fn x=true\/X.env.scope.names.lookup x=some .local:=by first | exact .inl rfl | exact .inr rfl | assumption):wpAny M A (storeName X.env x u) Q E s:=by
  obtain⟨m,hn,hl⟩:=id I.loc
  have KM:(X.env.scope.kind==.class || (X.env.scope.kind==.module&&X.env.locals != X.env.globals))=false:=by rw[I.ok.kind];rfl
  have hiσ:i<σ.length:=by rw[I.len];exact (List.getElem?_eq_some_iff.mp hi).1
  have MJ:=I.MJ
  have tracked:∀ {a:Addr} {h':Heap},(∃ o,s.heap.get? a=some o/\H a=none)->Heap.SameBut a s.heap h'->so X.prog X.w H h':=fun {a h'} ha hs b ob e=>by
    obtain⟨_,_,hfree⟩:=ha
    refine (I.cQ b ob e).stay (fun c w' hc q=>(hs.2 c ?_).trans q) (fun _ q=>q) fun _ _ q=>q
    rintro rfl
    rcases hc with rfl | hc
    · rw[hfree] at e;cases e
    · rw[hfree] at hc;cases hc
  rcases hx with hk | hk
  · refine wpAny_storeName_local hk hn (fun h' hn' hs=>?_) KM
    obtain⟨oL,_,_,hoL,_⟩:=id hn
    refine h _ ⟨I.ok,I.os,I.bare,⟨fun b o e n hb hx=>?_,fun b o e n hb hx=>?_,I.base.free,fun b o e hx=>?_,I.base.v7,I.base.uS,I.base.vv⟩,⟨_,hn',fun j y v' e1 e2 e3=>?_⟩,fun y c e=>?_,I.free,I.jr,fun p hp=>?_,tracked ⟨oL,hoL,I.free⟩ hs,by simpa using I.len⟩ ⟨_,hs,.inl rfl⟩
    · exact (hs.2 b (Nat.ne_of_lt (Nat.lt_of_lt_of_le (Heap.lt_size e) I.ok.above))).trans (I.base.keep b o e n hb hx)
    · obtain⟨sl,e1⟩:=I.base.slot b o e n hb hx
      exact⟨sl,(hs.2 b (Nat.ne_of_lt (Nat.lt_of_lt_of_le (Heap.lt_size e) I.ok.above))).trans e1⟩
    · obtain⟨o',e1⟩:=I.base.there b o e hx
      exact⟨o',(hs.2 b (Nat.ne_of_lt (Nat.lt_of_lt_of_le (Heap.lt_size e) I.ok.above))).trans e1⟩
    · by_cases hj:j=i
      · subst hj
        rw[hi] at e1;cases e1
        rw[List.getElem?_set_self hiσ] at e2
        cases e2
        exact⟨u,r,.inl ⟨hk,by simp⟩⟩
      · rw[List.getElem?_set_ne (Ne.symm hj)] at e2
        obtain⟨u',r',q⟩:=hl j y v' e1 e2 e3
        refine⟨u',r',?_⟩
        rcases q with ⟨k,e⟩ | ⟨k,c,e,z⟩
        · refine .inl ⟨k,?_⟩
          have:y≠x:=fun e=>hj (zJ hN e1 (e ▸ hi))
          simp [this,e]
        · exact .inr ⟨k,c,e,z.sameBut hs (MJ y c e)⟩
    · obtain⟨w',z⟩:=I.cell y c e
      exact⟨w',z.sameBut hs (MJ y c e)⟩
    · obtain⟨e,n,ne,nf,d⟩:=I.pin p hp
      exact⟨(hs.2 p.1 ne).trans e,n,ne,nf,d⟩
  · have YB:X.fn x=true:=by
      rcases hf with z | z
      · exact z
      · rw[z] at hk;cases hk
    obtain⟨c,hc⟩:=I.ok.has x (.inl hk)
    obtain⟨w',z⟩:=I.cell x c hc
    refine wpAny_storeName_cell I.ok.kind hk hc z (fun h' hc' hs=>?_)
    obtain⟨oc,hoc,hocd⟩:=id z
    refine h { s with heap:=h' } ⟨I.ok,I.os,I.bare,⟨fun b o e n hb hx=>?_,fun b o e n hb hx=>?_,I.base.free,fun b o e hx=>?_,I.base.v7,I.base.uS,I.base.vv⟩,⟨m,hn.sameBut hs (Ne.symm (MJ x c hc)),fun j y v' e1 e2 e3=>?_⟩,fun y c' e=>?_,I.free,I.jr,fun p hp=>?_,tracked ⟨oc,hoc,I.jr x c hc⟩ hs,by simpa using I.len⟩ ⟨c,hs,.inr hc⟩
    · exact (hs.2 b (Nat.ne_of_lt (Nat.lt_of_lt_of_le (Heap.lt_size e) (I.ok.NH x c YB hc)))).trans (I.base.keep b o e n hb hx)
    · obtain⟨sl,e1⟩:=I.base.slot b o e n hb hx
      exact⟨sl,(hs.2 b (Nat.ne_of_lt (Nat.lt_of_lt_of_le (Heap.lt_size e) (I.ok.NH x c YB hc)))).trans e1⟩
    · obtain⟨o',e1⟩:=I.base.there b o e hx
      exact⟨o',(hs.2 b (Nat.ne_of_lt (Nat.lt_of_lt_of_le (Heap.lt_size e) (I.ok.NH x c YB hc)))).trans e1⟩
    · by_cases hj:j=i
      · subst hj
        rw[hi] at e1;cases e1
        rw[List.getElem?_set_self hiσ] at e2
        cases e2
        exact⟨u,r,.inr ⟨.inl hk,c,hc,hc'⟩⟩
      · rw[List.getElem?_set_ne (Ne.symm hj)] at e2
        obtain⟨u',r',q⟩:=hl j y v' e1 e2 e3
        refine⟨u',r',?_⟩
        rcases q with q | ⟨k,c',e,z'⟩
        · exact .inl q
        · refine .inr ⟨k,c',e,z'.sameBut hs ?_⟩
          rintro rfl
          exact hj (zJ hN e1 (I.ok.inj _ _ _ e hc ▸ hi))
    · by_cases hcc:c'=c
      · subst hcc;exact⟨_,hc'⟩
      · obtain⟨w2,z2⟩:=I.cell y c' e
        exact⟨w2,z2.sameBut hs hcc⟩
    · obtain⟨e,n,ne,nf,d⟩:=I.pin p hp
      refine⟨(hs.2 p.1 ?_).trans e,n,ne,nf,d⟩
      intro q
      rw[q,hoc] at e
      have q':oc=p.2:=Option.some.inj e
      exact d w' (by rw[← q'];exact hocd)
theorem qf{M:Model}{A:Around}{E:Value->Shared->Prop}{i:Nat}{x:Str}{v:V}{u:Value}{Q:Unit->Shared->Prop}(I:Inv X pins σ H s)(hN:X.N.Nodup)(hi:X.N[i]?=some x)(hx:Loc X.env.scope x)(r:RelV v u)
    (h:∀ s',Inv X pins (σ.set i (some v)) H s'->Q () s') (hf:X.fn x=true\/X.env.scope.names.lookup x=some .local:=by first | exact .inl rfl | exact .inr rfl | assumption):wpAny M A (storeName X.env x u) Q E s:=
  JF I hN hi hx r (fun s' I' _=>h s' I') hf
theorem Inv.call'{s':Shared}{ch:List Addr}(I:Inv X pins σ H s)(ho:s'.os=s.os)(u:Un (vK X.stack) ch H H' s.heap s'.heap)(cQ:so X.prog X.w H' s'.heap)(hg:AllBare s'.gens)
    (Kv:∀ b∈ch,(b∈X.ex\/X.s₀.heap.objs.size<=b)/\b≠X.env.locals/\(∀ x c,X.env.cells.lookup x=some c->c≠b)/\∀ p∈X.pn++pins,p.1≠b):Inv X pins σ H' s':=by
  obtain⟨h',g',d',t',o'⟩:=s'
  have e:o'=s.os:=ho
  subst e
  exact I.call (g':=g') (t':=t') (d':=d') u cQ hg Kv
end
abbrev XK:=Value->Option Addr->Hp->Prop
abbrev St:=List (Option V)
abbrev VK:=V->Hp->Prop
abbrev TE:=St->Hp->VK->Prop
abbrev TT:=St->Hp->(Bool->Hp->Prop)->Prop
abbrev TA:=St->Hp->(List V->Hp->Prop)->Prop
structure Ends where
  nx:St->Hp->Prop
  rt:VK
  bk:St->Hp->Prop:=fun _ _=>False
  ct:St->Hp->Prop:=fun _ _=>False
abbrev TS:=Ends->St->Hp->Prop
def EP(X:Cx)(pins:List (Addr×Obj))(σ:St)(Q:VK)(u:Value)(s':Shared):Prop:=∃ v H',Inv X pins σ H' s'/\RelV v u/\Q v H'
def TP(X:Cx)(pins:List (Addr×Obj))(σ:St)(Q:Bool->Hp->Prop)(b:Bool)(s':Shared):Prop:=∃ H',Inv X pins σ H' s'/\Q b H'
def AP(X:Cx)(pins:List (Addr×Obj))(σ:St)(Q:List V->Hp->Prop)(us:List Value)(s':Shared):Prop:=∃ vs H',Inv X pins σ H' s'/\bf vs us/\Q vs H'
def SP(X:Cx)(pins:List (Addr×Obj))(D:Ends)(f:Flow)(s':Shared):Prop:=
  match f with
  | .next=>∃ σ' H',Inv X pins σ' H' s'/\D.nx σ' H'
  | .brk=>∃ σ' H',Inv X pins σ' H' s'/\D.bk σ' H'
  | .cont=>∃ σ' H',Inv X pins σ' H' s'/\D.ct σ' H'
  | .ret u=>∃ v σ' H',Inv X pins σ' H' s'/\RelV v u/\D.rt v H'
def PE(X:Cx)(e:Expr)(t:TE):Prop:=
  ∀ (pins:List (Addr×Obj)) (s:Shared) (σ:St) (H:Hp) (Q:VK),Inv X pins σ H s->t σ H Q->wpAny (model X.prog X.w) X.A (eval e X.env) (EP X pins σ Q) X.xe s
def PT(X:Cx)(e:Expr)(t:TT):Prop:=
  ∀ (pins:List (Addr×Obj)) (s:Shared) (σ:St) (H:Hp) (Q:Bool->Hp->Prop),Inv X pins σ H s->t σ H Q->wpAny (model X.prog X.w) X.A (isTrue e X.env (eval e X.env)) (TP X pins σ Q) X.xe s
def PW(X:Cx)(e:Expr)(t:TT):Prop:=
  ∀ (whole:Sem Value) (pins:List (Addr×Obj)) (s:Shared) (σ:St) (H:Hp) (Q:Bool->Hp->Prop),Inv X pins σ H s->t σ H Q->wpAny (model X.prog X.w) X.A (isTrue e X.env whole) (TP X pins σ Q) X.xe s
theorem PW.pt{X:Cx}{e:Expr}{t:TT}(h:PW X e t):PT X e t:=h _
def PA(X:Cx)(es:List Expr)(t:TA):Prop:=
  ∀ (pos:Pos) (pins:List (Addr×Obj)) (s:Shared) (σ:St) (H:Hp) (Q:List V->Hp->Prop),Inv X pins σ H s->t σ H Q->wpAny (model X.prog X.w) X.A (spliced (backTo pos (starEach es X.env))) (AP X pins σ Q) X.xe s
def PS(X:Cx)(st:Stmt)(t:TS):Prop:=
  ∀ (pins:List (Addr×Obj)) (s:Shared) (σ:St) (H:Hp) (D:Ends),Inv X pins σ H s->t D σ H->wpAny (model X.prog X.w) X.A (exec st X.env) (SP X pins D) X.xe s
def ju(X:Cx)(st:List Stmt)(t:TS):Prop:=
  ∀ (pins:List (Addr×Obj)) (s:Shared) (σ:St) (H:Hp) (D:Ends),Inv X pins σ H s->t D σ H->wpAny (model X.prog X.w) X.A (execs st X.env) (SP X pins D) X.xe s
theorem eM{α:Type}{t:Sem α}{Q Q':α->Shared->Prop}{M:Model}{A:Around}{E:Value->Shared->Prop}{s:Shared}(h:wpAny M A t Q E s)(hQ:∀ a s,Q a s->Q' a s):wpAny M A t Q' E s:=wpAny_mono h hQ fun _ _ x=>x
end L2
namespace L2
open PySem PySem.Spec PyProof.Rows
section
variable {X:Cx}
def Qd(i:Nat):TE:=fun σ H Q=>∃ v,σ[i]?=some (some v)/\Q v H
def tC(v:V):TE:=fun _ H Q=>Q v H
theorem aW{i:Nat}{x:Str}{pos:Pos}(hN:X.N[i]?=some x)(hv:Hw X.env.scope x)(hd:(x==("__debug__":Str))=false:=by decide)(qF:(x==("__classdict__":Str))=false:=by decide):PE X (.Name x pos) (Qd i):=by
  intro pins s σ H Q I h
  obtain⟨v,e,h⟩:=h
  obtain⟨m,hn,hl⟩:=I.loc
  obtain⟨u,r,l⟩:=hl i x v hN e hv
  have fin:EP X pins σ Q u s:=⟨v,H,I,r,h⟩
  rcases l with ⟨hk,hm⟩ | ⟨hk,c,hc,se⟩
  · exact wpAny_Name (wpAny_loadName_local I.ok.kind hk hn hm fin) hd
  · rcases hk with hk | hk
    · exact wpAny_Name (wpAny_loadName_cell I.ok.kind hk hc se fin) hd
    · exact wpAny_Name (wpAny_loadName_free I.ok.kind hk hc se fin qF) hd
theorem mO{i j pos}:PE X (.Constant (.int i) j pos) (tC (.int i)):=fun _ _ _ H _ I h=>wpAny_Constant_int ⟨.int i,H,I.tok _,⟨_,rfl⟩,h⟩
theorem Jp{b j pos}:PE X (.Constant (.bool b) j pos) (tC (.bl b)):=fun _ _ _ H _ I h=>Constant_bool ⟨.bl b,H,I,rfl,h⟩
theorem LN{j pos}:PE X (.Constant .none j pos) (tC .non):=fun _ _ _ H _ I h=>Constant_none ⟨.non,H,I,rfl,h⟩
theorem fR{x j pos}:PE X (.Constant (.str x) j pos) (tC (.str x)):=fun _ _ _ H _ I h=>Calls.Constant_str ⟨.str x,H,I.tok _,⟨_,rfl⟩,h⟩
def Gl(X:Cx)(x:Str):Prop:=X.env.kindOf x=some .globalImplicit
theorem nM{E:Value->Shared->Prop}{pins:List (Addr×Obj)}{s:Shared}{σ:St}{H:Hp}{x:Str}{u:Value}{pos:Pos}{Q:Value->Shared->Prop}(I:Inv X pins σ H s)(hg:Gl X x)(hm:X.mg x=some u)(h:Q u s)
    (hd:(x==("__debug__":Str))=false:=by decide):wpAny (model X.prog X.w) X.A (eval (.Name x pos) X.env) Q E s:=
  Calls.Name_function_global I.ok.kind hg (Calls.loadGlobal_global (by rw[I.ok.glob];exact I.mod.glob.keeps I.bk) hm h) hd
theorem sA{E:Value->Shared->Prop}{pins:List (Addr×Obj)}{s:Shared}{σ:St}{H:Hp}{x:Str}{u:Value}{pos:Pos}{Q:Value->Shared->Prop}(I:Inv X pins σ H s)(hg:Gl X x)(hm:X.mg x=none)(hv:bootBuiltins x=some u)(h:Q u s)
    (hn:x≠"__name__":=by decide) (hd:(x==("__debug__":Str))=false:=by decide):wpAny (model X.prog X.w) X.A (eval (.Name x pos) X.env) Q E s:=by
  obtain⟨mb,h1,h2⟩:=I.mod.blt
  exact Calls.Name_function_global I.ok.kind hg (Calls.loadGlobal_builtin (by rw[I.ok.glob];exact I.mod.glob.keeps I.bk) hm (by rw[I.ok.blt];exact h1.keeps I.bk) ((h2 x hn).trans hv) h) hd
theorem jP{x:Str}{v:V}{u:Value}{pos:Pos}(hg:Gl X x)(hm:X.mg x=some u)(r:RelV v u)(hd:(x==("__debug__":Str))=false:=by decide):PE X (.Name x pos) (tC v):=
  fun _ _ _ H _ I h=>nM I hg hm ⟨v,H,I,r,h⟩ hd
theorem Ih{x:Str}{v:V}{u:Value}{pos:Pos}(hg:Gl X x)(hm:X.mg x=none)(hv:bootBuiltins x=some u)(r:RelV v u)(hn:x≠"__name__":=by decide)(hd:(x==("__debug__":Str))=false:=by decide):PE X (.Name x pos) (tC v):=
  fun _ _ _ H _ I h=>sA I hg hm hv ⟨v,H,I,r,h⟩ hn hd
variable {a b:Expr} {ta tb:TE} {pos:Pos}
def tB(t:TE):TT:=fun σ H Q=>t σ H fun x H1=>∃ c,x=.bl c/\Q c H1
theorem qa{e:Expr}{t:TE}(h:PE X e t)(he:∀ whole,isTrue e X.env whole=(do let v ← whole;standAt e.pos;holding [v] (truthy v)):=by intro _;rfl):PT X e (tB t):=by
  intro pins s σ H Q I hw
  refine isTrue_plain (eM (h pins s σ H _ I hw) fun v s1 ⟨x,H1,I1,r1,q1⟩=>?_) (he _)
  obtain⟨d,rfl,q⟩:=q1
  cases r1
  exact wpAny_truthy_bool ⟨H1,I1,q⟩
variable {tA W_:TT} {rest:List Expr}
def Zy(t u:TT):TT:=fun σ H Q=>t σ H fun c H1=>if c=true then u σ H1 Q else Q false H1
def tOr(t u:TT):TT:=fun σ H Q=>t σ H fun c H1=>if c=true then Q true H1 else u σ H1 Q
def Z_(t:TT):TT:=fun σ H Q=>t σ H fun c H1=>Q (!c) H1
theorem OE(ha:PT X a tA):PW X (.BoolOp .And [a] pos) tA:=by
  intro wh pins s σ H Q I h
  refine isTrue_and (eM (ha pins s σ H Q I h) fun c s1 e=>?_)
  cases c with
  | true=>exact isTrue_and_nil e
  | false=>exact e
theorem G9(ha:PT X a tA):PW X (.BoolOp .Or [a] pos) tA:=by
  intro wh pins s σ H Q I h
  refine isTrue_or (eM (ha pins s σ H Q I h) fun c s1 e=>?_)
  cases c with
  | false=>exact isTrue_or_nil e
  | true=>exact e
theorem Qe(ha:PT X a tA)(hb:PW X (.BoolOp .And (b::rest) pos) W_):PW X (.BoolOp .And (a::b::rest) pos) (Zy tA W_):=by
  intro wh pins s σ H Q I h
  refine isTrue_and (eM (ha pins s σ H _ I h) fun c s1 ⟨H1,I1,q1⟩=>?_)
  cases c with
  | true=>exact hb wh pins s1 σ H1 Q I1 q1
  | false=>exact⟨H1,I1,q1⟩
theorem BE(ha:PT X a tA)(hb:PW X (.BoolOp .Or (b::rest) pos) W_):PW X (.BoolOp .Or (a::b::rest) pos) (tOr tA W_):=by
  intro wh pins s σ H Q I h
  refine isTrue_or (eM (ha pins s σ H _ I h) fun c s1 ⟨H1,I1,q1⟩=>?_)
  cases c with
  | true=>exact⟨H1,I1,q1⟩
  | false=>exact hb wh pins s1 σ H1 Q I1 q1
theorem SQ(ha:PT X a tA):PT X (.UnaryOp .Not a pos) (Z_ tA):=by
  intro pins s σ H Q I h
  exact isTrue_not (ha pins s σ H (fun c H1=>Q (!c) H1) I h)
def U4(ta tb:TE):TE:=fun σ H Q=>ta σ H fun x H1=>∃ c,x=.bl c/\if c=true then tb σ H1 Q else Q (.bl false) H1
theorem KS{op}{t:TE}(h:PE X a t):PE X (.BoolOp op [a] pos) t:=fun pins s σ H Q I hw=>BoolOp_one (h pins s σ H Q I hw)
theorem KG(ha:PE X a ta)(hb:PE X (.BoolOp .And (b::rest) pos) tb):PE X (.BoolOp .And (a::b::rest) pos) (U4 ta tb):=by
  intro pins s σ H Q I h
  refine BoolOp_and (eM (ha pins s σ H _ I h) fun v s1 ⟨x,H1,I1,r1,q1⟩=>?_)
  obtain⟨c,rfl,q1⟩:=q1
  cases r1
  refine wpAny_truthy_bool ?_
  cases c with
  | true=>exact hb pins s1 σ H1 Q I1 q1
  | false=>exact⟨.bl false,H1,I1,rfl,q1⟩
def tIf(t:TT)(ta tb:TE):TE:=fun σ H Q=>t σ H fun c H1=>if c=true then ta σ H1 Q else tb σ H1 Q
theorem F3{c:Expr}(hc:PT X c tA)(ha:PE X a ta)(hb:PE X b tb):PE X (.IfExp c a b pos) (tIf tA ta tb):=by
  intro pins s σ H Q I h
  refine wpAny_IfExp (eM (hc pins s σ H _ I h) fun d s1 ⟨H1,I1,q1⟩=>?_)
  cases d with
  | true=>exact ha pins s1 σ H1 Q I1 q1
  | false=>exact hb pins s1 σ H1 Q I1 q1
end
end L2
namespace L2
open PySem PySem.Spec PyProof.Rows
def fW(K:PySem.W.Frag)(H:Hp)(a:Addr)(xs:List V):Prop:=
  Rd H a (.lst xs) ∨
    ∃ (o:Obj) (aS:Array Value) (n:Nat),K.lookup a=some o/\o.cls=.type "list"/\o.dict=none/\o.data=.seq aS n/\aS.size<=sizeLine/\bf xs aS.toList
def kn(K:PySem.W.Frag)(H:Hp)(a:Addr)(xs:List V):Prop:=
  Rd H a (.tup xs) ∨
    ∃ (o:Obj) (aS:Array Value) (n:Nat),K.lookup a=some o/\o.cls=.type "tuple"/\o.data=.seq aS n/\aS.size<=sizeLine/\bf xs aS.toList
def Zz:Value->Option V
  | .none=>some .non
  | .bool b=>some (.bl b)
  | .int i _=>some (.int i)
  | .str x _=>some (.str x)
  | .bytes b _=>some (.byt b)
  | .float b _=>some (.flt b)
  | .ref a=>some (.ref a)
  | .type n=>some (.ty n)
  | _=>none
theorem RelV.abs{x:V}{u:Value}(r:RelV x u):Zz u=some x:=by
  cases x with
  | non=>cases r;rfl
  | bl _=>cases r;rfl
  | int _=>obtain⟨t,rfl⟩:=r;rfl
  | str _=>obtain⟨t,rfl⟩:=r;rfl
  | byt _=>obtain⟨t,rfl⟩:=r;rfl
  | flt _=>obtain⟨t,rfl⟩:=r;rfl
  | ref _=>cases r;rfl
  | ty _=>cases r;rfl
theorem RelV.inj{x y:V}{u:Value}(r:RelV x u)(q:RelV y u):x=y:=Option.some.inj (r.abs.symm.trans q.abs)
theorem bf.inj:∀ {xs ys:List V} {us:List Value},bf xs us->bf ys us->xs=ys
  | _,_,_,.nil,.nil=>rfl
  | _,_,_,.cons r t,.cons r' t'=>by rw[r.inj r',bf.inj t t']
section
variable {X:Cx} {pins:List (Addr×Obj)} {σ:St} {H:Hp} {s:Shared} {a:Addr} {xs ys:List V}
theorem fW.of{K:PySem.W.Frag}(h:H a=some (.lst xs)):fW K H a xs:=.inl (.inl h)
theorem Inv.list(I:Inv X pins σ H s)(h:fW X.K H a xs):∃ aS:List Value,bf xs aS/\PlainL s.heap a aS.toArray/\xs.length<=sizeLine:=by
  rcases h with h | ⟨o,aS,n,hk,hc,hd,hs,hz,r⟩
  · obtain⟨z,aS,n,r,e⟩:=h.ok I.cQ
    exact⟨aS,r,⟨_,n,e,rfl,rfl,rfl⟩,z⟩
  · refine⟨aS.toList,r,⟨o,n,I.kIn a o hk,hc,hd,by simpa using hs⟩,?_⟩
    have e:=r.length
    simp only [Array.length_toList] at e
    omega
theorem Inv.tuple(I:Inv X pins σ H s)(h:kn X.K H a xs):∃ aS:List Value,bf xs aS/\IsTup s.heap a aS.toArray/\xs.length<=sizeLine:=by
  rcases h with h | ⟨o,aS,n,hk,hc,hs,hz,r⟩
  · obtain⟨z,aS,r,p⟩:=h.ok I.cQ
    exact⟨aS,r,p.tup,z⟩
  · refine⟨aS.toList,r,⟨o,I.kIn a o hk,hc,n,by simpa using hs⟩,?_⟩
    have e:=r.length
    simp only [Array.length_toList] at e
    omega
theorem Inv.list_inj(I:Inv X pins σ H s)(h:fW X.K H a xs)(h':fW X.K H a ys):xs=ys:=by
  obtain⟨aS,r,⟨o,n,e,_,_,d⟩,_⟩:=I.list h
  obtain⟨its',r',⟨o',n',e',_,_,d'⟩,_⟩:=I.list h'
  rw[e] at e';cases e'
  rw[d] at d'
  injection d' with d1 _
  have:aS=its':=by simpa using congrArg Array.toList d1
  subst this
  exact r.inj r'
theorem Inv.tuple_inj(I:Inv X pins σ H s)(h:kn X.K H a xs)(h':kn X.K H a ys):xs=ys:=by
  obtain⟨aS,r,⟨o,e,_,n,d⟩,_⟩:=I.tuple h
  obtain⟨its',r',⟨o',e',_,n',d'⟩,_⟩:=I.tuple h'
  rw[e] at e';cases e'
  rw[d] at d'
  injection d' with d1 _
  have:aS=its':=by simpa using congrArg Array.toList d1
  subst this
  exact r.inj r'
end
abbrev Cx.wish(X:Cx)(E:Value->Shared->Prop):Cx:={ X with xe:=E }
abbrev Cx.nox(X:Cx):Cx:=X.wish fun _ _=>False
theorem Cx.Ok.wish{X:Cx}(ok:X.Ok)(E:Value->Shared->Prop):(X.wish E).Ok:=
  ⟨ok.mod,ok.kind,ok.glob,ok.blt,ok.above,ok.inj,ok.has,ok.NH,ok.hd,ok.frames,ok.PZ,ok.TV,ok.bs,ok.IW,ok.Dy,ok.FZ,ok.pK,ok.Ig⟩
theorem Cx.Ok.unwish{X:Cx}{E:Value->Shared->Prop}(ok:(X.wish E).Ok):X.Ok:=
  ⟨ok.mod,ok.kind,ok.glob,ok.blt,ok.above,ok.inj,ok.has,ok.NH,ok.hd,ok.frames,ok.PZ,ok.TV,ok.bs,ok.IW,ok.Dy,ok.FZ,ok.pK,ok.Ig⟩
section
variable {X:Cx} {pins:List (Addr×Obj)} {σ:St} {H:Hp} {s:Shared} {E:Value->Shared->Prop}
theorem Inv.wish(I:Inv X pins σ H s)(E:Value->Shared->Prop):Inv (X.wish E) pins σ H s:=⟨I.ok.wish E,I.os,I.bare,I.base,I.loc,I.cell,I.free,I.jr,I.pin,I.cQ,I.len⟩
theorem Inv.unwish(I:Inv (X.wish E) pins σ H s):Inv X pins σ H s:=⟨I.ok.unwish,I.os,I.bare,I.base,I.loc,I.cell,I.free,I.jr,I.pin,I.cQ,I.len⟩
theorem SP.unwish{D:Ends}{f:Flow}{s':Shared}(h:SP (X.wish E) pins D f s'):SP X pins D f s':=by
  cases f with
  | next=>obtain⟨σ',H',I,q⟩:=h;exact⟨σ',H',I.unwish,q⟩
  | brk=>obtain⟨σ',H',I,q⟩:=h;exact⟨σ',H',I.unwish,q⟩
  | cont=>obtain⟨σ',H',I,q⟩:=h;exact⟨σ',H',I.unwish,q⟩
  | ret u=>obtain⟨v,σ',H',I,r,q⟩:=h;exact⟨v,σ',H',I.unwish,r,q⟩
theorem ju.nox{st:List Stmt}{t:TS}(h:ju X.nox st t):ju X st t:=fun pins s σ H D I hw=>
  wpAny_mono (h pins s σ H D (I.wish _) hw) (fun _ _ q=>q.unwish) fun _ _ z=>False.elim z
end
section
variable {X:Cx} {st:Stmt} {rest:List Stmt} {t u:TS} {e:Expr} {te:TE} {pos:Pos}
def Uv:TS:=fun D σ H=>D.nx σ H
def YW(t u:TS):TS:=fun D σ H=>t { D with nx:=u D } σ H
theorem ou:ju X [] Uv:=fun _ _ σ H _ I h=>wpAny_execs_nil ⟨σ,H,I,h⟩
theorem cF(h1:PS X st t)(h2:ju X rest u):ju X (st::rest) (YW t u):=by
  intro pins s σ H D I h
  refine wpAny_execs_cons (eM (h1 pins s σ H { D with nx:=u D } I h) fun f s1 q=>?_)
  cases f with
  | next=>
    obtain⟨σ',H',I',q⟩:=q
    exact h2 pins s1 σ' H' D I' q
  | ret v=>exact q
  | brk=>exact q
  | cont=>exact q
theorem cz(h1:PS X st t):ju X [st] t:=by
  intro pins s σ H D I h
  refine wpAny_execs_cons (eM (h1 pins s σ H D I h) fun f s1 q=>?_)
  cases f with
  | next=>exact wpAny_execs_nil q
  | ret v=>exact q
  | brk=>exact q
  | cont=>exact q
theorem Inv.quiet{pins:List (Addr×Obj)}{σ:St}{H:Hp}{s:Shared}(I:Inv X pins σ H s):interactive X.env=false:=by simp [interactive,I.ok.kind]
def Wn(te:TE):TS:=fun D σ H=>te σ H fun _ H1=>D.nx σ H1
theorem uH(he:PE X e te)(hs:swapsWith e none pos.line X.env=pure false:=by rfl):PS X (.Expr e pos) (Wn te):=by
  intro pins s σ H D I h
  exact wpAny_Expr_any (eM (he pins s σ H _ I h) fun v s1 ⟨x,H1,I1,r1,q1⟩=>⟨σ,H1,I1,q1⟩) I.quiet hs
def Zn(te:TE):TS:=fun D σ H=>te σ H D.rt
theorem lJ(he:PE X e te):PS X (.Return (some e) pos) (Zn te):=by
  intro pins s σ H D I h
  exact wpAny_Return_some (eM (he pins s σ H _ I h) fun v s1 ⟨x,H1,I1,r1,q1⟩=>⟨x,σ,H1,I1,r1,q1⟩)
def Z'(c:TT)(t u:TS):TS:=fun D σ H=>c σ H fun b H1=>if b=true then t D σ H1 else u D σ H1
theorem Ag{c:Expr}{a b:List Stmt}{tc:TT}(hc:PT X c tc)(ha:ju X a t)(hb:ju X b u):PS X (.If c a b pos) (Z' tc t u):=by
  intro pins s σ H D I h
  refine wpAny_If (eM (hc pins s σ H _ I h) fun d s1 ⟨H1,I1,q1⟩=>?_)
  cases d with
  | true=>exact ha pins s1 σ H1 D I1 q1
  | false=>exact hb pins s1 σ H1 D I1 q1
def QX:TS:=fun _ _ _=>False
theorem Ju{sts:List Stmt}:ju X sts QX:=fun _ _ _ _ _ _ h=>h.elim
end
abbrev TG:=V->St->Hp->(St->Hp->Prop)->Prop
abbrev Oo:=List V->St->Hp->(St->Hp->Prop)->Prop
def PG(X:Cx)(target:Expr)(t:TG):Prop:=
  ∀ (pins:List (Addr×Obj)) (s:Shared) (σ:St) (H:Hp) (v:V) (u:Value) (Q:St->Hp->Prop),Inv X pins σ H s->RelV v u->t v σ H Q ->
    wpAny (model X.prog X.w) X.A (assign target X.env u) (fun _ s'=>∃ σ' H',Inv X pins σ' H' s'/\Q σ' H') X.xe s
def sg(X:Cx)(ts:List Expr)(t:Oo):Prop:=
  ∀ (pins:List (Addr×Obj)) (s:Shared) (σ:St) (H:Hp) (vs:List V) (us:List Value) (Q:St->Hp->Prop),Inv X pins σ H s->bf vs us->t vs σ H Q ->
    wpAny (model X.prog X.w) X.A (assignInOrder ((assignEach ts X.env).map (·.2)) us) (fun _ s'=>∃ σ' H',Inv X pins σ' H' s'/\Q σ' H') X.xe s
section
variable {X:Cx} {pos:Pos}
def FG(i:Nat):TG:=fun v σ H Q=>Q (σ.set i (some v)) H
theorem gh{i:Nat}{x:Str}(hN:X.N.Nodup)(hi:X.N[i]?=some x)(hx:Loc X.env.scope x)(hf:X.fn x=true\/X.env.scope.names.lookup x=some .local:=by first | exact .inl rfl | exact .inr rfl | assumption):PG X (.Name x pos) (FG i):=by
  intro pins s σ H v u Q I r h
  exact wpAny_assign_Name (qf I hN hi hx r (fun s' I'=>⟨_,H,I',h⟩) hf)
def WR:Oo:=fun vs σ H Q=>vs=[]/\Q σ H
def PX(t:TG)(u:Oo):Oo:=fun vs σ H Q=>∃ v r,vs=v::r/\t v σ H fun σ' H'=>u r σ' H' Q
theorem NY:sg X [] WR:=by
  intro pins s σ H vs us Q I r h
  obtain⟨e,h⟩:=h
  subst e
  cases r
  exact assignInOrder_nil ⟨σ,H,I,h⟩
theorem K4{e:Expr}{es:List Expr}{t:TG}{u:Oo}(h1:PG X e t)(h2:sg X es u)
    (hs:(assignEach (e::es) X.env).map (·.2)=assign e X.env::(assignEach es X.env).map (·.2):=by rfl):sg X (e::es) (PX t u):=by
  intro pins s σ H vs us Q I r h
  obtain⟨v,vr,e1,h⟩:=h
  subst e1
  cases r with
  | cons r rr=>
    rw[hs]
    refine assignInOrder_cons (eM (h1 pins s σ H _ _ _ I r h) fun _ s1 ⟨σ1,H1,I1,q1⟩=>?_)
    exact h2 pins s1 σ1 H1 _ _ Q I1 rr q1
def Qb(K:PySem.W.Frag)(n:Nat)(t:Oo):TG:=fun v σ H Q=>∃ a xs,v=.ref a/\kn K H a xs/\xs.length=n/\t xs σ H Q
theorem Tf{es:List Expr}{k:Nat}{t:Oo}{n:Nat}(hc:X.calm=true)(h:sg X es t)
    (hn:(assignEach es X.env).length=n:=by rfl) (wX:(assignEach es X.env).findIdx? (·.1)=none:=by rfl):PG X (.Tuple es k pos) (Qb X.K n t):=by
  intro pins s σ H v u Q I r hw
  obtain⟨a,xs,e1,hq,hl,hw⟩:=hw
  subst e1
  cases r
  obtain⟨aS,rv,ht,hz⟩:=I.tuple hq
  refine assign_Tuple_tuple (I.ok.hd hc) ht (by simp [hn,← hl,rv.length]) wX fun h' hx=>?_
  have I1:Inv X pins σ H { s with heap:=h' }:=I.kept (t':=s.toks) fun b o e=>hx b o (Nat.ne_of_lt (Heap.lt_size e)) e
  exact h pins _ σ H xs _ Q I1 (by simpa using rv) hw
def P4(te:TE)(g:TG):TS:=fun D σ H=>te σ H fun x H1=>g x σ H1 D.nx
theorem SK{tg e:Expr}{te:TE}{g:TG}(he:PE X e te)(hg:PG X tg g)(hs:swapsWithSole [tg] e pos.line X.env=pure false:=by rfl)(hw:swappedStores [tg] e X.env=pure none:=by rfl)
    (h1:(assignEach [tg] X.env).map (·.2)=[assign tg X.env]:=by rfl):PS X (.Assign [tg] e pos) (P4 te g):=by
  intro pins s σ H D I h
  refine wpAny_Assign_stores (eM (he pins s σ H _ I h) fun v s1 ⟨x,H1,I1,r1,q1⟩=>?_) hs hw
  rw[h1]
  exact eM (hg pins s1 σ H1 x v _ I1 r1 q1) fun _ s2 q=>q
theorem nY{i:Nat}{x:Str}{e:Expr}{te:TE}{pos':Pos}(hN:X.N.Nodup)(hi:X.N[i]?=some x)(hx:Loc X.env.scope x)(he:PE X e te)(hs:swapsWith e (some (.Name x pos')) pos.line X.env=pure false:=by rfl)(hf:X.fn x=true\/X.env.scope.names.lookup x=some .local:=by first | exact .inl rfl | exact .inr rfl | assumption):
    PS X (.Assign [.Name x pos'] e pos) (P4 te (FG i)):=by
  intro pins s σ H D I h
  refine wpAny_Assign_Name (eM (he pins s σ H _ I h) fun v s1 ⟨y,H1,I1,r1,q1⟩=>?_) hs
  exact qf I1 hN hi hx r1 (fun s2 I2=>⟨_,H1,I2,q1⟩) hf
def YF(i j:Nat)(ta:TA):TS:=fun D σ H=>ta σ H fun vs H1=>∃ v w,vs=[v,w]/\D.nx ((σ.set i (some v)).set j (some w)) H1
theorem RJ{i j:Nat}{x y:Str}{a b:Expr}{ta:TA}{px py pt:Pos}{kt k2 pt2}(hc:X.calm=true)(hN:X.N.Nodup)(hi:X.N[i]?=some x)(hj:X.N[j]?=some y)(Yg:i≠j)
    (hx:X.env.scope.names.lookup x=some .local) (hy:X.env.scope.names.lookup y=some .local) (ha:PA X [a,b] ta)
    (hw:swappedStores [.Tuple [.Name x px,.Name y py] kt pt] (.Tuple [a,b] k2 pt2) X.env=pure (some [x,y]))
    (hs:swapsWithSole [.Tuple [.Name x px,.Name y py] kt pt] (.Tuple [a,b] k2 pt2) pos.line X.env=pure false:=by rfl) :
    PS X (.Assign [.Tuple [.Name x px,.Name y py] kt pt] (.Tuple [a,b] k2 pt2) pos) (YF i j ta):=by
  intro pins s σ H D I h
  rw[exec_Assign_arm]
  refine wpAny_bind (wpAny_standAt ?_)
  rw[hs]
  refine wpAny_bind (wpAny_pure ?_)
  rw[if_neg (by decide)]
  refine wpAny_bind (Tuple_ (eM (ha _ pins s σ H _ I h) fun us s1 ⟨vs,H1,I1,r1,q1⟩=>?_))
  obtain⟨v,w,e1,q1⟩:=q1
  subst e1
  obtain⟨u1,u2,rfl,rv,rw'⟩:∃ u1 u2,us=[u1,u2]/\RelV v u1/\RelV w u2:=by
    cases r1 with
    | cons p q=>
      cases q with
      | cons p' q'=>
        cases q'
        exact⟨_,_,rfl,p,p'⟩
  refine wpAny_newObj_type ?_ (by show 2<=sizeLine;decide)
  have I2:Inv X pins σ H1 { s1 with heap:=s1.heap.push { cls:=.type "tuple",data:=.seq [u1,u2].toArray } }:=I1.kept (t':=s1.toks) fun b o e=>Heap.get?_push_of_some _ e
  rw[hw]
  refine wpAny_bind (wpAny_pure ?_)
  show wpAny (model X.prog X.w) X.A (do rule "assign.swapped-stores";let items ← unpackItems (.ref s1.heap.objs.size) 2 none;assignInOrder [fun v=>bindName X.env y v,fun v=>bindName X.env x v] items.reverse;pure Flow.next) _ _ _
  refine wpAny_bind (wpAny_rule (wpAny_bind (unpackItems_tuple (items:=#[u1,u2]) (I.ok.hd hc) (IsTup.new s1.heap _) fun h' Fj=>?_)))
  have I3:=I2.kept (h':=h') (t':=s1.toks) fun b o e=>Fj b o (Nat.ne_of_lt (Heap.lt_size e)) e
  show wpAny _ _ (assignInOrder [fun v=>bindName X.env y v,fun v=>bindName X.env x v] [u2,u1] >>= fun _=>pure Flow.next) _ _ _
  refine wpAny_bind (assignInOrder_cons (wpAny_bindName (qf I3 hN hj (.inl hy) rw' (fun s2 I4=>?_) (.inr hy))))
  refine assignInOrder_cons (wpAny_bindName (qf I4 hN hi (.inl hx) rv (fun s3 I5=>assignInOrder_nil (wpAny_pure ?_)) (.inr hx)))
  rw[List.set_comm _ _ (Ne.symm Yg)] at I5
  exact⟨_,H1,I5,q1⟩
end
section
variable {X:Cx} {pos:Pos}
def QH(c:TT)(tb:TS):TS:=fun D σ H=>∃ W:Nat->St->Hp->Prop,(∃ m,W m σ H)/\∀ m σ H,W m σ H ->
  c σ H fun b H1=>if b=true then ∃ N:St->Hp->Prop,(∀ σ' H',N σ' H'->∃ m',m'<m/\W m' σ' H')/\tb { D with nx:=N,ct:=N,bk:=D.nx } σ H1 else D.nx σ H1
theorem Fx{c:Expr}{body:List Stmt}{tc:TT}{tb:TS}(hp:PassesOwn (model X.prog X.w) X.A X.env X.xe)(hc:PT X c tc)(hb:ju X body tb):PS X (.While c body [] pos) (QH tc tb):=by
  intro pins s σ H D I h
  obtain⟨W,⟨m0,w0⟩,turn⟩:=h
  refine wpAny_While (codeAny_whileLoop (fun n s'=>∃ σ' H',Inv X pins σ' H' s'/\W n σ' H') ?_ m0 ⟨σ,H,I,w0⟩)
  rintro n s1 ⟨σ1,H1,I1,w1⟩
  refine wpAny_passesOwn hp (eM (hc pins s1 σ1 H1 _ I1 (turn n σ1 H1 w1)) fun b s2 ⟨H2,I2,q2⟩=>?_)
  cases b with
  | true=>
    obtain⟨N,hN,q2⟩:=q2
    rw[if_pos rfl]
    refine wpAny_passesOwn hp (eM (hb pins s2 σ1 H2 _ I2 q2) fun f s3 q3=>?_)
    cases f with
    | next=>
      obtain⟨σ3,H3,I3,n3⟩:=q3
      obtain⟨m',hm,w3⟩:=hN σ3 H3 n3
      exact⟨m',hm,σ3,H3,I3,w3⟩
    | cont=>
      obtain⟨σ3,H3,I3,n3⟩:=q3
      obtain⟨m',hm,w3⟩:=hN σ3 H3 n3
      exact⟨m',hm,σ3,H3,I3,w3⟩
    | brk=>exact q3
    | ret v=>exact q3
  | false=>
    rw[if_neg Bool.false_ne_true]
    exact wpAny_execs_nil ⟨σ1,H2,I2,q2⟩
end
structure It where
  go:Nat->Hp->Prop
  Vx:Nat->Hp->V->Hp->Prop
  stop:Nat->Hp->Prop
def HG(X:Cx)(pins:List (Addr×Obj))(H:Hp)(b:Addr):Prop:=
  H b=none/\b≠X.env.locals/\b ∉ X.fs/\(b∈X.ex\/X.s₀.heap.objs.size<=b)/\(∀ x c,X.env.cells.lookup x=some c->c≠b)/\∀ p∈X.pn++pins,p.1≠b
theorem Inv.fpOk{X:Cx}{pins:List (Addr×Obj)}{σ:St}{H H':Hp}{s:Shared}{b:Addr}(I:Inv X pins σ H s)(hb:s.heap.objs.size<=b)(hn:H' b=none):HG X pins H' b:=by
  refine⟨hn,Nat.ne_of_gt (Nat.lt_of_lt_of_le I.lt hb),I.nofs hb,.inr (Nat.le_trans I.sz hb),fun x c e z=>?_,fun p hp z=>?_⟩
  · obtain⟨v,q⟩:=I.cell x c e
    exact absurd (Nat.lt_of_lt_of_le q.lt (by rw[z];exact hb)) (Nat.lt_irrefl _)
  · exact absurd (Nat.lt_of_lt_of_le (Heap.lt_size (I.pin p hp).1) (by rw[z];exact hb)) (Nat.lt_irrefl _)
structure Turn(P:Program)(w:World)(K:PySem.W.Frag)(tg:Expr)(J:It)(fp:List Addr)(it:Addr)(tn:Nat->Heap->Prop):Prop where
  mem:it∈fp
  obj:∀ i h,tn i h->∀ b∈fp,∃ o,h.get? b=some o/\∀ v,o.data≠.cell v
  keep:∀ i h h',tn i h->(∀ b∈fp,∀ o,h.get? b=some o->h'.get? b=some o)->tn i h'
  item:∀ (X:Cx),X.prog=P->X.w=w->X.K=K->X.calm=true->∀ (i:Nat) (pins:List (Addr×Obj)) (s:Shared) (σ:St) (H:Hp) (E:Value->Shared->Prop),Inv X pins σ H s->(∀ b∈fp,HG X pins H b)->tn i s.heap->J.go i H ->
    wpAny (model P w) X.A (pyNext (.ref it)) (fun r s1=>∃ u,r=some u /\
      wpAny (model P w) X.A (letOwnedTupleGo tg (.ref it) u) (fun _ s2=>∃ x H',Inv X pins σ H' s2/\RelV x u/\J.Vx i H x H'/\tn (i+1) s2.heap/\∀ b∈fp,H' b=none) E s1) E s
  done:∀ (X:Cx),X.prog=P->X.w=w->X.K=K->X.calm=true->∀ (i:Nat) (pins:List (Addr×Obj)) (s:Shared) (σ:St) (H:Hp) (E:Value->Shared->Prop),Inv X pins σ H s->(∀ b∈fp,HG X pins H b)->tn i s.heap->J.stop i H ->
    wpAny (model P w) X.A (pyNext (.ref it)) (fun r s1=>r=none/\Inv X pins σ H s1) E s
  self:∀ (A:Around) (i:Nat) (s:Shared) (Q:Value->Shared->Prop) (E:Value->Shared->Prop),tn i s.heap->Q (.ref it) s->wpAny (model P w) A (pyIter (.ref it)) Q E s
abbrev TI:=St->Hp->(It->Hp->Prop)->Prop
def PIE(X:Cx)(pins:List (Addr×Obj))(σ:St)(tg:Expr)(R:It->Hp->Prop)(YX:Value)(s2:Shared):Prop:=
  ∃ (it:Addr) (fp:List Addr) (tn:Nat->Heap->Prop) (J:It) (H':Hp),YX=.ref it/\Inv X pins σ H' s2/\Turn X.prog X.w X.K tg J fp it tn/\tn 0 s2.heap/\(∀ b∈fp,HG X pins H' b)/\R J H'
def PI(X:Cx)(tg iter:Expr)(wi:TI):Prop:=
  ∀ (pins:List (Addr×Obj)) (s:Shared) (σ:St) (H:Hp) (R:It->Hp->Prop),Inv X pins σ H s->wi σ H R ->
    wpAny (model X.prog X.w) X.A (eval iter X.env) (fun v s1=>wpAny (model X.prog X.w) X.A (pyIter v) (PIE X pins σ tg R) X.xe s1) X.xe s
theorem IZ{M:Model}{A:Around}{E:Value->Shared->Prop}{s:Shared}{tg:Expr}{it:Addr}{u:Value}{o:Obj}{n:String}{vs:Array Value}{Q:Unit->Shared->Prop}(ho:s.heap.get? it=some o)(hc:o.cls=.type n)(hd:o.data=.fields vs)
    (hn:["enumerate","zip","dict_itemiterator","dict_reverseitemiterator","odict_iterator","itertools.zip_longest","itertools.pairwise"].contains n=false) (hQ:Q () s):wpAny M A (letOwnedTupleGo tg (.ref it) u) Q E s:=by
  unfold letOwnedTupleGo
  cases tg <;> first
    | exact wpAny_pure hQ
    | (cases u <;> first
        | exact wpAny_pure hQ
        | (refine wpAny_bind (wpAny_load ho ?_)
           rw[hc,hd]
           show wpAny M A (if (["enumerate","zip","dict_itemiterator","dict_reverseitemiterator","odict_iterator","itertools.zip_longest","itertools.pairwise"].contains n&&vs[0]?==some (rawInt _))=true then _ else _) Q E s
           rw[if_neg (by intro h;rw[hn,Bool.false_and] at h;cases h)]
           exact wpAny_pure hQ))
def ZV(K:PySem.W.Frag)(a:Addr):It:=
  ⟨fun i H=>∃ xs x,fW K H a xs/\xs[i]?=some x,fun i H x H'=>H'=H/\∀ xs,fW K H a xs->xs[i]?=some x,fun i H=>∃ xs,fW K H a xs/\xs.length<=i⟩
def YV(K:PySem.W.Frag)(a:Addr):It:=
  ⟨fun i H=>∃ xs x,kn K H a xs/\xs[i]?=some x,fun i H x H'=>H'=H/\∀ xs,kn K H a xs->xs[i]?=some x,fun i H=>∃ xs,kn K H a xs/\xs.length<=i⟩
def Xa(lo:Int)(n:Nat):It:=⟨fun i _=>i<n,fun i H x H'=>H'=H/\x=.int (lo+i),fun i _=>n<=i⟩
theorem JP{P:Program}{w:World}{K:PySem.W.Frag}{tg:Expr}(a it:Addr):Turn P w K tg (ZV K a) [it] it (fun i h=>h.IsListIter it a i) where
  mem:=by simp
  obj:=fun i h st b hb=>by
    have e:b=it:=by simpa using hb
    subst e
    obtain⟨o,e,c,d⟩:=st
    exact⟨o,e,fun v z=>by rw[d] at z;cases z⟩
  keep:=fun i h h' st k=>st.at fun o e=>k it (by simp) o e
  item:=by
    intro X hP hw hK hc i pins s σ H E I hf st hg
    subst hP hw hK
    obtain⟨xs,x,hq,hx⟩:=hg
    obtain⟨aS,rv,p,hz⟩:=I.list hq
    obtain⟨u,hu,ru⟩:=rv.get hx
    obtain⟨f0,f1,f2,f3,f4,f5⟩:=hf it (by simp)
    refine wpAny_pyNext_list_item st p.isList (x:=u) (by simpa using hu) fun h' st' sb=>?_
    have I1:Inv X pins σ H { s with heap:=h' }:=I.turned (t':=s.toks) (fun b o hb e=>(sb.2 b hb).trans e) f0 f1 f3 f4 f5
    obtain⟨o,e,c,d⟩:=id st'
    exact⟨u,rfl,IZ (s:={ s with heap:=h' }) e c d (by decide) ⟨x,H,I1,ru,⟨rfl,fun ys hy=>by rw[I.list_inj hy hq];exact hx⟩,st',fun b hb=>(hf b hb).1⟩⟩
  done:=by
    intro X hP hw hK hc i pins s σ H E I hf st hg
    subst hP hw hK
    obtain⟨xs,hq,hx⟩:=hg
    obtain⟨aS,rv,p,hz⟩:=I.list hq
    obtain⟨f0,f1,f2,f3,f4,f5⟩:=hf it (by simp)
    have hl:=rv.length
    exact wpAny_pyNext_list_end (I.ok.hd hc) st p.isList (by simp;omega) fun h' eb=>⟨rfl,I.turned (t':=s.toks) (fun b o hb e=>eb b o hb e) f0 f1 f3 f4 f5⟩
  self:=fun _ _ _ _ _ st h=>wpAny_pyIter_listiter st h
theorem GV{P:Program}{w:World}{K:PySem.W.Frag}{tg:Expr}(a it:Addr):Turn P w K tg (YV K a) [it] it (fun i h=>h.IsTupleIter it a i) where
  mem:=by simp
  obj:=fun i h st b hb=>by
    have e:b=it:=by simpa using hb
    subst e
    obtain⟨o,e,c,d⟩:=st
    exact⟨o,e,fun v z=>by rw[d] at z;cases z⟩
  keep:=fun i h h' st k=>st.at fun o e=>k it (by simp) o e
  item:=by
    intro X hP hw hK hc i pins s σ H E I hf st hg
    subst hP hw hK
    obtain⟨xs,x,hq,hx⟩:=hg
    obtain⟨aS,rv,p,hz⟩:=I.tuple hq
    obtain⟨u,hu,ru⟩:=rv.get hx
    obtain⟨f0,f1,f2,f3,f4,f5⟩:=hf it (by simp)
    refine wpAny_pyNext_tuple_item st (show s.heap.IsTuple a aS.toArray from p) (x:=u) (by simpa using hu) fun h' st' sb=>?_
    have I1:Inv X pins σ H { s with heap:=h' }:=I.turned (t':=s.toks) (fun b o hb e=>(sb.2 b hb).trans e) f0 f1 f3 f4 f5
    obtain⟨o,e,c,d⟩:=id st'
    exact⟨u,rfl,IZ (s:={ s with heap:=h' }) e c d (by decide) ⟨x,H,I1,ru,⟨rfl,fun ys hy=>by rw[I.tuple_inj hy hq];exact hx⟩,st',fun b hb=>(hf b hb).1⟩⟩
  done:=by
    intro X hP hw hK hc i pins s σ H E I hf st hg
    subst hP hw hK
    obtain⟨xs,hq,hx⟩:=hg
    obtain⟨aS,rv,p,hz⟩:=I.tuple hq
    obtain⟨f0,f1,f2,f3,f4,f5⟩:=hf it (by simp)
    have hl:=rv.length
    exact wpAny_pyNext_tuple_end (I.ok.hd hc) st (show s.heap.IsTuple a aS.toArray from p) (by simp;omega) fun h' eb=>⟨rfl,I.turned (t':=s.toks) (fun b o hb e=>eb b o hb e) f0 f1 f3 f4 f5⟩
  self:=fun _ _ _ _ _ st h=>wpAny_pyIter_tupleiter st h
theorem G6{P:Program}{w:World}{K:PySem.W.Frag}{tg:Expr}(it:Addr)(lo:Int)(n:Nat):Turn P w K tg (Xa lo n) [it] it (fun i h=>IsRangeIter h it (lo+(i:Nat)*1) ((n:Int)-(i:Nat)) 1) where
  mem:=by simp
  obj:=fun i h st b hb=>by
    have e:b=it:=by simpa using hb
    subst e
    exact⟨_,st,fun v z=>by
      have z':Data.fields _=Data.cell v:=z
      cases z'⟩
  keep:=fun i h h' st k=>k it (by simp) _ st
  item:=by
    intro X hP hw hK hc i pins s σ H E I hf st hg
    subst hP hw hK
    obtain⟨f0,f1,f2,f3,f4,f5⟩:=hf it (by simp)
    have W:=Walks.range (prog:=X.prog) (w:=X.w) (I.ok.hd hc) it lo 1 n
    refine W.item i s _ _ hg st fun v h' tk hv st' kk=>?_
    obtain⟨t,rfl⟩:=hv
    have I1:Inv X pins σ H { s with heap:=h',toks:=tk }:=I.turned (fun b o hb e=>kk b o (by simpa using hb) e) f0 f1 f3 f4 f5
    refine⟨_,rfl,IZ (s:={ s with heap:=h',toks:=tk }) (n:="range_iterator") st' rfl rfl (by decide) ⟨.int (lo+i),H,I1,⟨t,?_⟩,⟨rfl,rfl⟩,st',fun b hb=>(hf b hb).1⟩⟩
    rw[Int.mul_one]
  done:=by
    intro X hP hw hK hc i pins s σ H E I hf st hg
    subst hP hw hK
    obtain⟨f0,f1,f2,f3,f4,f5⟩:=hf it (by simp)
    exact wpAny_pyNext_range_end (I.ok.hd hc) st (by have:n<=i:=hg;omega) fun h' eb=>⟨rfl,I.turned (t':=s.toks) (fun b o hb e=>eb b o hb e) f0 f1 f3 f4 f5⟩
  self:=fun _ _ _ _ _ st h=>wpAny_pyIter_rangeiter st h
end L2
namespace L2
open PySem PySem.Spec PyProof.Rows
section
variable {X:Cx} {tg:Expr}
theorem L'{pins:List (Addr×Obj)}{σ:St}{H:Hp}{s:Shared}{R:It->Hp->Prop}{E:Value->Shared->Prop}{lo hi:Int}{t u v:Tok}{tk:Nat}(I:Inv X pins σ H s)(h1:-(2 ^ 62)<=lo)(h2:lo<2 ^ 62)(h3:-(2 ^ 62)<=hi)(h4:hi<2 ^ 62)
    (q:R (Xa lo (hi-lo).toNat) H):wpAny (model X.prog X.w) X.A (pyIter (.ref s.heap.objs.size)) (PIE X pins σ tg R) E { s with heap:=s.heap.push { cls:=.type "range",data:=.fields #[.int lo t,.int hi u,.int 1 v] },toks:=tk }:=by
  refine wpAny_pyIter_range (IsRange.new ..) (small_one h1 h2 h3 h4) ?_
  have I1:Inv X pins σ H { s with heap:=s.heap.push { cls:=.type "range",data:=.fields #[.int lo t,.int hi u,.int 1 v] },toks:=tk }:=I.kept fun b o e=>Heap.get?_push_of_some _ e
  refine⟨(s.heap.push { cls:=.type "range",data:=.fields #[.int lo t,.int hi u,.int 1 v] }).objs.size,[(s.heap.push { cls:=.type "range",data:=.fields #[.int lo t,.int hi u,.int 1 v] }).objs.size],_,_,H,rfl,
    I1.kept (t':=tk) fun b o e=>Heap.get?_push_of_some _ e,G6 _ lo (hi-lo).toNat,?_,fun b hb=>?_,q⟩
  · have e1:lo+((0:Nat):Int)*1=lo:=by simp
    have e2:(((hi-lo).toNat:Nat):Int)-((0:Nat):Int)=Builtin.Range.rangeSize lo hi 1:=by rw[rangeSize_one];split <;> omega
    show IsRangeIter _ _ (lo+((0:Nat):Int)*1) ((((hi-lo).toNat:Nat):Int)-((0:Nat):Int)) 1
    rw[e1,e2]
    exact Heap.get?_push_size _ rfl
  · have e:b=(s.heap.push { cls:=.type "range",data:=.fields #[.int lo t,.int hi u,.int 1 v] }).objs.size:=by simpa using hb
    subst e
    exact I1.fpOk (Nat.le_refl _) (I1.cQ.fresh (Nat.le_refl _))
def UK(ta:TA):TI:=fun σ H R=>ta σ H fun vs H1=>∃ j:Int,vs=[.int j]/\-(2 ^ 62)<=j/\j<2 ^ 62/\R (Xa 0 j.toNat) H1
theorem J8{a:Expr}{ta:TA}{p pos:Pos}(hg:Gl X "range")(hm:X.mg "range"=none)(ha:PA X [a] ta)(hs:starEach [a] X.env=[(false,eval a X.env)]:=by rfl):PI X tg (.Call (.Name "range" p) [a] [] pos) (UK ta):=by
  intro pins s σ H R I h
  refine Call_ (sA I hg hm boot_range (PyProof.Rows.callWith_type1 (eM (ha pos pins s σ H _ I h) fun us s1 ⟨vs,H1,I1,r1,q1⟩=>?_) hs rfl))
  obtain⟨j,e,q1,q2,q⟩:=q1
  subst e
  cases r1 with
  | cons r rr=>
    cases rr
    obtain⟨t,rfl⟩:=r
    exact call_range_1 (L' I1 (by omega) (by omega) q1 q2 (by simpa using q))
def X3(wi:TI)(g:TG)(tb:TS):TS:=fun D σ H=>wi σ H fun J H1=>∃ W:Nat->Nat->St->Hp->Prop,(∃ m,W 0 m σ H1)/\∀ i m σ H,W i m σ H ->
  (J.stop i H/\D.nx σ H)\/(J.go i H/\∃ N:St->Hp->Prop,(∀ σ' H',N σ' H'->∃ m',m'<m/\W (i+1) m' σ' H')/\∀ x H',J.Vx i H x H'->g x σ H' fun σ2 H2=>tb { D with nx:=N,ct:=N,bk:=D.nx } σ2 H2)
def zM(fp:List Addr)(h:Heap):List (Addr×Obj):=fp.filterMap fun b=>(h.get? b).map fun o=>(b,o)
theorem om{fp:List Addr}{h:Heap}{b:Addr}{o:Obj}(hb:b∈fp)(e:h.get? b=some o):(b,o)∈zM fp h:=List.mem_filterMap.mpr ⟨b,hb,by rw[e];rfl⟩
theorem JI{fp:List Addr}{h:Heap}{p:Addr×Obj}(hp:p∈zM fp h):p.1∈fp/\h.get? p.1=some p.2:=by
  obtain⟨b,hb,e⟩:=List.mem_filterMap.mp hp
  cases q:h.get? b with
  | none=>rw[q] at e;cases e
  | some o=>
    rw[q] at e
    have e':(b,o)=p:=Option.some.inj e
    subst e'
    exact⟨hb,q⟩
theorem Inv.pinned{pins:List (Addr×Obj)}{σ:St}{H:Hp}{s:Shared}{fp:List Addr}(I:Inv X pins σ H s)(hf:∀ b∈fp,HG X pins H b)(ho:∀ b∈fp,∃ o,s.heap.get? b=some o/\∀ v,o.data≠.cell v):Inv X (pins++zM fp s.heap) σ H s:=
  I.pins_of fun p hp=>(List.mem_append.mp hp).elim (fun z=>I.pin p (List.mem_append_right _ z)) fun z=>by
    obtain⟨hb,e⟩:=JI z
    obtain⟨f0,f1,f2,_⟩:=hf p.1 hb
    obtain⟨o,e',d⟩:=ho p.1 hb
    rw[e] at e';cases e'
    exact⟨e,f0,f1,f2,d⟩
theorem Inv.unpinned{pins pl:List (Addr×Obj)}{σ:St}{H:Hp}{s:Shared}(I:Inv X (pins++pl) σ H s):Inv X pins σ H s:=I.pins_of fun p hp=>I.pin p (List.mem_append_right _ (List.mem_append_left _ hp))
theorem SA{iter:Expr}{body:List Stmt}{wi:TI}{g:TG}{tb:TS}{pos:Pos}(hp:PassesOwn (model X.prog X.w) X.A X.env X.xe)(hc:X.calm=true)(hi:PI X tg iter wi)(hg:PG X tg g)(hb:ju X body tb)
    (hs:∀ x,foldedSetIterable iter X.env x=pure x:=by intro _;rfl):PS X (.For tg iter body [] pos) (X3 wi g tb):=by
  intro pins s σ H D I h
  refine wpAny_For (eM (hi pins s σ H _ I h) fun v s1 h1=>eM h1 fun YX s2 h2=>?_) hs
  obtain⟨it,fp,tn,J,H2,e,I2,T,TU,f2,W,⟨m0,w0⟩,turn⟩:=h2
  subst e
  -- what stays true of the iterator's objects through the loop
  have Gw:∀ {H':Hp},(∀ b∈fp,H' b=none)->∀ b∈fp,HG X pins H' b:=fun hn b hb=>⟨hn b hb,(f2 b hb).2⟩
  refine codeAny_forLoop_any (fun n s'=>∃ i σ' H',Inv X pins σ' H' s'/\tn i s'.heap/\(∀ b∈fp,H' b=none)/\W i n σ' H') ?_ m0 ⟨0,σ,H2,I2,TU,fun b hb=>(f2 b hb).1,w0⟩
  rintro n s3 ⟨i,σ3,H3,I3,st3,fr3,w3⟩
  rcases turn i n σ3 H3 w3 with ⟨stop,qn⟩ | ⟨go,N,hN,step⟩
  · refine wpAny_passesOwn hp (eM (T.done X rfl rfl rfl hc i pins s3 σ3 H3 X.xe I3 (Gw fr3) st3 stop) fun r s4 ⟨hr,I4⟩=>?_)
    subst hr
    exact wpAny_execs_nil ⟨σ3,H3,I4,qn⟩
  · refine wpAny_passesOwn hp (eM (T.item X rfl rfl rfl hc i pins s3 σ3 H3 X.xe I3 (Gw fr3) st3 go) fun r s4 ⟨u,hr,h4⟩=>?_)
    subst hr
    refine wpAny_passesOwn hp (eM h4 fun _ s5 ⟨x,H5,I5,r5,y5,st5,fr5⟩=>?_)
    have YJ:=I5.pinned (Gw fr5) (T.obj _ _ st5)
    refine wpAny_passesOwn hp (eM (hg _ s5 σ3 H5 x u _ YJ r5 (step x H5 y5)) fun _ s6 ⟨σ6,H6,I6,q6⟩=>?_)
    refine wpAny_passesOwn hp (eM (hb _ s6 σ6 H6 _ I6 q6) fun f s7 q7=>?_)
    have again:∀ {σ7:St} {H7:Hp},Inv X (pins++zM fp s5.heap) σ7 H7 s7->N σ7 H7->∃ m,m<n/\∃ i σ' H',Inv X pins σ' H' s7/\tn i s7.heap/\(∀ b∈fp,H' b=none)/\W i m σ' H':=fun {σ7 H7} I7 n7=>by
      obtain⟨m',hm,w7⟩:=hN σ7 H7 n7
      refine⟨m',hm,i+1,σ7,H7,I7.unpinned,T.keep _ _ _ st5 fun b hb o e=>(I7.pin (b,o) (List.mem_append_right _ (List.mem_append_right _ (om hb e)))).1,fun b hb=>?_,w7⟩
      obtain⟨o,e,d⟩:=T.obj _ _ st5 b hb
      exact (I7.pin (b,o) (List.mem_append_right _ (List.mem_append_right _ (om hb e)))).2.1
    cases f with
    | next=>obtain⟨σ7,H7,I7,n7⟩:=q7;exact again I7 n7
    | cont=>obtain⟨σ7,H7,I7,n7⟩:=q7;exact again I7 n7
    | brk=>obtain⟨σ7,H7,I7,q7⟩:=q7;exact⟨σ7,H7,I7.unpinned,q7⟩
    | ret v=>obtain⟨x7,σ7,H7,I7,r7,q7⟩:=q7;exact⟨x7,σ7,H7,I7.unpinned,r7,q7⟩
end
end L2
namespace L2
open PySem PySem.Spec PyProof.Rows
abbrev R2:=V->V->Hp->VK->Prop
def gJ(X:Cx)(f:Value->Value->Sem Value)(r:R2):Prop:=
  ∀ (pins:List (Addr×Obj)) (s:Shared) (σ:St) (H:Hp) (x y:V) (v u:Value) (Q:VK),Inv X pins σ H s->RelV x v->RelV y u->r x y H Q ->
    wpAny (model X.prog X.w) X.A (f v u) (EP X pins σ Q) X.xe s
def Yb(X:Cx)(f:Value->Sem Value)(r:V->Hp->VK->Prop):Prop:=
  ∀ (pins:List (Addr×Obj)) (s:Shared) (σ:St) (H:Hp) (x:V) (v:Value) (Q:VK),Inv X pins σ H s->RelV x v->r x H Q ->
    wpAny (model X.prog X.w) X.A (f v) (EP X pins σ Q) X.xe s
def dW(X:Cx)(f:Value)(r:List V->Hp->VK->Prop):Prop:=
  ∀ (pins:List (Addr×Obj)) (s:Shared) (σ:St) (H:Hp) (xs:List V) (us:List Value) (Q:VK),Inv X pins σ H s->bf xs us->r xs H Q ->
    wpAny (model X.prog X.w) X.A (call f us) (EP X pins σ Q) X.xe s
def Yt(X:Cx)(r:V->Hp->(Bool->Hp->Prop)->Prop):Prop:=
  ∀ (pins:List (Addr×Obj)) (s:Shared) (σ:St) (H:Hp) (x:V) (v:Value) (Q:Bool->Hp->Prop),Inv X pins σ H s->RelV x v->r x H Q ->
    wpAny (model X.prog X.w) X.A (truthy v) (TP X pins σ Q) X.xe s
def VP(r:R2)(ta tb:TE):TE:=fun σ H Q=>ta σ H fun x H1=>tb σ H1 fun y H2=>r x y H2 Q
def tUn(r:V->Hp->VK->Prop)(ta:TE):TE:=fun σ H Q=>ta σ H fun x H1=>r x H1 Q
def rI(C:Int->Int->Prop)(g:Int->Int->V):R2:=fun x y H Q=>∃ i j,x=.int i/\y=.int j/\C i j/\Q (g i j) H
def PM(g:Int->Int->V):R2:=fun x y H Q=>∃ i j,x=.int i/\y=.int j/\Q (g i j) H
def rU(g:Int->V):V->Hp->VK->Prop:=fun x H Q=>∃ i,x=.int i/\Q (g i) H
section
variable {X:Cx} {a b c:Expr} {ta tb tc:TE} {pos:Pos}
theorem Rz(ha:PE X a ta)(hb:PE X b tb){pins:List (Addr×Obj)}{s:Shared}{σ:St}{H:Hp}{R:V->V->Hp->Prop}(I:Inv X pins σ H s)
    (h:ta σ H fun x H1=>tb σ H1 fun y H2=>R x y H2) {Q:Value->Shared->Prop} {f:Value->Value->Sem Value}
    (hf:∀ v u s2 x y H2,Inv X pins σ H2 s2->RelV x v->RelV y u->R x y H2->wpAny (model X.prog X.w) X.A (f v u) Q X.xe s2) :
    wpAny (model X.prog X.w) X.A (eval a X.env) (fun v s₁=>wpAny (model X.prog X.w) X.A (eval b X.env) (fun u s₂=>wpAny (model X.prog X.w) X.A (f v u) Q X.xe s₂) X.xe s₁) X.xe s:=by
  refine eM (ha pins s σ H _ I h) fun v s1 ⟨x,H1,I1,r1,q1⟩=>?_
  refine eM (hb pins s1 σ H1 _ I1 q1) fun u s2 ⟨y,H2,I2,r2,q2⟩=>?_
  exact hf v u s2 x y H2 I2 r1 r2 q2
theorem zQ{op:Operator}{r:R2}(ho:gJ X (binaryOp op) r)(ha:PE X a ta)(hb:PE X b tb):PE X (.BinOp a op b pos) (VP r ta tb):=by
  intro pins s σ H Q I h
  exact wpAny_BinOp (Rz ha hb I h fun v u s2 x y H2 I2 rx ry q=>ho pins s2 σ H2 x y v u Q I2 rx ry q)
theorem Pn{op:UnaryOp}{r:V->Hp->VK->Prop}(ho:Yb X (unaryOp op) r)(ha:PE X a ta):PE X (.UnaryOp op a pos) (tUn r ta):=by
  intro pins s σ H Q I h
  exact UnaryOp_ (eM (ha pins s σ H _ I h) fun v s1 ⟨x,H1,I1,r1,q1⟩=>ho pins s1 σ H1 x v Q I1 r1 q1)
theorem TZ{f:Value->Value->Sem Value}{C:Int->Int->Prop}{g:Int->Int->Int}
    (rule:∀ (i j:Int) (t u:Tok) (s:Shared) (Q:Value->Shared->Prop) (E:Value->Shared->Prop),C i j->Q (.int (g i j) s.toks) { s with toks:=s.toks+1 }->wpAny (model X.prog X.w) X.A (f (.int i t) (.int j u)) Q E s) :
    gJ X f (rI C fun i j=>.int (g i j)):=by
  intro pins s σ H x y v u Q I rx ry h
  obtain⟨i,j,rfl,rfl,hc,q⟩:=h
  obtain⟨t,rfl⟩:=rx
  obtain⟨t',rfl⟩:=ry
  exact rule i j t t' s _ _ hc ⟨.int (g i j),H,I.tok _,⟨_,rfl⟩,q⟩
theorem Vd{f:Value->Value->Sem Value}{g:Int->Int->Int}
    (rule:∀ (i j:Int) (t u:Tok) (s:Shared) (Q:Value->Shared->Prop) (E:Value->Shared->Prop),Q (.int (g i j) s.toks) { s with toks:=s.toks+1 }->wpAny (model X.prog X.w) X.A (f (.int i t) (.int j u)) Q E s) :
    gJ X f (PM fun i j=>.int (g i j)):=by
  intro pins s σ H x y v u Q I rx ry h
  obtain⟨i,j,rfl,rfl,q⟩:=h
  obtain⟨t,rfl⟩:=rx
  obtain⟨t',rfl⟩:=ry
  exact rule i j t t' s _ _ ⟨.int (g i j),H,I.tok _,⟨_,rfl⟩,q⟩
theorem NP{f:Value->Value->Sem Value}{g:Int->Int->Bool}
    (rule:∀ (i j:Int) (t u:Tok) (s:Shared) (Q:Value->Shared->Prop) (E:Value->Shared->Prop),Q (.bool (g i j)) s->wpAny (model X.prog X.w) X.A (f (.int i t) (.int j u)) Q E s) :
    gJ X f (PM fun i j=>.bl (g i j)):=by
  intro pins s σ H x y v u Q I rx ry h
  obtain⟨i,j,rfl,rfl,q⟩:=h
  obtain⟨t,rfl⟩:=rx
  obtain⟨t',rfl⟩:=ry
  exact rule i j t t' s _ _ ⟨.bl (g i j),H,I,rfl,q⟩
def X5(i j:Int):Prop:=0<j/\j<1073741824
def Yr(i j:Int):Prop:=0<=j/\j<=1000000/\i.natAbs<2 ^ 64
theorem Q9:gJ X (binaryOp .Add) (PM fun i j=>.int (i+j)):=Vd fun _ _ _ _ _ _ _ q=>add_int q
theorem Rm:gJ X (binaryOp .Sub) (PM fun i j=>.int (i-j)):=Vd fun _ _ _ _ _ _ _ q=>sub_int q
theorem Nr:gJ X (binaryOp .FloorDiv) (rI X5 fun i j=>.int (i / j)):=TZ fun i j _ _ _ _ _ hc q=>by
  have h1:(0:Int)<j:=hc.1
  have h2:j<1073741824:=hc.2
  exact floordiv_int (by omega) (by rw[Int.fdiv_eq_ediv_of_nonneg i (by omega)];exact q) (.inl (PyProof.noPylong_small (by omega)))
theorem SD:gJ X (binaryOp .Mod) (rI (fun _ j=>0<j) fun i j=>.int (i % j)):=TZ fun i j _ _ _ _ _ hc q=>by
  have h1:(0:Int)<j:=hc
  exact mod_int' (by omega) (by rw[Int.fmod_eq_emod_of_nonneg i (by omega)];exact q)
theorem O2:gJ X (binaryOp .Mod) (rI (fun _ j=>j≠0) fun i j=>.int (i.fmod j)):=TZ fun _ _ _ _ _ _ _ hc q=>mod_int' hc q
theorem TF:gJ X (binaryOp .Pow) (rI Yr fun i j=>.int (i ^ j.toNat)):=TZ fun _ _ _ _ _ _ _ hc q=>pow_int_small hc.1 hc.2.1 hc.2.2 q
theorem unI{f:Value->Sem Value}{g:Int->Int}
    (rule:∀ (i:Int) (t:Tok) (s:Shared) (Q:Value->Shared->Prop) (E:Value->Shared->Prop),Q (.int (g i) s.toks) { s with toks:=s.toks+1 }->wpAny (model X.prog X.w) X.A (f (.int i t)) Q E s) :
    Yb X f (rU fun i=>.int (g i)):=by
  intro pins s σ H x v Q I rx h
  obtain⟨i,rfl,q⟩:=h
  obtain⟨t,rfl⟩:=rx
  exact rule i t s _ _ ⟨.int (g i),H,I.tok _,⟨_,rfl⟩,q⟩
theorem LB:Yb X (unaryOp .USub) (rU fun i=>.int (-i)):=unI fun _ _ _ _ _ q=>neg_int q
end
def V1:V->V->Bool
  | .non,.non=>true | .non,.int _=>true | .int _,.non=>true | .non,.bl _=>true | .bl _,.non=>true | .non,.str _=>true | .str _,.non=>true
  | .int _,.int _=>true | .bl _,.bl _=>true | .str _,.str _=>true | .byt _,.byt _=>true
  | .int _,.str _=>true | .str _,.int _=>true | .bl _,.str _=>true | .str _,.bl _=>true
  | _,_=>false
def rEq:R2:=fun x y H Q=>V1 x y=true/\Q (.bl (decide (x=y))) H
def rNe:R2:=fun x y H Q=>V1 x y=true/\Q (.bl (!decide (x=y))) H
theorem Il{i j:Int}:decide (V.int i=V.int j)=(i==j):=by
  rw[Bool.eq_iff_iff]
  simp
theorem Lj{i j:Bool}:decide (V.bl i=V.bl j)=(i==j):=by
  rw[Bool.eq_iff_iff]
  simp
theorem Iy{i j:Str}:decide (V.str i=V.str j)=(i==j):=by
  rw[Bool.eq_iff_iff]
  simp
theorem Ip{i j:Array UInt8}:decide (V.byt i=V.byt j)=(i.toList==j.toList):=by
  rw[Bool.eq_iff_iff]
  cases i
  cases j
  simp
section
variable {X:Cx} {a b c:Expr} {ta tb tc:TE} {pos:Pos}
theorem bU{pins:List (Addr×Obj)}{σ:St}{H:Hp}{s:Shared}{Q:VK}{k k':Bool}(I:Inv X pins σ H s)(q:Q (.bl k) H)(e:k=k'):EP X pins σ Q (.bool k') s:=by
  subst e
  exact⟨.bl k,H,I,rfl,q⟩
theorem Lh:gJ X (compareOp .Eq) rEq:=by
  intro pins s σ H x y v u Q I rx ry h
  obtain⟨hs,q⟩:=h
  cases x with
  | non=>
    cases rx
    cases y with
    | non=>cases ry;exact PySem.EqNone.eq_none_none (bU I q (by simp))
    | bl j=>cases ry;exact PySem.EqNone.eq_none_bool (bU I q (by simp))
    | int j=>obtain⟨t',rfl⟩:=ry;exact PySem.EqNone.eq_none_int (bU I q (by simp))
    | str j=>obtain⟨t',rfl⟩:=ry;exact PySem.EqNone.eq_none_str (bU I q (by simp))
    | _=>exact absurd (show false=true from hs) Bool.false_ne_true
  | bl i=>
    cases rx
    cases y with
    | non=>cases ry;exact PySem.EqNone.eq_bool_none (bU I q (by simp))
    | bl j=>cases ry;exact eq_bool (bU I q Lj)
    | str j=>obtain⟨t',rfl⟩:=ry;exact PySem.EqMixed.eq_bool_str (bU I q (by simp))
    | _=>exact absurd (show false=true from hs) Bool.false_ne_true
  | int i=>
    obtain⟨t,rfl⟩:=rx
    cases y with
    | non=>cases ry;exact PySem.EqNone.eq_int_none (bU I q (by simp))
    | int j=>obtain⟨t',rfl⟩:=ry;exact eq_int (bU I q Il)
    | str j=>obtain⟨t',rfl⟩:=ry;exact PySem.EqMixed.eq_int_str (bU I q (by simp))
    | _=>exact absurd (show false=true from hs) Bool.false_ne_true
  | str i=>
    obtain⟨t,rfl⟩:=rx
    cases y with
    | non=>cases ry;exact PySem.EqNone.eq_str_none (bU I q (by simp))
    | bl j=>cases ry;exact PySem.EqMixed.eq_str_bool (bU I q (by simp))
    | int j=>obtain⟨t',rfl⟩:=ry;exact PySem.EqMixed.eq_str_int (bU I q (by simp))
    | str j=>obtain⟨t',rfl⟩:=ry;exact eq_str (bU I q Iy)
    | _=>exact absurd (show false=true from hs) Bool.false_ne_true
  | byt i=>
    obtain⟨t,rfl⟩:=rx
    cases y with
    | byt j=>obtain⟨t',rfl⟩:=ry;exact PySem.W.eq_bytes (bU I q Ip)
    | _=>exact absurd (show false=true from hs) Bool.false_ne_true
  | _=>cases y <;> exact absurd (show false=true from hs) Bool.false_ne_true
theorem Pk:gJ X (compareOp .NotEq) rNe:=by
  intro pins s σ H x y v u Q I rx ry h
  obtain⟨hs,q⟩:=h
  cases x with
  | non=>
    cases rx
    cases y with
    | non=>cases ry;exact PySem.EqNone.ne_none_none (bU I q (by simp))
    | bl j=>cases ry;exact PySem.EqNone.ne_none_bool (bU I q (by simp))
    | int j=>obtain⟨t',rfl⟩:=ry;exact PySem.EqNone.ne_none_int (bU I q (by simp))
    | str j=>obtain⟨t',rfl⟩:=ry;exact PySem.EqNone.ne_none_str (bU I q (by simp))
    | _=>exact absurd (show false=true from hs) Bool.false_ne_true
  | bl i=>
    cases rx
    cases y with
    | non=>cases ry;exact PySem.EqNone.ne_bool_none (bU I q (by simp))
    | bl j=>cases ry;exact ne_bool (bU I q (congrArg not Lj))
    | str j=>obtain⟨t',rfl⟩:=ry;exact PySem.EqMixed.ne_bool_str (bU I q (by simp))
    | _=>exact absurd (show false=true from hs) Bool.false_ne_true
  | int i=>
    obtain⟨t,rfl⟩:=rx
    cases y with
    | non=>cases ry;exact PySem.EqNone.ne_int_none (bU I q (by simp))
    | int j=>obtain⟨t',rfl⟩:=ry;exact ne_int (bU I q (congrArg not Il))
    | str j=>obtain⟨t',rfl⟩:=ry;exact PySem.EqMixed.ne_int_str (bU I q (by simp))
    | _=>exact absurd (show false=true from hs) Bool.false_ne_true
  | str i=>
    obtain⟨t,rfl⟩:=rx
    cases y with
    | non=>cases ry;exact PySem.EqNone.ne_str_none (bU I q (by simp))
    | bl j=>cases ry;exact PySem.EqMixed.ne_str_bool (bU I q (by simp))
    | int j=>obtain⟨t',rfl⟩:=ry;exact PySem.EqMixed.ne_str_int (bU I q (by simp))
    | str j=>obtain⟨t',rfl⟩:=ry;exact ne_str (bU I q (congrArg not Iy))
    | _=>exact absurd (show false=true from hs) Bool.false_ne_true
  | byt i=>
    obtain⟨t,rfl⟩:=rx
    cases y with
    | byt j=>obtain⟨t',rfl⟩:=ry;exact PySem.W.ne_bytes (bU I q (congrArg not Ip))
    | _=>exact absurd (show false=true from hs) Bool.false_ne_true
  | _=>cases y <;> exact absurd (show false=true from hs) Bool.false_ne_true
theorem Mq:gJ X (compareOp .Lt) (PM fun i j=>.bl (decide (i<j))):=NP fun _ _ _ _ _ _ _ q=>lt_int q
theorem UQ:gJ X (compareOp .LtE) (PM fun i j=>.bl (decide (i<=j))):=NP fun _ _ _ _ _ _ _ q=>le_int q
theorem WW:gJ X (compareOp .Gt) (PM fun i j=>.bl (decide (j<i))):=NP fun _ _ _ _ _ _ _ q=>gt_int q
theorem VO:gJ X (compareOp .GtE) (PM fun i j=>.bl (decide (j<=i))):=NP fun _ _ _ _ _ _ _ q=>ge_int q
theorem Qa:gJ X (compareOp .Is) (fun x y H Q=>y=.non/\Q (.bl (decide (x=.non))) H):=by
  intro pins s σ H x y v u Q I rx ry h
  obtain⟨rfl,q⟩:=h
  cases ry
  refine is_none_gen (bU I q ?_)
  cases x <;> first
    | (cases rx;rfl)
    | (obtain⟨t,rfl⟩:=rx;rfl)
theorem O5:gJ X (compareOp .IsNot) (fun x y H Q=>y=.non/\Q (.bl (!decide (x=.non))) H):=by
  intro pins s σ H x y v u Q I rx ry h
  obtain⟨rfl,q⟩:=h
  cases ry
  refine isnot_none_gen (bU I q ?_)
  cases x <;> first
    | (cases rx;rfl)
    | (obtain⟨t,rfl⟩:=rx;rfl)
theorem gJ.or{f:Value->Value->Sem Value}{r r':R2}(h:gJ X f r)(h':gJ X f r'):gJ X f (fun x y H Q=>r x y H Q\/r' x y H Q):=by
  intro pins s σ H x y v u Q I rx ry q
  rcases q with q | q
  · exact h pins s σ H x y v u Q I rx ry q
  · exact h' pins s σ H x y v u Q I rx ry q
theorem aL(b:Expr){op:CmpOp}(h:op≠.In:=by decide)(h2:op≠.NotIn:=by decide):behindInMarks op b=false:=by
  have e1:(op==CmpOp.In)=false:=by cases op <;> first | rfl | exact absurd rfl h
  have e2:(op==CmpOp.NotIn)=false:=by cases op <;> first | rfl | exact absurd rfl h2
  cases b <;> simp [behindInMarks,e1,e2]
theorem Ik{op:CmpOp}{r:R2}(ho:gJ X (compareOp op) r)(ha:PE X a ta)(hb:PE X b tb)(hm:behindInMarks op b=false):PE X (.Compare a [op] [b] pos) (VP r ta tb):=by
  intro pins s σ H Q I h
  exact wpAny_Compare1 (Rz ha hb I h fun v u s2 x y H2 I2 rx ry q=>ho pins s2 σ H2 x y v u Q I2 rx ry q) hm
def WK(t:TE):TT:=fun σ H Q=>t σ H fun x H'=>∃ k,x=.bl k/\Q k H'
theorem qG{op:CmpOp}{r:R2}(ho:gJ X (compareOp op) r)(ha:PE X a ta)(hb:PE X b tb)(hm:behindInMarks op b=false):PT X (.Compare a [op] [b] pos) (WK (VP r ta tb)):=by
  intro pins s σ H Q I h
  refine wpAny_isTrue_Compare1 (eM (ha pins s σ H _ I h) fun v s1 ⟨x,H1,I1,r1,q1⟩=>eM (hb pins s1 σ H1 _ I1 q1) fun u s2 ⟨y,H2,I2,r2,q2⟩=>
    eM (ho pins s2 σ H2 x y v u _ I2 r1 r2 q2) fun c s3 ⟨z,H3,I3,r3,k,e,q3⟩=>?_) hm
  subst e
  cases r3
  exact wpAny_truthy_bool ⟨H3,I3,q3⟩
def SI(K:PySem.W.Frag)(x:V)(H:Hp)(k:Bool):Prop:=
  match x with
  | .non=>k=false
  | .bl b=>k=b
  | .int i=>k=(i != 0)
  | .str y=>y.length<=sizeLine/\k=((y.length:Int) != 0)
  | .byt y=>y.size<=sizeLine/\k=((y.size:Int) != 0)
  | .ref p=>(∃ xs,fW K H p xs/\k=!xs.isEmpty)\/(∃ xs,kn K H p xs/\k=!xs.isEmpty)\/∃ kvs,H p=some (.dK kvs)/\k=!kvs.isEmpty
  | _=>False
theorem GD{κ:Type}{kvs:List (κ×V)}{vs:List (κ×Value)}(r:KV kvs vs):(!vs.isEmpty)=!kvs.isEmpty:=by
  cases r <;> rfl
theorem yz{xs:List V}{aS:List Value}(r:bf xs aS):(!aS.toArray.isEmpty)=!xs.isEmpty:=by
  cases r <;> simp
theorem vB:(sizeLine:Nat)<2 ^ 63:=by rw[sizeLine_eq];decide
theorem SN:Yt X (fun x H Q=>∃ k,SI X.K x H k/\Q k H):=by
  intro pins s σ H x v Q I rx h
  obtain⟨k,e,q⟩:=h
  have hl:=vB
  have hs:sizeLine=16777216:=sizeLine_eq
  cases x with
  | non=>
    cases rx
    have e':k=false:=e
    subst e'
    exact truthy_none ⟨H,I,q⟩
  | bl b=>
    cases rx
    have e':k=b:=e
    subst e'
    exact wpAny_truthy_bool ⟨H,I,q⟩
  | int i=>
    obtain⟨t,rfl⟩:=rx
    have e':k=(i != 0):=e
    subst e'
    exact PySem.P.truthy_int ⟨H,I,q⟩
  | str y=>
    obtain⟨t,rfl⟩:=rx
    obtain⟨hy,e'⟩:y.length<=sizeLine/\k=((y.length:Int) != 0):=e
    subst e'
    exact PySem.P.truthy_str (by omega) ⟨H,I.tok _,q⟩
  | byt y=>
    obtain⟨t,rfl⟩:=rx
    obtain⟨hy,e'⟩:y.size<=sizeLine/\k=((y.size:Int) != 0):=e
    subst e'
    exact PySem.W.truthy_bytes (by omega) ⟨H,I.tok _,q⟩
  | ref p=>
    cases rx
    have e':(∃ xs,fW X.K H p xs/\k=!xs.isEmpty)\/(∃ xs,kn X.K H p xs/\k=!xs.isEmpty)\/∃ kvs,H p=some (.dK kvs)/\k=!kvs.isEmpty:=e
    rcases e' with ⟨xs,hx,e'⟩ | ⟨xs,hx,e'⟩ | ⟨kvs,hx,e'⟩
    · subst e'
      obtain⟨aS,r,pl,hz⟩:=I.list hx
      have hlen:=r.length
      exact wpAny_truthy_list pl.isList (by simp only [List.size_toArray];omega) ⟨H,I.tok _,by rw[yz r];exact q⟩
    · subst e'
      obtain⟨aS,r,pl,hz⟩:=I.tuple hx
      have hlen:=r.length
      exact truthy_tuple pl (by simp only [List.size_toArray];omega) ⟨H,I.tok _,by rw[yz r];exact q⟩
    · subst e'
      obtain⟨hz,hS,vs,r,m⟩:kvs.length<=sizeLine/\(p==sysModules)=false/\∃ vs,KV kvs vs/\s.heap.DictOf (eD X.prog X.w) p vs:=I.cQ p _ hx
      have hlen:kvs.length=vs.length:=Paired.length r
      exact wpAny_truthy_dict hS m (by omega) ⟨H,I.tok _,by rw[GD r];exact q⟩
  | _=>exact (show False from e).elim
theorem L8(ha:PE X a ta)(he:∀ whole,isTrue a X.env whole=(do let v ← whole;standAt a.pos;holding [v] (truthy v))):
    PT X a (fun σ H Q=>ta σ H fun x H'=>∃ k,SI X.K x H' k/\Q k H'):=by
  intro pins s σ H Q I h
  exact isTrue_plain (eM (ha pins s σ H _ I h) fun v s1 ⟨x,H1,I1,r1,q1⟩=>SN pins s1 σ H1 x v Q I1 r1 q1) (he _)
theorem Hg:gJ X (binaryOp .Add) (fun x y H Q=>∃ i j,x=.str i/\y=.str j/\i.length+j.length<=sizeLine/\Q (.str (i++j)) H):=by
  intro pins s σ H x y v u Q I rx ry h
  obtain⟨i,j,rfl,rfl,hz,q⟩:=h
  obtain⟨t,rfl⟩:=rx
  obtain⟨t',rfl⟩:=ry
  exact add_str (fun t' tk=>⟨.str (i++j),H,I.tok _,⟨_,rfl⟩,q⟩) hz
theorem vals1{x:V}{us:List Value}(r:bf [x] us):∃ u,us=[u]/\RelV x u:=by
  cases r with
  | cons r1 r2=>cases r2;exact⟨_,rfl,r1⟩
theorem yO:dW X (.builtin "abs") (fun xs H Q=>∃ i,xs=[.int i]/\Q (.int (if i<0 then -i else i)) H):=by
  intro pins s σ H xs us Q I r h
  obtain⟨i,rfl,q⟩:=h
  obtain⟨u,rfl,t,rfl⟩:=vals1 r
  exact call_abs_int fun u tk=>⟨.int (if i<0 then -i else i),H,I.tok _,⟨_,rfl⟩,q⟩
theorem Jz:dW X (.type "int") (fun xs H Q=>(∃ i,xs=[.int i]/\Q (.int i) H)\/∃ k,xs=[.bl k]/\Q (.int (if k then 1 else 0)) H):=by
  intro pins s σ H xs us Q I r h
  rcases h with ⟨i,rfl,q⟩ | ⟨k,rfl,q⟩
  · obtain⟨u,rfl,t,rfl⟩:=vals1 r
    exact call_int_int ⟨.int i,H,I,⟨_,rfl⟩,q⟩
  · obtain⟨u,rfl,r1⟩:=vals1 r
    cases r1
    exact call_int_bool ⟨.int (if k then 1 else 0),H,I.tok _,⟨_,rfl⟩,q⟩
theorem DG:dW X (.type "str") (fun xs H Q=>∃ i,xs=[.int i]/\i.natAbs.log2<1920/\Q (.str (toString i)) H):=by
  intro pins s σ H xs us Q I r h
  obtain⟨i,rfl,hz,q⟩:=h
  obtain⟨u,rfl,t,rfl⟩:=vals1 r
  exact PySem.P.str_of_int hz ⟨.str _,H,I.tok _,⟨_,rfl⟩,q⟩
end
end L2
namespace L2
open PySem PySem.Spec PyProof.Rows
structure Hz(h:Heap)(x dx C:Addr)(mA:Str->Option Value):Prop where
  obj:h.get? x=some (PySem.W.instObj C dx)
  ns:h.Ns1 dx mA
  ne:dx≠x
theorem JE{h:Heap}{dx:Addr}{mA:Str->Option Value}(n:h.Ns1 dx mA):∃ od,h.get? dx=some od/\∀ name,PySem.W.lookIn name od=some (mA name):=by
  obtain⟨o,es,ep,ho,hd,hk,_,hm⟩:=n
  refine⟨o,ho,fun name=>?_⟩
  have e:=hm name
  unfold nsFind findBy at e
  rw[← Array.find?_toList] at e
  unfold PySem.W.lookIn
  rw[hd]
  dsimp only
  split
  · rename_i y q
    rw[q] at e
    exact congrArg some e
  · rename_i q
    rw[q] at e
    have a:es.toList.any (·.refKey)=false:=by
      rw[List.any_eq_false]
      intro y hy
      obtain⟨z,t,hkey⟩:=hk y (Array.mem_toList_iff.mp hy)
      simp [DictEntry.refKey,hkey]
    have a':¬ es.toList.any (·.refKey)=true:=by rw[a];exact Bool.false_ne_true
    rw[if_neg a']
    exact congrArg some e
theorem Hz.look{h:Heap}{x dx C:Addr}{mA:Str->Option Value}(I:Hz h x dx C mA):∃ od,PySem.W.InstAt h x (PySem.W.instObj C dx) C (some od)/\∀ name,PySem.W.lookIn name od=some (mA name):=
  let ⟨od,ho,hl⟩:=JE I.ns
  ⟨od,⟨I.obj,rfl,rfl,ho⟩,hl⟩
section
variable {prog:Program} {w:World} {A:Around} {E:Value->Shared->Prop} {s:Shared} {K:PySem.W.Frag} {x dx C f:Addr} {mA:Str->Option Value} {name:Str} {v:Value}
theorem get_map{expr:Bool}{Q:Value->Shared->Prop}(X:K.In s.heap)(I:Hz s.heap x dx C mA)(hg:PySem.W.plainGet K C name=true)(hh:PySem.W.hasDictIn K C=true)
    (ha:PySem.W.findIn K (.ref C) name=some none) (hv:mA name=some v) (hv':PySem.W.handedIn v=true) (h:Q v { s with toks:=s.toks+1 }) :
    wpAny (model prog w) A (getAttr (.ref x) name expr) Q E s:=by
  obtain⟨od,J,hl⟩:=I.look
  exact PySem.W.get_value X J (PySem.W.plainGet_of hg).1 (PySem.W.findObj_own hh ha rfl (by rw[hl,hv])) hv' h
theorem Ld{pl:Sem Bool}{Q:Value×List Value->Shared->Prop}(X:K.In s.heap)(I:Hz s.heap x dx C mA)(hg:PySem.W.plainGet K C name=true)
    (hf:PySem.W.findIn K (.ref C) name=some (some (.ref f))) (ht:PySem.W.isFn K (.ref f)=true) (hv:mA name=none) (h:Q (.ref f,[.ref x]) s) :
    wpAny (model prog w) A (getMethod (.ref x) name pl) Q E s:=by
  obtain⟨od,J,hl⟩:=I.look
  exact PySem.W.method_fn X J (PySem.W.plainGet_of hg).1 (PySem.W.plainGet_of hg).2 hf (beq_iff_eq.mp ht) (by show (PySem.W.lookIn name od).map (·.isSome)=some false;rw[hl,hv];rfl) h
theorem Nz{ns:List Str}{Q:Unit->Shared->Prop}(X:K.In s.heap)(I:Hz s.heap x dx C mA)
    (hs:PySem.W.findIn K (.ref C) "__setattr__"=some (some (.builtin "object.__setattr__"))) (hp:PySem.W.plainOver K C=true) (ht:PySem.W.takerIn K C name=some none) (hh:PySem.W.hasDictIn K C=true)
    (hw:PySem.Within mA ns) (Xq:ns.length<=sizeLine)
    (h:∀ h',Hz h' x dx C (fun y=>if y=name then some v else mA y)->Heap.SameBut dx s.heap h'->Q () { s with heap:=h',toks:=s.toks+2 }) :
    wpAny (model prog w) A (setAttr (.ref x) name v) Q E s:=by
  obtain⟨od,J,hl⟩:=I.look
  refine PySem.W.set_plain X J hs (PySem.W.osa_open (s:={ s with toks:=s.toks+1 }) (r:=none) X J hp ht fun b=>?_)
  obtain⟨cd,hc,hd'⟩:=PySem.W.any_some hh
  have hx:s.heap.get? x=some ⟨.ref C,some dx,.plain,#[]⟩:=I.obj
  refine wpAny_bind (wpAny_pure (wpAny_bind (wpAny_bind (wpAny_loadPart hx (wpAny_bind (PySem.W.Looks.here (s:={ s with toks:=s.toks+1 }) (PySem.W.looks_clsIn X hc) ?_))))))
  rw[hd']
  refine wpAny_pure (a:=some dx) (wpAny_bind (wpAny_pure (wpAny_bind ?_)))
  refine wpAny_nsSet1 (s:={ s with toks:=s.toks+1 }) I.ns fun h' XN hs2=>?_
  obtain⟨oD,esD,epD,hoD,hdD,hcD⟩:=XN.count (PySem.Within.cons name v hw)
  refine wpAny_bind (wpAny_lookBehind hoD (by rw[hdD];exact pastItsLine_dict (Nat.le_trans hcD (by rw[List.length_cons];omega))) ?_)
  exact wpAny_pure (h _ ⟨(hs2.2 _ (Ne.symm I.ne)).trans I.obj,XN,I.ne⟩ hs2)
theorem Md{R:Result->Shared->Prop}{vs:List Value}{kw:List (Str×Value)}(X:K.In s.heap)(hm:PySem.W.makesIn K C=true)
    (hi:PySem.W.findIn K (.ref C) "__init__"=some (some (.ref f))) (hf:PySem.W.typeIn K (.ref f)=some (.type "function"))
    (h:codeAny (model prog w) (A.under (.builtin "type.__call__" ⟨.ref C::vs,kw⟩)) (.call (.ref f) ⟨.ref (s.heap.objs.size+1)::vs,kw⟩) (PySem.W.InitBack (s.heap.objs.size+1) R)
      { s with heap:=(s.heap.push PySem.W.emptyDict).push (PySem.W.instObj C s.heap.objs.size) }) :
    codeAny (model prog w) A (.call (.ref C) ⟨vs,kw⟩) R s:=by
  obtain⟨hh,g,d,t,os⟩:=s
  exact PySem.W.make_core (PySem.W.makes_of X hm) (PySem.W.looks_findIn X hi) (fun self=>PySem.W.bind_fn X self hf) (.inl rfl) h
end
def jZ(f:Str)(v:V):List (Str×V)->List (Str×V)
  | []=>[(f,v)]
  | (g,x)::r=>if g=f then (g,v)::r else (g,x)::jZ f v r
theorem xb(f g:Str)(v:V):∀ fs:List (Str×V),(jZ f v fs).lookup g=if g=f then some v else fs.lookup g
  | []=>by
    show List.lookup g [(f,v)]=_
    by_cases h:g=f
    · have hb:(g==f)=true:=beq_iff_eq.mpr h
      simp only [List.lookup,hb,if_pos h]
    · have hb:(g==f)=false:=beq_eq_false_iff_ne.mpr h
      simp only [List.lookup,hb,if_neg h]
  | (k,x)::r=>by
    have ih:=xb f g v r
    rw[show jZ f v ((k,x)::r)=(if k=f then (k,v)::r else (k,x)::jZ f v r) from rfl]
    by_cases hk:k=f
    · rw[if_pos hk]
      by_cases h:g=k
      · have hb:(g==k)=true:=beq_iff_eq.mpr h
        simp only [List.lookup,hb,if_pos (h.trans hk)]
      · have hb:(g==k)=false:=beq_eq_false_iff_ne.mpr h
        simp only [List.lookup,hb,if_neg (fun e:g=f=>h (e.trans hk.symm))]
    · rw[if_neg hk]
      by_cases h:g=k
      · have hb:(g==k)=true:=beq_iff_eq.mpr h
        simp only [List.lookup,hb,if_neg (fun e:g=f=>hk (h.symm.trans e))]
      · have hb:(g==k)=false:=beq_eq_false_iff_ne.mpr h
        simp only [List.lookup,hb]
        exact ih
theorem vM(f:Str)(v:V):∀ fs:List (Str×V),f∈(jZ f v fs).map (·.1)/\∀ g,g∈fs.map (·.1)->g∈(jZ f v fs).map (·.1)
  | []=>⟨by simp [jZ],fun g h=>by simp at h⟩
  | (k,x)::r=>by
    obtain⟨i1,i2⟩:=vM f v r
    rw[show jZ f v ((k,x)::r)=(if k=f then (k,v)::r else (k,x)::jZ f v r) from rfl]
    by_cases hk:k=f
    · rw[if_pos hk]
      subst hk
      exact⟨by simp,fun g h=>by simpa using h⟩
    · rw[if_neg hk]
      refine⟨?_,fun g h=>?_⟩
      · rw[List.map_cons]
        exact List.mem_cons_of_mem _ i1
      · rw[List.map_cons] at h ⊢
        rcases List.mem_cons.mp h with e | e
        · exact List.mem_cons.mpr (.inl e)
        · exact List.mem_cons_of_mem _ (i2 g e)
theorem xg(f:Str)(v:V):∀ fs:List (Str×V),(jZ f v fs).length<=fs.length+1
  | []=>by simp [jZ]
  | (k,x)::r=>by
    have ih:=xg f v r
    rw[show jZ f v ((k,x)::r)=(if k=f then (k,v)::r else (k,x)::jZ f v r) from rfl]
    by_cases hk:k=f
    · rw[if_pos hk,List.length_cons,List.length_cons];omega
    · rw[if_neg hk,List.length_cons,List.length_cons];omega
theorem rD.some_of{v:V}{o:Option Value}(r:rD (some v) o):∃ u,o=some u/\RelV v u:=by
  cases o with
  | none=>exact (show False from r).elim
  | some u=>exact⟨u,rfl,r⟩
theorem rD.none_of{o:Option Value}(r:rD none o):o=none:=by
  cases o with
  | none=>rfl
  | some u=>exact (show False from r).elim
theorem Ka{v:V}{u:Value}(r:RelV v u):PySem.W.handedIn u=true:=by
  cases v with
  | non=>cases (show u=Value.none from r);rfl
  | bl b=>cases (show u=Value.bool b from r);rfl
  | int i=>obtain⟨t,e⟩:=(show ∃ t,u=Value.int i t from r);cases e;rfl
  | str x=>obtain⟨t,e⟩:=(show ∃ t,u=Value.str x t from r);cases e;rfl
  | byt b=>obtain⟨t,e⟩:=(show ∃ t,u=Value.bytes b t from r);cases e;rfl
  | flt b=>obtain⟨t,e⟩:=(show ∃ t,u=Value.float b t from r);cases e;rfl
  | ref a=>cases (show u=Value.ref a from r);rfl
  | ty n=>cases (show u=Value.type n from r);rfl
section
variable {P:Program} {w:World} {H H':Hp} {h h':Heap} {a C dx:Addr} {fs Hb:List (Str×V)}
theorem x_(cQ:so P w H h)(e:H a=some (.ins C dx fs)):∃ mA,Hz h a dx C mA/\(∀ f,rD (fs.lookup f) (mA f))/\PySem.Within mA (fs.map (·.1))/\fs.length<=1000/\H dx=some (.own a):=by
  obtain⟨d,z,ne,ob,mA,n,r,q⟩:=(show dz P w H h a (.ins C dx fs) from cQ a _ e)
  exact⟨mA,⟨ob,n,ne⟩,r,q,z,d⟩
end
structure Au(K:PySem.W.Frag)(C:Addr):Prop where
  pg:PySem.W.plainGet K C Str.empty=true
  hd:PySem.W.hasDictIn K C=true
  po:PySem.W.plainOver K C=true
  sa:PySem.W.findIn K (.ref C) "__setattr__"=some (some (.builtin "object.__setattr__"))
theorem Au.get{K:PySem.W.Frag}{C:Addr}(c:Au K C)(f:Str):PySem.W.plainGet K C f=true:=c.pg
def il(K:PySem.W.Frag)(C:Addr)(f:Str):Prop:=PySem.W.findIn K (.ref C) f=some none
theorem il.taker{K:PySem.W.Frag}{C:Addr}{f:Str}(n:il K C f):PySem.W.takerIn K C f=some none:=by
  unfold PySem.W.takerIn
  rw[show PySem.W.findIn K (.ref C) f=some none from n]
  rfl
structure n8(K:PySem.W.Frag)(C:Addr)(m:Str)(f:Addr):Prop where
  at_:PySem.W.findIn K (.ref C) m=some (some (.ref f))
  fn:PySem.W.isFn K (.ref f)=true
  kp:PySem.W.keepIn K (.ref f)=true
section
variable {X:Cx} {pins:List (Addr×Obj)} {σ:St} {H:Hp} {s:Shared} {a C dx:Addr} {fs:List (Str×V)} {f:Str} {v:V} {A:Around} {E:Value->Shared->Prop}
theorem yU{b:Bool}{Q:Value->Shared->Prop}(I:Inv X pins σ H s)(e:H a=some (.ins C dx fs))(c:Au X.K C)(n:il X.K C f)(l:fs.lookup f=some v)
    (h:∀ u s',Inv X pins σ H s'->RelV v u->Q u s'):wpAny (model X.prog X.w) A (getAttr (.ref a) f b) Q E s:=by
  obtain⟨mA,O,r,_,_,_⟩:=x_ I.cQ e
  obtain⟨u,hu,ru⟩:=rD.some_of (v:=v) (o:=mA f) (by rw[← l];exact r f)
  exact get_map I.kIn O (c.get f) c.hd n hu (Ka ru) (h u _ (I.tok _) ru)
theorem Ai{m:Str}{g:Addr}{pl:Sem Bool}{Q:Value×List Value->Shared->Prop}(I:Inv X pins σ H s)(e:H a=some (.ins C dx fs))(c:Au X.K C)(k:n8 X.K C m g)(l:fs.lookup m=none)
    (h:Q (.ref g,[.ref a]) s):wpAny (model X.prog X.w) A (getMethod (.ref a) m pl) Q E s:=by
  obtain⟨mA,O,r,_,_,_⟩:=x_ I.cQ e
  have hn:mA m=none:=rD.none_of (by rw[← l];exact r m)
  exact Ld I.kIn O (c.get m) k.at_ k.fn hn h
theorem zi{y:V}{u:Value}{Q:Unit->Shared->Prop}(I:Inv X pins σ H s)(e:H a=some (.ins C dx fs))(c:Au X.K C)(n:il X.K C f)(hl:fs.length<1000)(ry:RelV y u)
    (h:∀ s',Inv X pins σ (upd H a (.ins C dx (jZ f y fs))) s'->Q () s'):wpAny (model X.prog X.w) A (setAttr (.ref a) f u) Q E s:=by
  obtain⟨mA,O,r,wi,_,ho⟩:=x_ I.cQ e
  have hz:(fs.map (·.1)).length<=sizeLine:=by rw[List.length_map,sizeLine_eq];omega
  refine Nz I.kIn O c.sa c.po n.taker c.hd wi hz fun h' O' sb=>h _ ?_
  have hd:∃ o,h'.get? dx=some o:=let ⟨o,_,_,e',_⟩:=O'.ns;⟨o,e'⟩
  refine I.write (x:=a) (e:=dx) (by rw[e];exact True.intro) (.inr ho) (fun b q hb z=>(sb.2 b hb).trans z) hd ?_
  refine⟨by rw[aI O.ne];exact ho,?_,O.ne,O'.obj,_,O'.ns,fun g=>?_,fun g hg=>?_⟩
  · have:=xg f y fs;omega
  · show rD ((jZ f y fs).lookup g) (if g=f then some u else mA g)
    rw[xb]
    by_cases q:g=f
    · rw[if_pos q,if_pos q];exact ry
    · rw[if_neg q,if_neg q];exact r g
  · by_cases q:g=f
    · rw[q];exact (vM f y fs).1
    · refine (vM f y fs).2 g (wi g fun z=>hg ?_)
      show (if g=f then some u else mA g)=none
      rw[if_neg q];exact z
theorem Inv.made(I:Inv X pins σ H s):Inv X pins σ (upd (upd H s.heap.objs.size (.own (s.heap.objs.size+1))) (s.heap.objs.size+1) (.ins C s.heap.objs.size []))
    { s with heap:=(s.heap.push PySem.W.emptyDict).push (PySem.W.instObj C s.heap.objs.size) }:=by
  have e1:(s.heap.push PySem.W.emptyDict).get? s.heap.objs.size=some PySem.W.emptyDict:=Heap.get?_push_size s.heap rfl
  have e2:((s.heap.push PySem.W.emptyDict).push (PySem.W.instObj C s.heap.objs.size)).get? (s.heap.objs.size+1)=some (PySem.W.instObj C s.heap.objs.size):=by
    have:=Heap.get?_push_size (s.heap.push PySem.W.emptyDict) (o:=PySem.W.instObj C s.heap.objs.size) rfl
    rwa [Heap.size_push] at this
  have e3:(s.heap.push PySem.W.emptyDict).Ns s.heap.objs.size (fun _=>none):=⟨PySem.W.emptyDict,#[],_,e1,rfl,(fun e he=>absurd he (by simp)),fun _=>rfl⟩
  have I1:=I.laid (a:=s.heap.objs.size) (o:=.own (s.heap.objs.size+1)) (h':=s.heap.push PySem.W.emptyDict) (t':=s.toks) (fun b u q=>Heap.get?_push_of_some _ q) (Nat.le_refl _) ⟨_,e1⟩
  refine I1.laid (a:=s.heap.objs.size+1) (o:=.ins C s.heap.objs.size []) (t':=s.toks) (fun b u q=>Heap.get?_push_of_some _ q) (Nat.le_of_eq (Heap.size_push _ _)) ?_
  have ne:s.heap.objs.size≠s.heap.objs.size+1:=Nat.ne_of_lt (Nat.lt_succ_self _)
  refine⟨by rw[aI ne,aH],Nat.zero_le _,ne,e2,fun _=>none,(Heap.Ns1.of_empty e3).at fun o q=>Heap.get?_push_of_some _ q,fun _=>True.intro,fun y hy=>absurd rfl hy⟩
theorem Nn{prog:Program}{w:World}{env:Env}{e:Expr}{f:Str}{pos:Pos}{s:Shared}{Q:Value->Shared->Prop}(hb:attributeBase e f env (eval e env)=eval e env)
    (h:wpAny (model prog w) A (eval e env) (fun o s₁=>wpAny (model prog w) A (getAttr o f true) Q E s₁) E s):wpAny (model prog w) A (eval (.Attribute e f pos) env) Q E s:=
  Attribute_any_ h (by rw[arm_eval_Attribute,hb])
end
def ZR(K:PySem.W.Frag)(ta:TE)(f:Str):TE:=fun σ H Q=>ta σ H fun x H1=>∃ a C dx fs v,x=.ref a/\H1 a=some (.ins C dx fs)/\Au K C/\il K C f/\fs.lookup f=some v/\Q v H1
def ZH(K:PySem.W.Frag)(ta tv:TE)(f:Str):TS:=fun D σ H=>tv σ H fun y H1=>ta σ H1 fun x H2=>∃ a C dx fs,x=.ref a/\H2 a=some (.ins C dx fs)/\Au K C/\il K C f/\fs.length<1000 /\
  D.nx σ (upd H2 a (.ins C dx (jZ f y fs)))
def Ug(X:Cx)(op:Operator)(rd:V->V->Hp->VK->Prop):Prop:=
  ∀ (pins:List (Addr×Obj)) (s:Shared) (σ:St) (H:Hp) (x y:V) (u v:Value) (Q:VK),Inv X pins σ H s->RelV x u->RelV y v->rd x y H Q->wpAny (model X.prog X.w) X.A (inplaceOp op u v) (EP X pins σ Q) X.xe s
def Ol(K:PySem.W.Frag)(ta tv:TE)(rd:V->V->Hp->VK->Prop)(f:Str):TS:=fun D σ H=>ta σ H fun x H1=>∃ a C dx fs v,x=.ref a/\H1 a=some (.ins C dx fs)/\Au K C/\il K C f/\fs.lookup f=some v /\
  tv σ H1 fun y H2=>rd v y H2 fun z H3=>∃ dx' Hb,H3 a=some (.ins C dx' Hb)/\Hb.length<1000/\D.nx σ (upd H3 a (.ins C dx' (jZ f z Hb)))
section
variable {X:Cx} {o e value:Expr} {f:Str} {pos pos' JU:Pos} {ta tv:TE}
theorem KN(he:PE X e ta)(hb:attributeBase e f X.env (eval e X.env)=eval e X.env):PE X (.Attribute e f pos) (ZR X.K ta f):=by
  intro pins s σ H Q I h
  refine Nn hb (eM (he pins s σ H _ I h) fun u s1 ⟨x,H1,I1,rx,a,C,dx,fs,v,ex,ea,c,n,l,q⟩=>?_)
  subst ex
  obtain rfl:u=Value.ref a:=rx
  exact yU I1 ea c n l fun u' s2 I2 ru=>⟨v,H1,I2,ru,q⟩
theorem jK(ha:PE X o ta)(hv:PE X value tv)(hs:swapsWith value (some (.Attribute o f pos')) pos.line X.env=pure false):PS X (.Assign [.Attribute o f pos'] value pos) (ZH X.K ta tv f):=by
  intro pins s σ H D I h
  refine plainObj_wpAny_Assign_Attribute (eM (hv pins s σ H _ I h) fun u s1 ⟨y,H1,I1,ry,q⟩=>eM (ha pins s1 σ H1 _ I1 q) fun ov s2 ⟨x,H2,I2,rx,a,C,dx,fs,ex,ea,c,n,l,q2⟩=>?_) hs
  subst ex
  obtain rfl:ov=Value.ref a:=rx
  exact zi I2 ea c n l ry fun s3 I3=>⟨σ,_,I3,q2⟩
theorem Jw{op:Operator}{rd:V->V->Hp->VK->Prop}(ha:PE X o ta)(hv:PE X value tv)(hop:Ug X op rd):PS X (.AugAssign (.Attribute o f JU) op value pos) (Ol X.K ta tv rd f):=by
  intro pins s σ H D I h
  refine wpAny_AugAssign_AttributeAny (eM (ha pins s σ H _ I h) fun ov s1 ⟨x,H1,I1,rx,a,C,dx,fs,v,ex,ea,c,n,l,q⟩=>?_)
  subst ex
  obtain rfl:ov=Value.ref a:=rx
  refine yU I1 ea c n l fun u s2 I2 ru=>eM (hv pins s2 σ H1 _ I2 q) fun w3 s3 ⟨y,H2,I3,ry,q3⟩=>eM (hop pins s3 σ H2 v y u w3 _ I3 ru ry q3) fun w4 s4 ⟨z,H3,I4,rz,dx',Hb,ea',l',q4⟩=>?_
  exact zi I4 ea' c n l' rz fun s5 I5=>⟨σ,_,I5,q4⟩
def Zl:V->V->Hp->VK->Prop:=fun x y H Q=>∃ i j,x=.int i/\y=.int j/\Q (.int (i+j)) H
theorem Tu:Ug X .Add Zl:=by
  rintro pins s σ H x y u v Q I rx ry ⟨i,j,rfl,rfl,q⟩
  obtain⟨t,rfl⟩:=(show ∃ t,u=Value.int i t from rx)
  obtain⟨t',rfl⟩:=(show ∃ t',v=Value.int j t' from ry)
  exact PyProof.Rows.iadd_int ⟨.int (i+j),H,I.tok _,⟨_,rfl⟩,q⟩
end
section
variable {X:Cx} {pins:List (Addr×Obj)} {σ:St} {H:Hp} {s:Shared} {A:Around} {E:Value->Shared->Prop} {Q:Value->Shared->Prop} {c:Value} {b:Bool}
inductive wo(K:PySem.W.Frag)(H:Hp):V->Value->Prop where
  | non:wo K H .non (.type "NoneType")
  | bl (x:Bool):wo K H (.bl x) (.type "bool")
  | int (i:Int):wo K H (.int i) (.type "int")
  | str (x:Str):wo K H (.str x) (.type "str")
  | flt (x:UInt64):wo K H (.flt x) (.type "float")
  | lst {a:Addr} {xs:List V} (e:H a=some (.lst xs)):wo K H (.ref a) (.type "list")
  | frz {a:Addr} {o:Obj} {xs:List V} (e:H a=some (.frz o (.lst xs))):wo K H (.ref a) (.type "list")
  | tup {a:Addr} {xs:List V} (e:H a=some (.tup xs)):wo K H (.ref a) (.type "tuple")
  | dK {a:Addr} {kvs:List (Key×V)} (e:H a=some (.dK kvs)):wo K H (.ref a) (.type "dict")
  | dT {a:Addr} {kvs:List (List Key×V)} (e:H a=some (.dT kvs)):wo K H (.ref a) (.type "dict")
  | ins {a C dx:Addr} {fs:List (Str×V)} (e:H a=some (.ins C dx fs)) (cl:Au K C) (ha:PySem.W.findIn K (.ref C) "__class__"=some (some (.builtin "object.__class__")))
      (hn:PySem.W.specialIn K (.builtin "object.__class__") "__get__"=some (some (.builtin "getset_descriptor.__get__"))) (htk:PySem.W.takesIn K (.builtin "object.__class__")=some true)
      (hm:PySem.W.mroIn K C (.type "object")=some true):wo K H (.ref a) (.ref C)
theorem jH{x:V}{u t:Value}(I:Inv X pins σ H s)(rx:RelV x u)(ty:wo X.K H x t)(e:PySem.W.kitOne X.K t c=some b)(h:∀ tk,Q (.bool b) { s with toks:=tk }):
    wpAny (model X.prog X.w) A (call (.builtin "isinstance") [u,c]) Q E s:=by
  cases ty with
  | non=>cases (show u=Value.none from rx);exact PySem.W.kia_one PySem.W.kitx_none I.kIn True.intro e (fun z=>nomatch z) h
  | bl y=>cases (show u=Value.bool y from rx);exact PySem.W.kia_one PySem.W.kitx_bool I.kIn True.intro e (fun z=>nomatch z) h
  | int i=>obtain⟨t,q⟩:=(show ∃ t,u=Value.int i t from rx);cases q;exact PySem.W.kia_one PySem.W.kitx_int I.kIn True.intro e (fun z=>nomatch z) h
  | str y=>obtain⟨t,q⟩:=(show ∃ t,u=Value.str y t from rx);cases q;exact PySem.W.kia_one PySem.W.kitx_str I.kIn True.intro e (fun z=>nomatch z) h
  | flt y=>obtain⟨t,q⟩:=(show ∃ t,u=Value.float y t from rx);cases q;exact PySem.W.kia_one PySem.W.kitx_float I.kIn True.intro e (fun z=>nomatch z) h
  | @lst a xs ea=>
    cases (show u=Value.ref a from rx)
    obtain⟨_,_,n,_,h1⟩:=(show dz X.prog X.w H s.heap a (.lst xs) from I.cQ a _ ea)
    exact PySem.W.kia_one PySem.W.kitx_list I.kIn ⟨_,h1,rfl⟩ e (fun z=>nomatch z) h
  | @frz a ob xs ea=>
    cases (show u=Value.ref a from rx)
    obtain⟨_,_,_,n,_,h1⟩:=(show dz X.prog X.w H s.heap a (.frz ob (.lst xs)) from I.cQ a _ ea)
    exact PySem.W.kia_one PySem.W.kitx_list I.kIn ⟨_,h1,rfl⟩ e (fun z=>nomatch z) h
  | @tup a xs ea=>
    cases (show u=Value.ref a from rx)
    obtain⟨_,_,_,p⟩:=(show dz X.prog X.w H s.heap a (.tup xs) from I.cQ a _ ea)
    obtain⟨o,h1,h2,_⟩:=p
    exact PySem.W.kia_one PySem.W.kitx_tuple I.kIn ⟨o,h1,h2.1⟩ e (fun z=>nomatch z) h
  | @dK a kvs ea=>
    cases (show u=Value.ref a from rx)
    obtain⟨_,_,vs,_,p⟩:=(show dz X.prog X.w H s.heap a (.dK kvs) from I.cQ a _ ea)
    obtain⟨o,es,ep,h1,h2,_⟩:=p
    exact PySem.W.kia_one PySem.W.kitx_dict I.kIn ⟨o,h1,h2.1⟩ e (fun z=>nomatch z) h
  | @dT a kvs ea=>
    cases (show u=Value.ref a from rx)
    obtain⟨_,_,xs,_,o,es,ep,h1,h2,_⟩:=(show dz X.prog X.w H s.heap a (.dT kvs) from I.cQ a _ ea)
    exact PySem.W.kia_one PySem.W.kitx_dict I.kIn ⟨o,h1,h2.1⟩ e (fun z=>nomatch z) h
  | @ins a C dx fs ea cl ha hn htk hm=>
    cases (show u=Value.ref a from rx)
    obtain⟨mA,O,_⟩:=x_ I.cQ ea
    obtain⟨od,J,_⟩:=O.look
    exact PySem.W.kia_one (PySem.W.kitx_own (cl.get _) cl.hd ha hn htk hm) I.kIn J e (fun z=>nomatch z) h
end
end L2
namespace L2
open PySem PySem.Spec PyProof.Rows
structure eZ(k:Nat)(A:Around):Prop where
  hd:A.handled=none
  dp:A.depth+3*k+5<recursionLimit
  un:A.units+16*k+200<cLine
  gd:A.guards=some []
theorem eZ.mono{j k:Nat}{A:Around}(r:eZ k A)(h:j<=k):eZ j A:=⟨r.hd,by have:=r.dp;omega,by have:=r.un;omega,r.gd⟩
theorem eZ.deeper{k:Nat}{A:Around}(r:eZ (k+1) A)(env:Env):eZ k (A.deeper env):=
  ⟨r.hd,by have:=r.dp;show A.depth+1+3*k+5<_;omega,by have:=r.un;show A.units+3+16*k+200<_;omega,r.gd⟩
theorem HA{A:Around}{C:Addr}{us:List Value}{kw:List (Str×Value)}:(A.under (.builtin "type.__call__" ⟨.ref C::us,kw⟩)).depth=A.depth+1:=by
  first | rfl | simp [Around.under,Code.weight,Code.isCreation,Code.isGuard,Code.isCaller,Code.frames,Code.isFrame,guardIds]
theorem G7{A:Around}{C:Addr}{us:List Value}{kw:List (Str×Value)}:(A.under (.builtin "type.__call__" ⟨.ref C::us,kw⟩)).units=A.units+1:=by
  first | rfl | simp [Around.under,Code.cUnits,Code.frames,Code.isFrame]
theorem eZ.make{k:Nat}{A:Around}(r:eZ (k+1) A)(C:Addr)(us:List Value)(kw:List (Str×Value)):eZ k (A.under (.builtin "type.__call__" ⟨.ref C::us,kw⟩)):=
  ⟨r.hd,by have:=r.dp;rw[HA];omega,by have:=r.un;rw[G7];omega,by simpa [Around.under,Code.guards,Code.isGuard,guardIds,pushGuards] using r.gd⟩
theorem eZ.depth{k:Nat}{A:Around}(r:eZ k A):A.depth<recursionLimit:=by have:=r.dp;omega
theorem eZ.units{k:Nat}{A:Around}(r:eZ k A):A.units+64<cLine:=by have:=r.un;omega
def OS:TA:=fun _ H Q=>Q [] H
def MF(ta:TE)(tr:TA):TA:=fun σ H Q=>ta σ H fun x H1=>tr σ H1 fun xs H2=>Q (x::xs) H2
section
variable {X:Cx} {e:Expr} {es:List Expr} {te:TE} {t:TA} {pos:Pos}
theorem cD:PA X [] OS:=fun _ _ _ _ H Q I h=>Calls.spliced_nil ⟨[],H,I,.nil,h⟩
theorem aV(ha:PE X e te)(hr:PA X es t)(hs:starEach (e::es) X.env=(false,eval e X.env)::starEach es X.env:=by rfl):PA X (e::es) (MF te t):=by
  intro pos pins s σ H Q I h
  rw[hs]
  show wpAny _ _ (spliced ((false,eval e X.env)::backTo pos (starEach es X.env))) _ _ s
  refine Calls.spliced_cons (eM (ha pins s σ H _ I h) fun u s1 ⟨x,H1,I1,r1,q1⟩=>?_)
  exact eM (hr pos pins s1 σ H1 _ I1 q1) fun us s2 ⟨xs,H2,I2,r2,q2⟩=>⟨x::xs,H2,I2,.cons r1 r2,q2⟩
def X'(t:TA):TE:=fun σ H Q=>t σ H fun xs H1=>xs.length<=sizeLine/\∀ p,H1 p=none->Q (.ref p) (upd H1 p (.tup xs))
def X9(t:TA):TE:=fun σ H Q=>t σ H fun xs H1=>xs.length<=sizeLine/\∀ p,H1 p=none->Q (.ref p) (upd H1 p (.lst xs))
theorem G1{x1}(h:PA X es t):PE X (.Tuple es x1 pos) (X' t):=by
  intro pins s σ H Q I hq
  refine wpAny_Tuple_spliced (eM (h pos pins s σ H _ I hq) fun us s1 ⟨xs,H1,I1,r,z,q⟩=>⟨by rw[← r.length];exact z,?_⟩)
  have hf:H1 s1.heap.objs.size=none:=I1.cQ.fresh (Nat.le_refl _)
  refine⟨.ref s1.heap.objs.size,upd H1 s1.heap.objs.size (.tup xs),I1.laid (t':=s1.toks) (fun b u e=>Heap.get?_push_of_some _ e) (Nat.le_refl _) ?_,rfl,q _ hf⟩
  exact⟨z,us,r,lq.new _ _⟩
theorem MH(h:PA X es t):PE X (.List es pos) (X9 t):=by
  intro pins s σ H Q I hq
  refine wpAny_List_spliced (eM (h pos pins s σ H _ I hq) fun us s1 ⟨xs,H1,I1,r,z,q⟩=>⟨by rw[← r.length];exact z,?_⟩)
  have hf:H1 s1.heap.objs.size=none:=I1.cQ.fresh (Nat.le_refl _)
  refine⟨.ref s1.heap.objs.size,upd H1 s1.heap.objs.size (.lst xs),I1.laid (t':=s1.toks) (fun b u e=>Heap.get?_push_of_some _ e) (Nat.le_refl _) ?_,rfl,q _ hf⟩
  exact⟨z,us,0,r,Heap.get?_push_size _ rfl⟩
end
abbrev Sp:=List V->Hp->VK->XK->Prop
abbrev wQ:=List Env->Hp->Shared->XK->Value->Shared->Prop
structure Ft(P:Program)(w:World)(K:PySem.W.Frag)(mg:Str->Option Value)(base:Heap)(A:Around)(outer:List Env)(s:Shared)(H:Hp):Prop where
  frames:A.frames=some outer
  mod:Mod K mg base
  bs:∀ b o,base.get? b=some o->s.heap.get? b=some o/\H b=none
  IW:base.objs.size<=s.heap.objs.size
  pK:s.heap.FunFrames base outer
  Ig:∀ b∈vK outer,H b=none
  cQ:so P w H s.heap
  bare:AllBare s.gens
def CE(outer:List Env)(P:Program)(w:World)(H:Hp)(s:Shared)(Q:VK)(u:Value)(s':Shared):Prop:=
  ∃ v H',s'.os=s.os/\AllBare s'.gens/\Un (vK outer) [] H H' s.heap s'.heap/\so P w H' s'.heap/\RelV v u/\Q v H'
def CR(CX:wQ)(outer:List Env)(P:Program)(w:World)(H:Hp)(s:Shared)(Q:VK)(E:XK)(r:Result)(s':Shared):Prop:=
  match r with
  | .ok (.ret u)=>CE outer P w H s Q u s'
  | .ok _=>False
  | .error e=>CX outer H s E e s'
structure aQ(P:Program)(w:World)(K:PySem.W.Frag)(mg:Str->Option Value)(base:Heap)(CX:wQ)(k:Nat)(f:Addr)(fd:FuncData)(ps:List Str)(sp:Sp):Prop where
  len:∀ vs H Q E,sp vs H Q E->vs.length=ps.length
  run:∀ (A:Around) (outer:List Env) (s:Shared) (H:Hp) (args:Args) (us:List Value) (vs:List V) (Q:VK) (E:XK),eZ k A->Ft P w K mg base A outer s H->BindsTo s fd args (ps.zip us)->bf vs us->sp vs H Q E ->
    codeAny (model P w) A (.call (.ref f) args) (CR CX outer P w H s Q E) s
theorem aQ.mono{P:Program}{w:World}{K:PySem.W.Frag}{mg:Str->Option Value}{base:Heap}{CX:wQ}{j k:Nat}{f:Addr}{fd:FuncData}{ps:List Str}{sp:Sp}(F:aQ P w K mg base CX j f fd ps sp)(h:j<=k):
    aQ P w K mg base CX k f fd ps sp:=⟨F.len,fun A outer s H args us vs Q E hr=>F.run A outer s H args us vs Q E (hr.mono h)⟩
theorem aQ.imp{P:Program}{w:World}{K:PySem.W.Frag}{mg:Str->Option Value}{base:Heap}{CX:wQ}{k:Nat}{f:Addr}{fd:FuncData}{ps:List Str}{sp sp':Sp}(F:aQ P w K mg base CX k f fd ps sp)
    (h:∀ vs H Q E,sp' vs H Q E->sp vs H Q E):aQ P w K mg base CX k f fd ps sp':=
  ⟨fun vs H Q E q=>F.len vs H Q E (h _ _ _ _ q),fun A outer s H args us vs Q E hr he hb hv hs=>F.run A outer s H args us vs Q E hr he hb hv (h _ _ _ _ hs)⟩
theorem Ft.make{P:Program}{w:World}{K:PySem.W.Frag}{mg:Str->Option Value}{base:Heap}{A:Around}{outer:List Env}{s:Shared}{H:Hp}(e:Ft P w K mg base A outer s H)(C:Addr)(us:List Value)(kw:List (Str×Value)):
    Ft P w K mg base (A.under (.builtin "type.__call__" ⟨.ref C::us,kw⟩)) outer s H:=⟨by first | exact e.frames | (simpa [Around.under,Code.envs,Code.isFrame,pushEnvs] using e.frames),e.mod,e.bs,e.IW,e.pK,e.Ig,e.cQ,e.bare⟩
section
variable {X:Cx} {pins:List (Addr×Obj)} {σ:St} {H:Hp} {s s':Shared}
theorem Inv.env0(I:Inv X pins σ H s):Ft X.prog X.w X.K X.mg X.base X.A X.stack s H:=
  ⟨I.ok.frames,I.ok.mod,I.bs,Nat.le_trans I.ok.IW I.sz,I.stack,I.stkFree,I.cQ,I.bare⟩
theorem Inv.after{Q:VK}{u:Value}(I:Inv X pins σ H s)(h:CE X.stack X.prog X.w H s Q u s'):EP X pins σ Q u s':=by
  obtain⟨v,H',os,bare,un,cQ,r,q⟩:=h
  obtain⟨hh,g,d,t,os'⟩:=s'
  obtain rfl:os'=s.os:=os
  exact⟨v,H',I.call (h':=hh) (g':=g) (d':=d) (t':=t) (ch:=[]) un cQ bare (fun b z=>absurd z (by simp)),r,q⟩
end
def Pu(sp:Sp)(dvs:List V)(E:XK)(t:TA):TE:=fun σ H Q=>t σ H fun vs H1=>sp (vs++dvs) H1 Q E
def T9(C:Addr)(sp:Sp)(dvs:List V)(E:XK)(t:TA):TE:=fun σ H Q=>t σ H fun vs H1=>∀ x dx,H1 x=none->H1 dx=none->dx≠x ->
  sp (.ref x::(vs++dvs)) (upd (upd H1 dx (.own x)) x (.ins C dx [])) (fun v H2=>v=.non/\Q (.ref x) H2) E
def Binds(K:PySem.W.Frag)(fd:FuncData)(ps:List Str)(ds:List Value):Prop:=
  ∀ (s:Shared) (us:List Value),K.In s.heap->(us++ds).length=ps.length->BindsTo s fd ⟨us,[]⟩ (ps.zip (us++ds))
theorem Binds.all{K:PySem.W.Frag}{fd:FuncData}{ps:List Str}(h:∀ us:List Value,us.length=ps.length->bindArgs fd ⟨us,[]⟩=pure (ps.zip us)):Binds K fd ps []:=fun s us _ hl=>by
  rw[List.append_nil] at hl ⊢
  exact .of_eq (h us hl)
def zX(CX:wQ)(X:Cx)(E:XK):Prop:=∀ (pins:List (Addr×Obj)) (σ:St) (H:Hp) (s:Shared) (e:Value) (s':Shared),Inv X pins σ H s->CX X.stack H s E e s'->X.xe e s'
section
variable {X:Cx} {CX:wQ} {k:Nat} {f C:Addr} {fd:FuncData} {ps:List Str} {sp:Sp} {dvs:List V} {ds:List Value} {E:XK} {x m:Str} {p pos apos:Pos} {e o:Expr} {es:List Expr} {ta:TE} {t:TA}
theorem RC{pins:List (Addr×Obj)}{σ:St}{H:Hp}{s:Shared}{Q:VK}{us:List Value}{vs:List V}(F:aQ X.prog X.w X.K X.mg X.base CX k f fd ps sp)(hr:eZ k X.A)(hb:Binds X.K fd ps ds)(hd:bf dvs ds)(hx:zX CX X E)
    (I:Inv X pins σ H s) (r:bf vs us) (h:sp (vs++dvs) H Q E):wpAny (model X.prog X.w) X.A (call (.ref f) us) (EP X pins σ Q) X.xe s:=by
  have r2:bf (vs++dvs) (us++ds):=r.append hd
  have hl:(us++ds).length=ps.length:=by rw[← r2.length];exact F.len _ _ _ _ h
  refine wpAny_call (codeAny_mono (F.run X.A X.stack s H ⟨us,[]⟩ (us++ds) (vs++dvs) Q E hr I.env0 (hb s us I.kIn hl) r2 h) fun r s' hq=>?_)
  cases r with
  | error e=>exact hx pins σ H s e s' I hq
  | ok fl=>
    cases fl with
    | ret u=>exact I.after hq
    | next=>exact False.elim hq
    | brk=>exact False.elim hq
    | cont=>exact False.elim hq
structure Mk(K:PySem.W.Frag)(C f:Addr):Prop where
  makes:PySem.W.makesIn K C=true
  init:PySem.W.findIn K (.ref C) "__init__"=some (some (.ref f))
  fn:PySem.W.isFn K (.ref f)=true
  kp:PySem.W.keepIn K (.ref C)=true
theorem L7{pins:List (Addr×Obj)}{σ:St}{H:Hp}{s:Shared}{Q:VK}{us:List Value}{vs:List V}(M:Mk X.K C f)(F:aQ X.prog X.w X.K X.mg X.base CX k f fd ps sp)(hr:eZ (k+1) X.A)(hb:Binds X.K fd ps ds)(hd:bf dvs ds)
    (hx:zX CX X E) (I:Inv X pins σ H s) (r:bf vs us)
    (h:∀ x dx,H x=none->H dx=none->dx≠x->sp (.ref x::(vs++dvs)) (upd (upd H dx (.own x)) x (.ins C dx [])) (fun v H2=>v=.non/\Q (.ref x) H2) E) :
    wpAny (model X.prog X.w) X.A (call (.ref C) us) (EP X pins σ Q) X.xe s:=by
  have hq:=h (s.heap.objs.size+1) s.heap.objs.size (I.cQ.fresh (Nat.le_succ _)) (I.cQ.fresh (Nat.le_refl _)) (Nat.ne_of_lt (Nat.lt_succ_self _))
  have I2:=Inv.made (C:=C) I
  have r2:bf (V.ref (s.heap.objs.size+1)::(vs++dvs)) (Value.ref (s.heap.objs.size+1)::(us++ds)):=.cons rfl (r.append hd)
  have hl:(Value.ref (s.heap.objs.size+1)::us++ds).length=ps.length:=by
    have e:=r2.length
    rw[F.len _ _ _ _ hq] at e
    exact e.symm
  refine wpAny_call (Md (f:=f) I.kIn M.makes M.init (beq_iff_eq.mp M.fn) (codeAny_mono (F.run _ X.stack _ _ ⟨Value.ref (s.heap.objs.size+1)::us,[]⟩ (Value.ref (s.heap.objs.size+1)::(us++ds)) _ _ E (hr.make C us [])
    (I2.env0.make C us []) (hb _ (Value.ref (s.heap.objs.size+1)::us) I2.kIn hl) r2 hq) fun r s' hq'=>?_))
  cases r with
  | error e=>exact hx pins σ _ _ e s' I2 hq'
  | ok fl=>
    cases fl with
    | ret u=>
      obtain⟨v,H',I3,rv,ev,q3⟩:=I2.after hq'
      subst ev
      exact⟨rv,⟨V.ref (s.heap.objs.size+1),H',I3,rfl,q3⟩⟩
    | next=>exact False.elim hq'
    | brk=>exact False.elim hq'
    | cont=>exact False.elim hq'
theorem Io(M:Mk X.K C f)(F:aQ X.prog X.w X.K X.mg X.base CX k f fd ps sp)(hr:eZ (k+1) X.A)(hg:Gl X x)(hm:X.mg x=some (.ref C))(hb:Binds X.K fd ps ds)(hd:bf dvs ds)(hx:zX CX X E)
    (ha:PA X (e::es) t) (qc:(x==("__debug__":Str))=false:=by decide) (he:starEach (e::es) X.env=(false,eval e X.env)::starEach es X.env:=by rfl) (qz:(backTo pos (starEach es X.env)).any (·.1)=false:=by rfl) :
    PE X (.Call (.Name x p) (e::es) [] pos) (T9 C sp dvs E t):=by
  intro pins s σ H Q I h
  refine wpAny_Call_Name_kw (nM I hg hm ?_ qc)
  refine PySem.W.callWith_K (h₀:=X.base) I.ok.mod.NN M.kp (eM (ha pos pins s σ H _ I h) fun us s1 ⟨vs,H1,I1,r,q⟩=>⟨I1.kIn,?_⟩) he qz
  exact L7 M F hr hb hd hx I1 r q
end
def PK(X:Cx)(kws:List Keyword)(t:TA):Prop:=
  ∀ (pos:Pos) (pins:List (Addr×Obj)) (s:Shared) (σ:St) (H:Hp) (Q:List V->Hp->Prop),Inv X pins σ H s->t σ H Q->wpAny (model X.prog X.w) X.A (evalAll ((backToKw pos (keywordEach kws X.env)).map (·.2))) (AP X pins σ Q) X.xe s
section
variable {X:Cx} {CX:wQ} {k:Nat} {f C:Addr} {fd:FuncData} {ps ks:List Str} {sp:Sp} {E:XK} {x m:Str} {p pos apos kpos:Pos} {e o:Expr} {es:List Expr} {kws:List Keyword} {te ta:TE} {t tk:TA} {nm:Option Str}
theorem P7:PK X [] OS:=fun _ _ _ _ H Q I h=>wpAny_evalAll_nil ⟨[],H,I,.nil,h⟩
theorem NU(ha:PE X e te)(hr:PK X kws t):PK X (⟨nm,e,kpos⟩::kws) (MF te t):=by
  intro pos pins s σ H Q I h
  show wpAny _ _ (evalAll ((do let v ← eval e X.env;standAt pos;pure v)::(backToKw pos (keywordEach kws X.env)).map (·.2))) _ _ s
  refine wpAny_evalAll_cons (wpAny_bind (eM (ha pins s σ H _ I h) fun u s1 ⟨x,H1,I1,r1,q1⟩=>wpAny_bind (wpAny_standAt (wpAny_pure ?_))))
  exact eM (hr pos pins s1 σ H1 _ I1 q1) fun us s2 ⟨xs,H2,I2,r2,q2⟩=>⟨x::xs,H2,I2,.cons r1 r2,q2⟩
variable {g:List Value->List Value->List Value} {gV:List V->List V->List V}
end
structure aA(N P:List Str)(sc:Scope):Prop where
  kind:sc.kind=.function
  co:sc.isCoroutine=false
  gen:sc.isGenerator=false
  nd:N.Nodup
  pre:N.take P.length=P
  par:∀ x∈P,sc.names.lookup x=some .local\/sc.names.lookup x=some .cell
  QE:∀ y∈sc.names,y.2≠.free
theorem Bx{kindOf:Str->Option NameKind}{x:Str}:∀ {binds:List (Str×Value)} {m:Str->Option Value},(∀ v,(x,v) ∉ binds)->bindL kindOf binds m x=m x
  | [],_,_=>rfl
  | (n,v)::r,m,h=>by
    unfold bindL
    rw[Bx fun w hw=>h w (List.mem_cons_of_mem _ hw)]
    split
    · have:x≠n:=by rintro rfl;exact h v List.mem_cons_self
      simp [this]
    · rfl
theorem Bf{kindOf:Str->Option NameKind}{x:Str}:∀ {binds:List (Str×Value)} {m:Str->Option Value},(∀ v,(x,v) ∉ binds)->bindC kindOf binds m x=m x
  | [],_,_=>rfl
  | (n,v)::r,m,h=>by
    unfold bindC
    rw[Bf fun w hw=>h w (List.mem_cons_of_mem _ hw)]
    split
    · rfl
    · have:x≠n:=by rintro rfl;exact h v List.mem_cons_self
      simp [this]
theorem Bb{kindOf:Str->Option NameKind}{x:Str}{v:Value}:∀ {P:List Str} {vs:List Value} {i:Nat} {m:Str->Option Value},P.Nodup->P[i]?=some x->vs[i]?=some v->kindOf x=some .local ->
    bindL kindOf (P.zip vs) m x=some v
  | [],_,_,_,_,h,_,_=>by simp at h
  | _::_,[],_,_,_,_,h,_=>by simp at h
  | p::P,w::vs,0,m,nd,h1,h2,hk=>by
    simp at h1 h2;subst h1;subst h2
    show bindL kindOf ((p,w)::P.zip vs) m p=_
    unfold bindL
    rw[Bx fun v hv=>(List.nodup_cons.mp nd).1 (List.of_mem_zip hv).1,if_pos hk]
    simp
  | p::P,w::vs,i+1,m,nd,h1,h2,hk=>by
    show bindL kindOf ((p,w)::P.zip vs) m x=_
    unfold bindL
    exact Bb (i:=i) (List.nodup_cons.mp nd).2 (by simpa using h1) (by simpa using h2) hk
theorem BB{kindOf:Str->Option NameKind}{x:Str}{v:Value}:∀ {P:List Str} {vs:List Value} {i:Nat} {m:Str->Option Value},P.Nodup->P[i]?=some x->vs[i]?=some v->kindOf x≠some .local ->
    bindC kindOf (P.zip vs) m x=some v
  | [],_,_,_,_,h,_,_=>by simp at h
  | _::_,[],_,_,_,_,h,_=>by simp at h
  | p::P,w::vs,0,m,nd,h1,h2,hk=>by
    simp at h1 h2;subst h1;subst h2
    show bindC kindOf ((p,w)::P.zip vs) m p=_
    unfold bindC
    rw[Bf fun v hv=>(List.nodup_cons.mp nd).1 (List.of_mem_zip hv).1,if_neg hk]
    simp
  | p::P,w::vs,i+1,m,nd,h1,h2,hk=>by
    show bindC kindOf ((p,w)::P.zip vs) m x=_
    unfold bindC
    exact BB (i:=i) (List.nodup_cons.mp nd).2 (by simpa using h1) (by simpa using h2) hk
def start(N:List Str)(vs:List V):St:=vs.map some++List.replicate (N.length-vs.length) none
def nG(CX:wQ)(P:Program)(w:World)(K:PySem.W.Frag)(mg:Str->Option Value)(base:Heap)(N:List Str)(qual:Str)(scope:Scope)(f:Addr)(cd:Value)(A:Around)(outer:List Env)(s:Shared)(H:Hp)(E:XK):Cx where
  prog:=P
  w:=w
  K:=K
  mg:=mg
  base:=base
  A:=A.deeper (envOfC qual scope s.heap.objs.size f cd)
  N:=N
  s₀:=s
  H₀:=H
  env:=envOfC qual scope s.heap.objs.size f cd
  outer:=outer
  stack:=envOfC qual scope s.heap.objs.size f cd::outer
  ex:=[]
  calm:=true
  fn:=fun _=>true
  pn:=[]
  xe:=fun e s'=>wpAny (model P w) (A.deeper (envOfC qual scope s.heap.objs.size f cd)) (leaving (envOfC qual scope s.heap.objs.size f cd) e) (fun _ s''=>CX outer H s E e s'') (fun e' s''=>CX outer H s E e' s'') s'
theorem EK{sc:Scope}{n:Nat}{x:Str}(h:sc.names.lookup x=some .cell):∃ c,(cellsFrom n sc.names []).lookup x=some c:=by
  have q:=PySem.W.cellsFrom_some sc.names n [] (.inl h)
  exact Option.isSome_iff_exists.mp q
theorem Bk{CX:wQ}{P:Program}{w:World}{K:PySem.W.Frag}{mg:Str->Option Value}{base:Heap}{N ps:List Str}{qual:Str}{scope:Scope}{f:Addr}{cd:Value}{A:Around}{outer:List Env}{s s1:Shared}{H:Hp}{E:XK}{us:List Value}{vs:List V}
    (S:aA N ps scope) (hd:A.handled=none) (e0:Ft P w K mg base A outer s H) (hl:vs.length=ps.length) (r:bf vs us)
    (x:InCallC s s.heap.objs.size (bindL (envOfC qual scope s.heap.objs.size f cd).kindOf (ps.zip us) fun _=>none) (cellsFrom (s.heap.objs.size+1) scope.names []) (bindC (envOfC qual scope s.heap.objs.size f cd).kindOf (ps.zip us) fun _=>none) s1) :
    Inv (nG CX P w K mg base N qual scope f cd A outer s H E) [] (start N vs) H s1:=by
  have qz:ps.length<=N.length:=by have:=congrArg List.length S.pre;rw[List.length_take] at this;omega
  obtain⟨h1,tk,rfl,hk⟩:=x.done
  have V4:∀ b:Addr,b ∉ (nG CX P w K mg base N qual scope f cd A outer s H E).ex:=fun b z=>absurd (show b∈([]:List Addr) from z) (by simp)
  refine⟨⟨e0.mod,S.kind,rfl,rfl,Nat.le_refl _,fun y z c h1 h2=>?_,fun y hy=>?_,fun y c _ h=>?_,fun _=>hd,Around.frames_deeper e0.frames,.inr ⟨rfl,rfl⟩,fun b z=>absurd z (V4 b),e0.bs,e0.IW,fun b _ _=>V4 b,fun b z=>absurd z (V4 b),e0.pK,e0.Ig⟩,
    rfl,e0.bare,Un.kept hk,⟨_,x.toInCall.ns,fun i y v h1 h2 h3=>?_⟩,fun y c h=>⟨_,x.cell y c h⟩,e0.cQ.fresh (Nat.le_refl _),fun y c h=>?_,fun p hp=>absurd (show p∈([]:List (Addr×Obj)) from hp) (by simp),e0.cQ.kept hk,?_⟩
  · exact name_of_addr x.apart (PySem.mem_of_lookup h1) (PySem.mem_of_lookup h2)
  · have hy:scope.names.lookup y=some .cell\/scope.names.lookup y=some .free:=hy
    rcases hy with hy | hy
    · exact EK hy
    · exact absurd rfl (S.QE _ (PySem.mem_of_lookup hy))
  · exact Nat.le_of_lt (x.above y c (PySem.mem_of_lookup h))
  · have hi:i<vs.length:=by
      unfold start at h2
      by_cases hi:i<vs.length
      · exact hi
      · rw[List.getElem?_append_right (by simpa using hi)] at h2
        rw[List.getElem?_replicate] at h2
        split at h2 <;> cases h2
    have ha:vs[i]?=some v:=by
      unfold start at h2
      rw[List.getElem?_append_left (by simpa using hi),List.getElem?_map] at h2
      cases e:vs[i]? with
      | none=>rw[e] at h2;cases h2
      | some a=>rw[e] at h2;cases h2;rfl
    obtain⟨u,hu,rv⟩:=r.get ha
    have hp:ps[i]?=some y:=by
      rw[← S.pre,List.getElem?_take_of_lt (by omega)];exact h1
    have ndP:ps.Nodup:=by rw[← S.pre];exact S.nd.sublist (List.take_sublist _ _)
    refine⟨u,rv,?_⟩
    rcases S.par y (List.mem_of_getElem? hp) with k | k
    · exact .inl ⟨k,Bb ndP hp hu k⟩
    · obtain⟨c,e⟩:=EK (n:=s.heap.objs.size+1) k
      refine .inr ⟨.inl k,c,e,?_⟩
      have q:=x.cell y c e
      rw[BB ndP hp hu (by show scope.names.lookup y≠_;rw[k];decide)] at q
      exact q
  · exact e0.cQ.fresh (Nat.le_of_lt (x.above y c (PySem.mem_of_lookup h)))
  · unfold start
    show _=N.length
    rw[List.length_append,List.length_map,List.length_replicate]
    omega
theorem KR{CX:wQ}{P:Program}{w:World}{K:PySem.W.Frag}{mg:Str->Option Value}{base:Heap}{k:Nat}{f:Addr}{name qual:Str}{params:Arguments}{body:List Stmt}{scope:Scope}{dV kV doc pm c9 ct oc:Value}{an od:Option Addr}
    {GW:Array (Option Value)} {N ps:List Str} {sp:Sp} (lk:K.lookup f=some ⟨oc,od,.func (PySem.W.fnOf name qual params body scope dV kV doc pm an c9 ct),GW⟩) (qF:PySem.W.codeIn K c9 qual=true) (S:aA N ps scope)
    (len:∀ vs H Q E,sp vs H Q E->vs.length=ps.length)
    (uB:∀ (A:Around) (outer:List Env) (s:Shared) (H:Hp) (vs:List V) (Q:VK) (E:XK),eZ k (A.deeper (envOfC qual scope s.heap.objs.size f c9))->sp vs H Q E ->
      ∃ t,ju (nG CX P w K mg base N qual scope f c9 A outer s H E) body t/\t { nx:=fun _ H'=>Q .non H',rt:=Q } (start N vs) H) :
    aQ P w K mg base CX (k+1) f (PySem.W.fnOf name qual params body scope dV kV doc pm an c9 ct) ps sp:=by
  refine⟨len,fun A outer s H args us vs Q E hr e0 hb r Gy=>?_⟩
  have hl:=len _ _ _ _ Gy
  have KX:K.In s.heap:=e0.mod.NN.keeps fun b o e=>(e0.bs b o e).1
  have lim:s.heap.NoLimit:=e0.mod.nolimit.keeps fun b o e=>(e0.bs b o e).1
  have tW:∀ y∈ps.zip us,scope.names.lookup y.1=some .local\/(scope.names.lookup y.1=some .cell/\((cellsFrom (s.heap.objs.size+1) scope.names []).lookup y.1).isSome=true):=fun⟨n,v⟩ hy=>by
    rcases S.par n (List.of_mem_zip hy).1 with q | q
    · exact .inl q
    · exact .inr ⟨q,PySem.W.cellsFrom_some _ _ _ (.inl q)⟩
  refine codeAny_call_function hr.depth (KX _ _ lk) rfl S.co S.gen rfl (PySem.W.codeRec_of KX qF) (hb _ _ _ _ ?_)
  refine wpAny_newFunctionEnv_cells S.kind tW fun env he s1 x=>?_
  subst he
  refine⟨lim.keeps x.toInCall.keep,codeAny_func ?_⟩
  obtain⟨t,ht,hq⟩:=uB A outer s H vs Q E (hr.deeper _) Gy
  have I:Inv (nG CX P w K mg base N qual scope f c9 A outer s H E) [] (start N vs) H s1:=Bk S hr.hd e0 hl r x
  refine wpAny_mono (ht [] s1 (start N vs) H _ I hq) (fun fl s' hs=>?_) fun e s' hs=>hs
  have fin:∀ {σ':St} {H':Hp} {v:V} {u:Value},Inv (nG CX P w K mg base N qual scope f c9 A outer s H E) [] σ' H' s'->RelV v u->Q v H'->CE outer P w H s Q u s':=
    fun {σ' H' v u} J rv q=>⟨v,H',J.os,J.bare,J.base,J.cQ,rv,q⟩
  cases fl with
  | ret u=>
    obtain⟨v,σ',H',J,rv,q⟩:=hs
    exact fin J rv q
  | next=>
    obtain⟨σ',H',J,q⟩:=hs
    exact fin (v:=V.non) (u:=Value.none) J rfl q
  | brk=>
    obtain⟨_,_,_,q⟩:=hs
    exact False.elim q
  | cont=>
    obtain⟨_,_,_,q⟩:=hs
    exact False.elim q
end L2
namespace L2
open PySem PySem.Spec PyProof.Rows
section
variable {X:Cx} {x:Str} {p pos:Pos} {e:Expr} {es:List Expr} {t:TA} {id T:String} {r:List V->Hp->VK->Prop}
def Zm(r:List V->Hp->VK->Prop)(t:TA):TE:=fun σ H Q=>t σ H fun vs H1=>r vs H1 Q
theorem fm(hc:dW X (.builtin id) r)(hg:Gl X x)(hm:X.mg x=none)(hv:bootBuiltins x=some (.builtin id))(ha:PA X (e::es) t)(hn:x≠"__name__":=by decide)(qc:(x==("__debug__":Str))=false:=by decide)
    (he:starEach (e::es) X.env=(false,eval e X.env)::starEach es X.env:=by rfl) (qz:(backTo pos (starEach es X.env)).any (·.1)=false:=by rfl):PE X (.Call (.Name x p) (e::es) [] pos) (Zm r t):=by
  intro pins s σ H Q I h
  refine wpAny_Call_Name_kw (sA I hg hm hv ?_ hn qc)
  exact PyProof.Rows.callWith_builtin1 (eM (ha pos pins s σ H _ I h) fun us s1 ⟨vs,H1,I1,r1,q1⟩=>hc pins s1 σ H1 vs us Q I1 r1 q1) he qz
theorem Bp(hc:dW X (.type T) r)(hg:Gl X x)(hm:X.mg x=none)(hv:bootBuiltins x=some (.type T))(ha:PA X (e::es) t)(hn:x≠"__name__":=by decide)(qc:(x==("__debug__":Str))=false:=by decide)
    (he:starEach (e::es) X.env=(false,eval e X.env)::starEach es X.env:=by rfl) (qz:(backTo pos (starEach es X.env)).any (·.1)=false:=by rfl):PE X (.Call (.Name x p) (e::es) [] pos) (Zm r t):=by
  intro pins s σ H Q I h
  refine wpAny_Call_Name_kw (sA I hg hm hv ?_ hn qc)
  exact PyProof.Rows.callWith_type1 (eM (ha pos pins s σ H _ I h) fun us s1 ⟨vs,H1,I1,r1,q1⟩=>hc pins s1 σ H1 vs us Q I1 r1 q1) he qz
end
end L2
namespace HT
open PySem PyProof.Rows
section
variable {prog:Program} {w:World} {A:Around} {E:Value->Shared->Prop} {s:Shared}
theorem O3{t b:Addr}{vs ws:List Value}{Q:Value->Shared->Prop}(ht:IsTup s.heap t vs.toArray)(hb:IsTup s.heap b ws.toArray)(hv:vs≠[])
    (h1:ws=[]->Q (.ref t) s) (h2:ws≠[]->Q (.ref s.heap.objs.size) { s with heap:=s.heap.push { cls:=.type "tuple",data:=.seq (vs++ws).toArray } })
    (Xq:vs.length+ws.length<=sizeLine):wpAny (model prog w) A (binaryOp .Add (.ref t) (.ref b)) Q E s:=by
  obtain⟨⟨cls,dd,data,sl⟩,ho,hc,n,hd⟩:=id ht
  obtain⟨⟨cls2,dd2,data2,sl2⟩,ho2,hc2,n2,hd2⟩:=id hb
  simp only at hc hd hc2 hd2
  subst hc hd hc2 hd2
  have e:vs.toArray++ws.toArray=(vs++ws).toArray:=by simp
  by_cases hw:ws=[]
  · exact concat_meets ⟨_,ho,rfl⟩ ⟨_,ho2,rfl⟩ noFill_tuple_add seq_tuple_add PySem.F.slot_tuple_add PySem.F.entry_tuple_add (PySem.F.args_tuple_add_2 _ _)
      (tuple_addW1 t b vs.toArray ws.toArray n n2 dd dd2 sl sl2 (by simpa using hv) (by simp [hw])) ⟨ho,ho2,h1 hw⟩
  · refine concat_meets ⟨_,ho,rfl⟩ ⟨_,ho2,rfl⟩ noFill_tuple_add seq_tuple_add PySem.F.slot_tuple_add PySem.F.entry_tuple_add (PySem.F.args_tuple_add_2 _ _)
      (tuple_addW2 t b vs.toArray ws.toArray n n2 dd dd2 sl sl2 (by simpa using hv) (by simpa using hw) (by rw[List.size_toArray,List.size_toArray];exact Xq)) ⟨ho,ho2,?_⟩
    rw[e]
    exact h2 hw
def jw(n d:Nat):Option Int->Nat
  | none=>d
  | some v=>if v<0 then (v+(n:Int)).toNat else min v.toNat n
theorem Qs(n d:Nat)(hd:d<=n)(o:Option Int):jw n d o<=n:=by
  cases o with
  | none=>exact hd
  | some v=>
    show (if v<0 then (v+(n:Int)).toNat else min v.toNat n)<=n
    by_cases hv:v<0
    · rw[if_pos hv];omega
    · rw[if_neg hv];exact Nat.min_le_right _ _
theorem Jh(v:Int)(n d:Nat):(if v<0 then max (v+(n:Int)) 0 else min v (n:Int))=((jw n d (some v):Nat):Int):=by
  show (if v<0 then max (v+(n:Int)) 0 else min v (n:Int))=(((if v<0 then (v+(n:Int)).toNat else min v.toNat n):Nat):Int)
  by_cases hv:v<0
  · simp only [if_pos hv];omega
  · simp only [if_neg hv];omega
theorem Hn(lo hi:Option Int)(n:Nat):Builtin.Slice.sliceAdjust lo hi 1 (n:Int)=(((jw n 0 lo:Nat):Int),((jw n n hi:Nat):Int)):=by
  have h1:¬ ((1:Int)<0):=by omega
  unfold Builtin.Slice.sliceAdjust
  simp only [h1,if_false]
  refine Prod.ext ?_ ?_
  · cases lo with
    | none=>rfl
    | some v=>exact Jh v n 0
  · cases hi with
    | none=>rfl
    | some v=>exact Jh v n n
theorem GM(i j:Nat):Builtin.Slice.slicePlaces (i:Int) (j:Int) 1=j-i:=by
  unfold Builtin.Slice.slicePlaces
  have h1:(1:Int) > 0:=by omega
  simp only [h1,if_true,Int.ediv_one]
  split <;> omega
theorem za{v:Value}{o:Option Int}{Q:Option Int->Shared->Prop}(p:IsPart v o)(h:Q o s):wpAny (model prog w) A (Builtin.Slice.slicePartIndex v) Q E s:=by
  cases p with
  | none=>exact slicePart_none h
  | int i t=>exact slicePart_int h
theorem vo{sl:Addr}{vl vu:Value}{lo hi:Option Int}{n:Nat}{Q:Int×Int×Nat->Shared->Prop}(hs:s.heap.IsSliceOf sl vl vu .none)(pl:IsPart vl lo)(pu:IsPart vu hi)
    (h:Q (((jw n 0 lo:Nat):Int),1,jw n n hi-jw n 0 lo) s):wpAny (model prog w) A (Builtin.Slice.sliceApplied (.ref sl) (pure (n:Int))) Q E s:=by
  obtain⟨os,Rr,hcs,hds⟩:=id hs
  unfold Builtin.Slice.sliceApplied Builtin.Slice.sliceFields
  refine wpAny_bind (wpAny_bind (wpAny_field Rr hds (x:=vl) rfl (wpAny_bind (wpAny_field Rr hds (x:=vu) rfl (wpAny_bind (wpAny_field Rr hds (x:=.none) rfl (wpAny_pure ?_)))))))
  refine wpAny_bind (slicePart_none ?_)
  show wpAny _ _ (if ((1:Int)==0)=true then _ else _) _ _ s
  rw[if_neg (by decide)]
  refine wpAny_bind (za pl (wpAny_bind (za pu (wpAny_bind (wpAny_pure ?_)))))
  show wpAny _ _ (match Builtin.Slice.sliceAdjust lo hi 1 (n:Int) with | (lo,hi)=>pure (lo,(1:Int),Builtin.Slice.slicePlaces lo hi 1)) _ _ s
  rw[Hn lo hi n]
  show wpAny _ _ (pure (((jw n 0 lo:Nat):Int),(1:Int),Builtin.Slice.slicePlaces ((jw n 0 lo:Nat):Int) ((jw n n hi:Nat):Int) 1)) _ _ s
  rw[GM]
  exact wpAny_pure h
theorem MR(xs:Array Value)(i k:Nat):((List.range k).filterMap fun (m:Nat)=>xs[((i:Int)+(m:Int)*1).toNat]?).toArray=((xs.toList.drop i).take k).toArray:=by
  have e:(fun (m:Nat)=>xs[((i:Int)+(m:Int)*1).toNat]?)=fun m=>xs[i+m]?:=by
    funext m
    have:((i:Int)+(m:Int)*1).toNat=i+m:=by omega
    rw[this]
  rw[e]
  have:=pick_run xs i k
  rw[List.filterMap_map] at this
  have e2:((fun x=>xs[x]?) ∘ fun x=>i+x)=fun m=>xs[i+m]?:=rfl
  rw[e2] at this
  rw[this]
theorem t7{t sl:Addr}{items:Array Value}{vl vu:Value}{lo hi:Option Int}{Q:Value->Shared->Prop}(ht:IsTup s.heap t items)(hs:s.heap.IsSliceOf sl vl vu .none)(pl:IsPart vl lo)(pu:IsPart vu hi)
    (hw:¬ (jw items.size 0 lo=0/\jw items.size items.size hi=items.size))
    (h:Q (.ref s.heap.objs.size) { s with heap:=s.heap.push { cls:=.type "tuple",data:=.seq ((items.toList.drop (jw items.size 0 lo)).take (jw items.size items.size hi-jw items.size 0 lo)).toArray } })
    (Xq:items.size<=sizeLine):wpAny (model prog w) A (getItem (.ref t) (.ref sl)) Q E s:=by
  have Ie:sizeOk (.seq ((items.toList.drop (jw items.size 0 lo)).take (jw items.size items.size hi-jw items.size 0 lo)).toArray):=by
    show ((items.toList.drop (jw items.size 0 lo)).take (jw items.size items.size hi-jw items.size 0 lo)).toArray.size<=sizeLine
    rw[List.size_toArray,List.length_take,List.length_drop,Array.length_toList]
    omega
  have hj:jw items.size items.size hi<=items.size:=Qs _ _ (Nat.le_refl _) hi
  obtain⟨os,Rr,hcs,hds⟩:=id hs
  have hTs:s.TypeIs (.ref sl) "slice":=⟨os,Rr,hcs⟩
  unfold getItem
  try with_reducible refine wpAny_holding ?_
  first | refine wpAny_bind (wpAny_pure ?_) | skip
  refine wpAny_bind (wpAny_sequenceKey ht.typeIs (by decide) ?_)
  refine wpAny_bind (wpAny_callSpecial?_slot (name:=Str.ofString "__getitem__") ht.typeIs PyProof.Rows.slot_tuple_getitem
    (wpAny_call_entry PyProof.Rows.slot_tuple_getitem ht.typeIs entry_tuple_getitem ?_ (args_tuple_getitem _ _)))
  show wpAny _ _ (Builtin.Tuple.tupleItemsOf (.ref t) >>= _) _ _ s
  refine wpAny_bind (tupleItemsOf_ ht ?_)
  refine wpAny_bind (wpAny_typeOf hTs ?_)
  rw[if_pos (by decide)]
  refine wpAny_bind (vo hs pl pu ?_)
  have hno:¬ ((((jw items.size 0 lo:Nat):Int)==0&&(1:Int)==1&&(jw items.size items.size hi-jw items.size 0 lo)==items.size)=true):=by
    intro q
    rw[Bool.and_eq_true,Bool.and_eq_true] at q
    have q1:((jw items.size 0 lo:Nat):Int)=0:=eq_of_beq q.1.1
    have q2:jw items.size items.size hi-jw items.size 0 lo=items.size:=eq_of_beq q.2
    exact hw ⟨by omega,by omega⟩
  show wpAny _ _ (if (((jw items.size 0 lo:Nat):Int)==0&&(1:Int)==1&&(jw items.size items.size hi-jw items.size 0 lo)==items.size)=true then _ else _) _ _ s
  rw[if_neg hno,MR]
  first
    | exact wpAny_bind (m:=Builtin.Tuple.tupleExact _) (wpAny_newObj_type (wpAny_pure ⟨_,rfl,wpAny_pure h⟩) Ie)
    | exact wpAny_bind (m:=Builtin.Tuple.tupleExact _) (wpAny_newObj_type (wpAny_bind (wpAny_pure (wpAny_pure ⟨_,rfl,wpAny_pure h⟩))) Ie)
    | exact wpAny_bind (wpAny_bind (m:=Builtin.Tuple.tupleExact _) (wpAny_newObj_type (wpAny_pure (wpAny_pure ⟨_,rfl,wpAny_pure h⟩)) Ie))
    | exact wpAny_bind (wpAny_bind (m:=Builtin.Tuple.tupleExact _) (wpAny_newObj_type (wpAny_pure ⟨_,rfl,wpAny_pure h⟩) Ie))
end
end HT
namespace L2
open PySem PySem.Spec PyProof.Rows
abbrev TO:=St->Hp->(Option Int->Hp->Prop)->Prop
def PO(X:Cx)(e:Option Expr)(t:TO):Prop:=
  ∀ (pins:List (Addr×Obj)) (s:Shared) (σ:St) (H:Hp) (Q:Option Int->Hp->Prop),Inv X pins σ H s->t σ H Q ->
    wpAny (model X.prog X.w) X.A (evalPart e X.env) (fun u s'=>∃ o H',Inv X pins σ H' s'/\IsPart u o/\Q o H') X.xe s
def OF:TO:=fun _ H Q=>Q none H
def Wc(t:TE):TO:=fun σ H Q=>t σ H fun x H1=>∃ i,x=.int i/\Q (some i) H1
section
variable {X:Cx} {e:Expr} {te:TE} {lo hi:Option Expr} {tl th:TO} {pos p2:Pos}
theorem IR:PO X none OF:=by
  intro pins s σ H Q I h
  rw[evalPart_none]
  exact wpAny_pure ⟨none,H,I,.none,h⟩
theorem Iv(h:PE X e te):PO X (some e) (Wc te):=by
  intro pins s σ H Q I hw
  rw[evalPart_some]
  refine eM (h pins s σ H _ I hw) fun u s1 ⟨x,H1,I1,r1,q1⟩=>?_
  obtain⟨i,rfl,q⟩:=q1
  obtain⟨t,rfl⟩:=r1
  exact⟨some i,H1,I1,.int i t,q⟩
def Kx(X:Cx)(r:V->Option Int->Option Int->Hp->VK->Prop):Prop:=
  ∀ (pins:List (Addr×Obj)) (s:Shared) (σ:St) (H:Hp) (x:V) (v vl vu:Value) (lo hi:Option Int) (sl:Addr) (Q:VK),Inv X pins σ H s->RelV x v->s.heap.IsSliceOf sl vl vu .none->IsPart vl lo->IsPart vu hi->r x lo hi H Q ->
    ∃ T id,typeLookup (.type T) "__getitem__"=pure (some (.builtin id))/\s.TypeIs v T/\wpAny (model X.prog X.w) X.A (getItem v (.ref sl)) (EP X pins σ Q) X.xe s
theorem Kx.or{r r':V->Option Int->Option Int->Hp->VK->Prop}(h:Kx X r)(h':Kx X r'):Kx X (fun x lo hi H Q=>r x lo hi H Q\/r' x lo hi H Q):=by
  intro pins s σ H x v vl vu lo hi sl Q I rx hs pl pu q
  rcases q with q | q
  · exact h pins s σ H x v vl vu lo hi sl Q I rx hs pl pu q
  · exact h' pins s σ H x v vl vu lo hi sl Q I rx hs pl pu q
def tSl(r:V->Option Int->Option Int->Hp->VK->Prop)(te:TE)(tl th:TO):TE:=fun σ H Q=>te σ H fun x H1=>tl σ H1 fun l H2=>th σ H2 fun u H3=>r x l u H3 Q
theorem EI{r:V->Option Int->Option Int->Hp->VK->Prop}(hr:Kx X r)(he:PE X e te)(hl:PO X lo tl)(hu:PO X hi th):PE X (.Subscript e (.Slice lo hi none p2) pos) (tSl r te tl th):=by
  intro pins s σ H Q I h
  refine Subscript_ (eM (he pins s σ H _ I h) fun v s1 ⟨x,H1,I1,r1,q1⟩=>?_)
  refine wpAny_Slice (eM (hl pins s1 σ H1 _ I1 q1) fun vl s2 ⟨l,H2,I2,pl,q2⟩=>eM (hu pins s2 σ H2 _ I2 q2) fun vu s3 ⟨u,H3,I3,pu,q3⟩=>?_)
  rw[evalPart_none]
  refine wpAny_pure ?_
  have I4:Inv X pins σ H3 { s3 with heap:=s3.heap.push { cls:=.type "slice",data:=.fields #[vl,vu,.none] } }:=I3.kept (t':=s3.toks) fun b ob q=>Heap.get?_push_of_some _ q
  obtain⟨T,id,hT,ht,hg⟩:=hr pins { s3 with heap:=s3.heap.push { cls:=.type "slice",data:=.fields #[vl,vu,.none] } } σ H3 x v vl vu l u s3.heap.objs.size Q I4 r1 (Heap.IsSliceOf.new ..) pl pu q3
  show wpAny (model X.prog X.w) X.A (subscriptTail e (.Slice lo hi none p2) v (.ref s3.heap.objs.size)) (EP X pins σ Q) X.xe { s3 with heap:=s3.heap.push { cls:=.type "slice",data:=.fields #[vl,vu,.none] } }
  exact tail_any (ops:=[.ref s3.heap.objs.size,v]) ht hT hg (by with_unfolding_all rfl)
def E1(xs:List V)(lo hi:Option Int):List V:=(xs.drop (HT.jw xs.length 0 lo)).take (HT.jw xs.length xs.length hi-HT.jw xs.length 0 lo)
theorem wY(xs:List V)(lo hi:Option Int):(E1 xs lo hi).length<=xs.length:=by
  unfold E1
  rw[List.length_take,List.length_drop]
  omega
def ZG(K:PySem.W.Frag):V->Option Int->Option Int->Hp->VK->Prop:=fun x lo hi H Q=>∃ a xs,x=.ref a/\kn K H a xs /\
  ¬ (HT.jw xs.length 0 lo=0/\HT.jw xs.length xs.length hi=xs.length)/\∀ p,H p=none->Q (.ref p) (upd H p (.tup (E1 xs lo hi)))
theorem TL:Kx X (ZG X.K):=by
  intro pins s σ H x v vl vu lo hi sl Q I rx hs pl pu h
  obtain⟨a,xs,rfl,hx,hw,q⟩:=h
  cases rx
  obtain⟨aS,r,ht,hz⟩:=I.tuple hx
  have hlen:aS.toArray.size=xs.length:=by rw[List.size_toArray];exact r.length.symm
  refine⟨"tuple",_,PyProof.Rows.slot_tuple_getitem.lookup,ht.typeIs,?_⟩
  refine HT.t7 ht hs pl pu (by rw[hlen];exact hw) ?_ (by rw[hlen];exact hz)
  rw[hlen]
  refine⟨.ref s.heap.objs.size,_,I.laid (t':=s.toks) (o:=.tup (E1 xs lo hi)) (fun b ob q=>Heap.get?_push_of_some _ q) (Nat.le_refl _) ?_,rfl,q _ (I.cQ.fresh (Nat.le_refl _))⟩
  exact⟨Nat.le_trans (wY xs lo hi) hz,_,(r.drop (HT.jw xs.length 0 lo)).take (HT.jw xs.length xs.length hi-HT.jw xs.length 0 lo),lq.new _ _⟩
def Ux(K:PySem.W.Frag):R2:=fun x y H Q=>∃ a b xs ys,x=.ref a/\y=.ref b/\kn K H a xs/\kn K H b ys/\xs≠[]/\xs.length+ys.length<=sizeLine /\
  (ys=[]->Q (.ref a) H)/\(ys≠[]->∀ p,H p=none->Q (.ref p) (upd H p (.tup (xs++ys))))
theorem bf.nil_iff{xs:List V}{us:List Value}(r:bf xs us):us=[] ↔ xs=[]:=by
  cases r with
  | nil=>simp
  | cons _ _=>simp
theorem Nj:gJ X (binaryOp .Add) (Ux X.K):=by
  intro pins s σ H x y v u Q I rx ry h
  obtain⟨a,b,xs,ys,rfl,rfl,ha,hb,hx,hz,q1,q2⟩:=h
  cases rx
  cases ry
  obtain⟨aS,r1,p1,_⟩:=I.tuple ha
  obtain⟨gy,r2,p2,_⟩:=I.tuple hb
  refine HT.O3 p1 p2 (fun z=>hx (r1.nil_iff.mp z)) (fun z=>⟨.ref a,H,I,rfl,q1 (r2.nil_iff.mp z)⟩) (fun z=>?_) (by rw[← r1.length,← r2.length];exact hz)
  refine⟨.ref s.heap.objs.size,_,I.laid (t':=s.toks) (o:=.tup (xs++ys)) (fun b ob q=>Heap.get?_push_of_some _ q) (Nat.le_refl _) ?_,rfl,q2 (fun w=>z (r2.nil_iff.mpr w)) _ (I.cQ.fresh (Nat.le_refl _))⟩
  exact⟨by rw[List.length_append];exact hz,_,r1.append r2,lq.new _ _⟩
end
end L2
namespace L2
open PySem PySem.Spec PyProof.Rows
def RT(n:Nat)(i:Int):Option Nat:=if 0<=i then (if i<n then some i.toNat else none) else if -(n:Int)<=i then some (i+n).toNat else none
def vg{α:Type}(xs:List α)(i:Int):Option α:=(RT xs.length i).bind fun j=>xs[j]?
theorem OD{n:Nat}{i:Int}{j:Nat}(h:RT n i=some j):seqIndex? i n=some j/\j<n/\-(n:Int)<=i/\i<n:=by
  unfold RT at h
  by_cases h0:0<=i
  · rw[if_pos h0] at h
    by_cases h1:i<n
    · rw[if_pos h1] at h
      have e:i.toNat=j:=Option.some.inj h
      exact⟨by rw[seqIndex_of h0 h1,e],by omega,by omega,h1⟩
    · rw[if_neg h1] at h;cases h
  · rw[if_neg h0] at h
    by_cases h1:-(n:Int)<=i
    · rw[if_pos h1] at h
      have e:(i+n).toNat=j:=Option.some.inj h
      exact⟨by rw[seqIndex_neg (by omega) h1,e],by omega,h1,by omega⟩
    · rw[if_neg h1] at h;cases h
theorem Cc{α:Type}{xs:List α}{i:Int}{v:α}(h:vg xs i=some v):∃ j,seqIndex? i xs.length=some j/\xs[j]?=some v/\j<xs.length/\-(xs.length:Int)<=i/\i<xs.length:=by
  unfold vg at h
  cases e:RT xs.length i with
  | none=>rw[e] at h;cases h
  | some j=>
    rw[e] at h
    obtain⟨h1,h2,h3,h4⟩:=OD e
    exact⟨j,h1,h,h2,h3,h4⟩
theorem Ia{α:Type}{xs:List α}{j:Nat}{v:α}(h:xs[j]?=some v):vg xs (j:Int)=some v:=by
  have hj:j<xs.length:=(List.getElem?_eq_some_iff.mp h).1
  have e:RT xs.length (j:Int)=some j:=by
    unfold RT
    rw[if_pos (by omega),if_pos (by omega)];simp
  unfold vg;rw[e];exact h
def Iz(b:Expr):Prop:=∀ o i,subscripted b false o i=operate [o,i] (getItem o i)
def Jl(X:Cx)(r:R2):Prop:=
  ∀ (value slice:Expr) (pins:List (Addr×Obj)) (s:Shared) (σ:St) (H:Hp) (x y:V) (v u:Value) (Q:VK),Inv X pins σ H s->RelV x v->RelV y u->r x y H Q ->
    subscripted slice false v u=operate [v,u] (getItem v u)->wpAny (model X.prog X.w) X.A (subscriptTail value slice v u) (EP X pins σ Q) X.xe s
def NT(X:Cx)(id:String)(r:V->List V->Hp->VK->Prop):Prop:=
  ∀ (pins:List (Addr×Obj)) (s:Shared) (σ:St) (H:Hp) (x:V) (xs:List V) (v:Value) (us:List Value) (Q:VK),Inv X pins σ H s->RelV x v->bf xs us->r x xs H Q ->
    wpAny (model X.prog X.w) X.A (call (.builtin id) (v::us)) (EP X pins σ Q) X.xe s
section
variable {X:Cx} {a b:Expr} {ta tb:TE} {pos:Pos}
theorem Jl.or{r r':R2}(h:Jl X r)(h':Jl X r'):Jl X (fun x y H Q=>r x y H Q\/r' x y H Q):=by
  intro value slice pins s σ H x y v u Q I rx ry q hs
  rcases q with q | q
  · exact h value slice pins s σ H x y v u Q I rx ry q hs
  · exact h' value slice pins s σ H x y v u Q I rx ry q hs
theorem VG{r:R2}(hr:Jl X r)(ha:PE X a ta)(hb:PE X b tb)(hs:Iz b):PE X (.Subscript a b pos) (VP r ta tb):=by
  intro pins s σ H Q I h
  exact Subscript_ (Rz ha hb I h fun v u s2 x y H2 I2 rx ry q=>hr a b pins s2 σ H2 x y v u Q I2 rx ry q (hs _ _))
def Wy(K:PySem.W.Frag):R2:=fun x y H Q=>∃ p xs i v,x=.ref p/\y=.int i/\fW K H p xs/\vg xs i=some v/\Q v H
def WN(K:PySem.W.Frag):R2:=fun x y H Q=>∃ p xs i v,x=.ref p/\y=.int i/\kn K H p xs/\vg xs i=some v/\Q v H
def V9:R2:=fun x y H Q=>∃ z i c,x=.str z/\y=.int i/\z.length<=sizeLine/\vg z.cps.toList i=some c/\Q (.str ⟨#[c]⟩) H
theorem N1:Jl X (Wy X.K):=by
  intro value slice pins s σ H x y v u Q I rx ry h hs
  obtain⟨p,xs,i,z,rfl,rfl,hq,he,q⟩:=h
  cases rx
  obtain⟨t,rfl⟩:=ry
  obtain⟨aS,r,pl,hz⟩:=I.list hq
  obtain⟨j,h1,h2,h3,h4,h5⟩:=Cc he
  obtain⟨w,ew,rw'⟩:=r.get h2
  have hl:=r.length
  have hn:=vB
  have fin:EP X pins σ Q w s:=⟨z,H,I,rw',q⟩
  by_cases h0:0<=i
  · have hj:i.toNat=j:=by
      rw[seqIndex_of h0 h5] at h1
      exact Option.some.inj h1
    exact item_listR pl.isList h0 (by omega) (by rw[hj];simpa using ew) fin hs
  · have hj:(i+(aS.toArray.size:Int)).toNat=j:=by
      rw[seqIndex_neg (by omega) h4] at h1
      rw[List.size_toArray,← hl]
      exact Option.some.inj h1
    exact subscriptTail_builtinR (x:=w) pl.isList.typeIs slot_list_getitem.lookup
      (wpAny_getItem_list_neg (Q:=fun r s'=>r=w/\EP X pins σ Q r s') pl.isList (by omega) (by rw[List.size_toArray] <;> omega) (by omega) (by rw[hj];simpa using ew) ⟨rfl,fin⟩) hs
theorem RI:Jl X (WN X.K):=by
  intro value slice pins s σ H x y v u Q I rx ry h hs
  obtain⟨p,xs,i,z,rfl,rfl,hq,he,q⟩:=h
  cases rx
  obtain⟨t,rfl⟩:=ry
  obtain⟨aS,r,pl,hz⟩:=I.tuple hq
  obtain⟨j,h1,h2,h3,h4,h5⟩:=Cc he
  obtain⟨w,ew,rw'⟩:=r.get h2
  have hl:=r.length
  have hn:=vB
  have fin:EP X pins σ Q w s:=⟨z,H,I,rw',q⟩
  exact subscriptTail_builtinR (x:=w) pl.typeIs slot_tuple_getitem.lookup
    (getItem_tuple (j:=j) (Q:=fun r s'=>r=w/\EP X pins σ Q r s') pl (by omega) (by omega) (by rw[List.size_toArray,← hl];exact h1) (by simpa using ew) ⟨rfl,fin⟩) hs
theorem P8:Jl X V9:=by
  intro value slice pins s σ H x y v u Q I rx ry h hs
  obtain⟨z,i,c,rfl,rfl,hz,he,q⟩:=h
  obtain⟨t,rfl⟩:=rx
  obtain⟨t',rfl⟩:=ry
  obtain⟨j,h1,h2,h3,h4,h5⟩:=Cc he
  have hl:z.cps.toList.length=z.length:=by simp [Str.length]
  rw[hl] at h1 h4 h5
  have hn:=vB
  exact tail_any (typeIs_str s z t) slot_str_getitem.lookup (getItem_str (c:=c) (by
    have e1:decide (i < -(2 ^ 63:Int))=false:=decide_eq_false (by omega)
    have e2:decide (i ≥ 2 ^ 63)=false:=decide_eq_false (by omega)
    rw[e1,e2,Bool.or_false]) (by rw[h1];simpa using h2) ⟨.str ⟨#[c]⟩,H,I.tok _,⟨_,rfl⟩,q⟩) hs
def rIx(K:PySem.W.Frag):R2:=fun x y H Q=>Wy K x y H Q\/WN K x y H Q\/V9 x y H Q
theorem QB:Jl X (rIx X.K):=N1.or (RI.or P8)
theorem CY(lo hi:Option Int)(n:Nat):(sliceBounds lo hi none n).1=((HT.jw n 0 lo:Nat):Int)/\(sliceBounds lo hi none n).2.1=((HT.jw n n hi:Nat):Int)/\(sliceBounds lo hi none n).2.2=1:=by
  refine⟨?_,?_,rfl⟩
  · cases lo with
    | none=>simp [sliceBounds,HT.jw]
    | some i=>
      simp only [sliceBounds,HT.jw,Option.getD_none,show (1:Int) > 0 by decide,if_true]
      by_cases h:i<0
      · simp only [h,if_true] <;> omega
      · simp only [h,if_false] <;> omega
  · cases hi with
    | none=>simp [sliceBounds,HT.jw]
    | some i=>
      simp only [sliceBounds,HT.jw,Option.getD_none,show (1:Int) > 0 by decide,if_true]
      by_cases h:i<0
      · simp only [h,if_true] <;> omega
      · simp only [h,if_false] <;> omega
theorem AL(aS:List Value)(lo hi:Option Int):slicePick aS.toArray lo hi none=((aS.drop (HT.jw aS.length 0 lo)).take (HT.jw aS.length aS.length hi-HT.jw aS.length 0 lo)).toArray:=by
  obtain⟨h1,h2,h3⟩:=CY lo hi aS.toArray.size
  unfold slicePick
  rw[h1,h2,h3]
  simp only [sliceRange_one,pick_run,List.size_toArray] <;> rfl
def Yk(K:PySem.W.Frag):V->Option Int->Option Int->Hp->VK->Prop:=fun x lo hi H Q=>∃ a xs,x=.ref a/\fW K H a xs/\∀ p,H p=none->Q (.ref p) (upd H p (.lst (E1 xs lo hi)))
theorem Oa:Kx X (Yk X.K):=by
  intro pins s σ H x v vl vu lo hi sl Q I rx hs pl pu h
  obtain⟨a,xs,rfl,hx,q⟩:=h
  cases rx
  obtain⟨aS,r,ht,hz⟩:=I.list hx
  have hlen:=r.length
  refine⟨"list",_,slot_list_getitem.lookup,ht.isList.typeIs,?_⟩
  refine wpAny_getItem_list_slice ht.isList hs pl pu .none (by simp) ?_ (by rw[List.size_toArray] <;> omega)
  rw[AL,← hlen]
  refine⟨.ref s.heap.objs.size,_,I.laid (t':=s.toks) (o:=.lst (E1 xs lo hi)) (fun b ob q=>Heap.get?_push_of_some _ q) (Nat.le_refl _) ?_,rfl,q _ (I.cQ.fresh (Nat.le_refl _))⟩
  exact⟨Nat.le_trans (wY xs lo hi) hz,_,0,(r.drop (HT.jw xs.length 0 lo)).take (HT.jw xs.length xs.length hi-HT.jw xs.length 0 lo),Heap.get?_push_size _ rfl⟩
def gI:V->Bool
  | .non=>true
  | .bl _=>true
  | .int _=>true
  | .str _=>true
  | _=>false
def Ba:V->V->Bool
  | .non,.non=>true
  | .bl a,.bl b=>a==b
  | .bl a,.int b=>(if a then 1 else 0)==b
  | .int a,.bl b=>a==(if b then 1 else 0)
  | .int a,.int b=>a==b
  | .str a,.str b=>a==b
  | _,_=>false
theorem Ah{A:Around}{s:Shared}{y x:V}{u v:Value}(ry:RelV y u)(rx:RelV x v)(fy:gI y=true)(fx:gI x=true):SeqAt.EqAt A s u v (Ba y x):=by
  cases y with
  | non=>
    cases ry
    cases x with
    | non=>cases rx;exact SeqAt.EqAt.same _
    | bl b=>cases rx;exact SeqAt.EqAt.none_bool b
    | int b=>obtain⟨t,rfl⟩:=rx;exact SeqAt.EqAt.none_int b t
    | str b=>obtain⟨t,rfl⟩:=rx;exact SeqAt.EqAt.none_str b t
    | _=>exact absurd (show false=true from fx) Bool.false_ne_true
  | bl a=>
    cases ry
    cases x with
    | non=>cases rx;exact SeqAt.EqAt.bool_none a
    | bl b=>cases rx;exact SeqAt.EqAt.bool_bool a b
    | int b=>obtain⟨t,rfl⟩:=rx;exact SeqAt.EqAt.bool_int a b t
    | str b=>obtain⟨t,rfl⟩:=rx;exact SeqAt.EqAt.bool_str a b t
    | _=>exact absurd (show false=true from fx) Bool.false_ne_true
  | int a=>
    obtain⟨t',rfl⟩:=ry
    cases x with
    | non=>cases rx;exact SeqAt.EqAt.int_none a t'
    | bl b=>cases rx;exact SeqAt.EqAt.int_bool a t' b
    | int b=>obtain⟨t,rfl⟩:=rx;exact SeqAt.EqAt.int_int a t' b t
    | str b=>obtain⟨t,rfl⟩:=rx;exact SeqAt.EqAt.int_str a t' b t
    | _=>exact absurd (show false=true from fx) Bool.false_ne_true
  | str a=>
    obtain⟨t',rfl⟩:=ry
    cases x with
    | non=>cases rx;exact SeqAt.EqAt.str_none a t'
    | bl b=>cases rx;exact SeqAt.EqAt.str_bool a t' b
    | int b=>obtain⟨t,rfl⟩:=rx;exact SeqAt.EqAt.str_int a t' b t
    | str b=>obtain⟨t,rfl⟩:=rx;exact SeqAt.EqAt.str_str a t' b t
    | _=>exact absurd (show false=true from fx) Bool.false_ne_true
  | _=>exact absurd (show false=true from fy) Bool.false_ne_true
def Ui(x:V)(u:Value):Bool:=match u with
  | .none=>Ba .non x
  | .bool b=>Ba (.bl b) x
  | .int i _=>Ba (.int i) x
  | .str z _=>Ba (.str z) x
  | _=>false
theorem KQ{x y:V}{u:Value}(r:RelV y u)(f:gI y=true):Ui x u=Ba y x:=by
  cases y with
  | non=>cases r;rfl
  | bl b=>cases r;rfl
  | int i=>obtain⟨t,rfl⟩:=r;rfl
  | str z=>obtain⟨t,rfl⟩:=r;rfl
  | _=>exact absurd (show false=true from f) Bool.false_ne_true
theorem EM{A:Around}{s:Shared}{x:V}{v:Value}(rx:RelV x v)(fx:gI x=true):∀ {xs:List V} {us:List Value},bf xs us->xs.all gI=true->∀ u∈us,SeqAt.EqAt A s u v (Ui x u)
  | _,_,.nil,_=>fun u hu=>by cases hu
  | y::xs,u::us,.cons r t,f=>fun u' hu=>by
    rw[List.all_cons,Bool.and_eq_true] at f
    rcases List.mem_cons.mp hu with rfl | hu
    · rw[KQ r f.1];exact Ah r rx f.1 fx
    · exact EM rx fx t f.2 u' hu
theorem Co:dW X (.builtin "len") (fun xs H Q=>∃ p ys,xs=[.ref p]/\(fW X.K H p ys\/kn X.K H p ys)/\Q (.int ys.length) H):=by
  intro pins s σ H xs us Q I r h
  obtain⟨p,ys,rfl,hq,q⟩:=h
  obtain⟨u,rfl,rx⟩:=vals1 r
  cases rx
  have hn:=vB
  rcases hq with hq | hq
  · obtain⟨aS,r',pl,hz⟩:=I.list hq
    have hlen:=r'.length
    exact Calls.call_len_list pl.isList (by simp only [List.size_toArray] <;> omega) ⟨.int ys.length,H,I.tok _,⟨s.toks+1,by rw[List.size_toArray,hlen]⟩,q⟩
  · obtain⟨aS,r',pl,hz⟩:=I.tuple hq
    have hlen:=r'.length
    exact len_tuple pl (by simp only [List.size_toArray] <;> omega) ⟨.int ys.length,H,I.tok _,⟨s.toks+1,by rw[List.size_toArray,hlen]⟩,q⟩
theorem Cp:dW X (.builtin "len") (fun xs H Q=>∃ z,xs=[.str z]/\z.length<=sizeLine/\Q (.int z.length) H):=by
  intro pins s σ H xs us Q I r h
  obtain⟨z,rfl,hz,q⟩:=h
  obtain⟨u,rfl,t,rfl⟩:=vals1 r
  have hn:=vB
  exact len_str (by omega) ⟨.int z.length,H,I.tok _,⟨_,rfl⟩,q⟩
theorem dW.or{f:Value}{r r':List V->Hp->VK->Prop}(h:dW X f r)(h':dW X f r'):dW X f (fun xs H Q=>r xs H Q\/r' xs H Q):=by
  intro pins s σ H xs us Q I rs q
  rcases q with q | q
  · exact h pins s σ H xs us Q I rs q
  · exact h' pins s σ H xs us Q I rs q
theorem Du:dW X (.type "list") (fun xs H Q=>∃ p ys,xs=[.ref p]/\(fW X.K H p ys\/kn X.K H p ys)/\∀ l,H l=none->Q (.ref l) (upd H l (.lst ys))):=by
  intro pins s σ H xs us Q I r h
  obtain⟨p,ys,rfl,hq,q⟩:=h
  obtain⟨u,rfl,rx⟩:=vals1 r
  cases rx
  have fin:∀ (aS:List Value),bf ys aS->ys.length<=sizeLine->∀ (h':Heap) (c':Nat),(∀ b o',s.heap.get? b=some o'->h'.get? b=some o') ->
      h'.get? s.heap.objs.size=some { cls:=.type "list",dict:=none,data:=.seq aS.toArray c',slots:=#[] }->EP X pins σ Q (.ref s.heap.objs.size) { s with heap:=h' }:=fun aS r' hz h' c' kp e=>
    ⟨.ref s.heap.objs.size,_,I.laid (t':=s.toks) kp (Nat.le_refl _) (show dz X.prog X.w _ h' _ (.lst ys) from ⟨hz,aS,c',r',e⟩),rfl,q _ (I.cQ.fresh (Nat.le_refl _))⟩
  rcases hq with hq | hq
  · obtain⟨aS,r',pl,hz⟩:=I.list hq
    have hlen:=r'.length
    obtain⟨o,ho,hc,n,hd⟩:=pl.isList
    exact call_list_seq p (.inl rfl) ho hc hd (fun h' c' kp e=>fin aS r' hz h' c' kp e) (by simp only [List.size_toArray] <;> omega)
  · obtain⟨aS,r',pl,hz⟩:=I.tuple hq
    have hlen:=r'.length
    obtain⟨o,ho,hc,n,hd⟩:=pl
    exact call_list_seq p (.inr rfl) ho hc hd (fun h' c' kp e=>fin aS r' hz h' c' kp e) (by simp only [List.size_toArray] <;> omega)
theorem As:dW X (.type "tuple") (fun xs H Q=>∃ p ys,xs=[.ref p]/\((fW X.K H p ys/\∀ l,H l=none->Q (.ref l) (upd H l (.tup ys)))\/(kn X.K H p ys/\Q (.ref p) H))):=by
  intro pins s σ H xs us Q I r h
  obtain⟨p,ys,rfl,h⟩:=h
  obtain⟨u,rfl,rx⟩:=vals1 r
  cases rx
  rcases h with ⟨hq,q⟩ | ⟨hq,q⟩
  · obtain⟨aS,r',pl,hz⟩:=I.list hq
    have hlen:=r'.length
    refine call_tuple_list pl.isList (fun h' kp=>?_) (by simp only [List.size_toArray] <;> omega)
    have I1:Inv X pins σ H { s with heap:=h' }:=I.kept (t':=s.toks) kp
    have I2:Inv X pins σ (upd H h'.objs.size (.tup ys)) { s with heap:=h'.push { cls:=.type "tuple",data:=.seq aS.toArray } }:=
      I1.laid (t':=s.toks) (fun b o e=>Heap.get?_push_of_some _ e) (Nat.le_refl _) (show dz X.prog X.w _ _ _ (.tup ys) from ⟨hz,aS,r',lq.new _ _⟩)
    exact⟨.ref h'.objs.size,_,I2,rfl,q _ (I1.cQ.fresh (Nat.le_refl _))⟩
  · obtain⟨aS,r',pl,hz⟩:=I.tuple hq
    exact call_tuple_same pl ⟨.ref p,H,I,rfl,q⟩
def ZD(K:PySem.W.Frag)(T:String)(x:V)(H:Hp):Prop:=match x with
  | .str _=>T="str"
  | .int _=>T="int"
  | .ref p=>(T="list"/\∃ xs,fW K H p xs)\/(T="tuple"/\∃ o,K.lookup p=some o/\o.cls=.type "tuple"/\o.dict=none) ∨
      (T="dict"/\((∃ kvs,H p=some (.dK kvs))\/∃ kvs,H p=some (.dT kvs)))\/(T="set"/\∃ S n,H p=some (.set S n))
  | _=>False
theorem LM{pins:List (Addr×Obj)}{σ:St}{H:Hp}{s:Shared}{T:String}{x:V}{v:Value}(I:Inv X pins σ H s)(r:RelV x v)(ty:ZD X.K T x H):
    s.TypeIs v T/\∀ a,v=.ref a->∃ ob,s.heap.get? a=some ob/\ob.dict=none:=by
  cases x with
  | str z=>
    obtain⟨t,rfl⟩:=r
    cases (show T="str" from ty)
    exact⟨typeIs_str s z t,fun _ e=>nomatch e⟩
  | int i=>
    obtain⟨t,rfl⟩:=r
    cases (show T="int" from ty)
    exact⟨typeIs_int s i t,fun _ e=>nomatch e⟩
  | ref p=>
    cases r
    rcases ty with ⟨rfl,xs,hq⟩ | ⟨rfl,o,hk,hc,hd⟩ | ⟨rfl,hk⟩ | ⟨rfl,S,n,hk⟩
    · obtain⟨aS,_,pl,_⟩:=I.list hq
      refine⟨pl.isList.typeIs,fun a e=>?_⟩
      cases e
      obtain⟨o,n,e,c,hd,_⟩:=pl
      exact⟨o,e,hd⟩
    · refine⟨⟨o,I.kIn p o hk,hc⟩,fun a e=>?_⟩
      cases e
      exact⟨o,I.kIn _ o hk,hd⟩
    · have z:∃ o,s.heap.get? p=some o/\o.ExactDict:=by
        rcases hk with ⟨kvs,hk⟩ | ⟨kvs,hk⟩
        · obtain⟨_,_,_,_,o,_,_,e,ex,_⟩:=I.cQ p _ hk
          exact⟨o,e,ex⟩
        · obtain⟨_,_,_,_,o,_,_,e,ex,_⟩:=I.cQ p _ hk
          exact⟨o,e,ex⟩
      obtain⟨o,e,ex⟩:=z
      refine⟨⟨o,e,ex.1⟩,fun a e2=>?_⟩
      cases e2
      exact⟨o,e,ex.2.1⟩
    · obtain⟨o,_,_,_,e,ex,_⟩:=I.cQ p _ hk
      refine⟨⟨o,e,ex.1⟩,fun a e2=>?_⟩
      cases e2
      exact⟨o,e,ex.2.1⟩
  | _=>exact False.elim ty
def Z7(K:PySem.W.Frag)(T:String)(r:V->List V->Hp->VK->Prop)(to:TE):TE:=fun σ H Q=>to σ H fun x H1=>ZD K T x H1/\r x [] H1 Q
def tBM(K:PySem.W.Frag)(T:String)(r:V->List V->Hp->VK->Prop)(to:TE)(t:TA):TE:=fun σ H Q=>to σ H fun x H1=>ZD K T x H1/\t σ H1 fun xs H2=>r x xs H2 Q
variable {o e:Expr} {es:List Expr} {to:TE} {t:TA} {name:Str} {apos gw:Pos} {T id:String} {r:V->List V->Hp->VK->Prop}
theorem Te(pa:PlainAttrs T)(slot:Slot T name id)(QR:typeOf (.builtin id)=pure (.type "method_descriptor"))(hm:NT X id r)(ho:PE X o to)
    (nI:attributeBase o name X.env (eval o X.env)=eval o X.env:=by rfl) (pW:(apos.endLine==gw.line)=true:=by rfl):PE X (.Call (.Attribute o name apos) [] [] gw) (Z7 X.K T r to):=by
  intro pins s σ H Q I h
  refine wpAny_Call_method0_late nI pW (eM (ho pins s σ H _ I h) fun v s1 ⟨x,H1,I1,r1,ty,q1⟩=>?_)
  obtain⟨h1,h2⟩:=LM I1 r1 ty
  exact⟨T,id,pa,slot,QR,h1,h2,Calls.callWith_builtin rfl (PySem.evalArgs_none (hm pins s1 σ H1 x [] v [] Q I1 r1 .nil q1))⟩
theorem KY(pa:PlainAttrs T)(slot:Slot T name id)(QR:typeOf (.builtin id)=pure (.type "method_descriptor"))(hm:NT X id r)(ho:PE X o to)(ha:PA X (e::es) t)
    (nI:attributeBase o name X.env (eval o X.env)=eval o X.env:=by rfl)
    (GL:((backTo gw (starEach (e::es) X.env)).all (fun x=>!x.1)&&(backToKw gw (keywordEach [] X.env)).all (fun x=>x.1.isSome)
     &&decide ((e::es).length+([]:List Keyword).length+(if ([]:List Keyword).isEmpty then 0 else 1)<30))=true:=by rfl)
    (pW:(apos.endLine==gw.line)=true:=by rfl) (hs:starEach (e::es) X.env=(false,eval e X.env)::starEach es X.env:=by rfl) (Gq:(backTo gw (starEach es X.env)).any (·.1)=false:=by rfl) :
    PE X (.Call (.Attribute o name apos) (e::es) [] gw) (tBM X.K T r to t):=by
  intro pins s σ H Q I h
  refine wpAny_Call_method_late nI GL pW rfl (eM (ho pins s σ H _ I h) fun v s1 ⟨x,H1,I1,r1,ty,q1⟩=>?_)
  obtain⟨h1,h2⟩:=LM I1 r1 ty
  refine⟨T,id,pa,slot,QR,h1,h2,?_⟩
  have hA:=ha gw pins s1 σ H1 _ I1 q1
  rw[hs] at hA ⊢
  refine Calls.callWith_builtin (by show (false || (backTo gw (starEach es X.env)).any (·.1))=false;rw[Gq] <;> rfl) (Calls.evalArgs_plain ?_)
  exact eM hA fun us s2 ⟨vs,H2,I2,r2,q2⟩=>hm pins s2 σ H2 x vs v us Q I2 r1 r2 q2
end
end L2
namespace L2
open PySem PySem.Spec PyProof.Rows
def MtM(X:Cx)(id:String)(r:V->List V->Hp->VK->Prop):Prop:=
  ∀ (pins:List (Addr×Obj)) (s:Shared) (σ:St) (H:Hp) (x:V) (xs:List V) (v:Value) (us:List Value) (Q:VK),Inv X pins σ H s->RelV x v->bf xs us->r x xs H Q ->
    wpAny (model X.prog X.w) X.A (call (.builtin id) (v::us)) (EP X pins σ Q) X.xe s
theorem bf.one:∀ {x:V} {us:List Value},bf [x] us->∃ u,us=[u]/\RelV x u
  | _,_,.cons r .nil=>⟨_,rfl,r⟩
theorem bf.two:∀ {x y:V} {us:List Value},bf [x,y] us->∃ u v,us=[u,v]/\RelV x u/\RelV y v
  | _,_,_,.cons r (.cons q .nil)=>⟨_,_,rfl,r,q⟩
theorem bf.zero:∀ {us:List Value},bf [] us->us=[]
  | _,.nil=>rfl
theorem bf.rep{xs:List V}{us:List Value}(h:bf xs us):∀ k:Nat,bf (List.replicate k xs).flatten (List.replicate k us).flatten
  | 0=>.nil
  | k+1=>by
    rw[List.replicate_succ,List.replicate_succ,List.flatten_cons,List.flatten_cons]
    exact bf.append h (bf.rep h k)
theorem foldl_rep(aS:List Value):∀ (k:Nat) (acc:List Value),
    List.foldl (fun x1 x2=>x1++x2) acc.toArray (List.replicate k aS.toArray)=(acc++(List.replicate k aS).flatten).toArray
  | 0,acc=>by simp
  | k+1,acc=>by
    have e:acc.toArray++aS.toArray=(acc++aS).toArray:=by simp
    have e2:(acc++aS)++(List.replicate k aS).flatten=acc++(List.replicate (k+1) aS).flatten:=by
      rw[List.replicate_succ,List.flatten_cons,List.append_assoc]
    rw[← e2,← foldl_rep aS k (acc++aS),← e,List.replicate_succ,List.foldl_cons]
section
variable {X:Cx} {pins:List (Addr×Obj)} {σ:St} {H:Hp} {s:Shared} {l b:Addr} {xs ys zs:List V}
theorem Inv.lset{aS its':List Value}{n:Nat}{f:Array Value->Array Value}{t':Nat}(I:Inv X pins σ H s)(hH:H l=some (.lst xs))
    (e:s.heap.get? l=some { cls:=.type "list",data:=.seq aS.toArray n }) (hf:f aS.toArray=its'.toArray) (hv:bf ys its') (hz:ys.length<=sizeLine) :
    Inv X pins σ (upd H l (.lst ys)) { s with heap:=s.heap.update l (Obj.mapSeq f),toks:=t' }:=by
  have q:=PySem.IsL.update e f
  rw[hf] at q
  refine I.write (x:=l) (e:=l) (by rw[hH];exact trivial) (.inl rfl) (fun b' u hb hu=>(Heap.get?_update_other s.heap (Obj.mapSeq f) (Ne.symm hb)).trans hu) ⟨_,q⟩ ?_
  exact⟨hz,its',_,hv,q⟩
theorem Inv.lnew{aS:List Value}{t':Nat}(I:Inv X pins σ H s)(hv:bf ys aS)(hz:ys.length<=sizeLine):
    Inv X pins σ (upd H s.heap.objs.size (.lst ys)) { s with heap:=s.heap.push { cls:=.type "list",data:=.seq aS.toArray },toks:=t' }:=
  I.laid (fun _ _ q=>Heap.get?_push_of_some _ q) (Nat.le_refl _) ⟨hz,aS,0,hv,Heap.get?_push_size _ rfl⟩
theorem Inv.fresh(I:Inv X pins σ H s):H s.heap.objs.size=none:=I.cQ.fresh (Nat.le_refl _)
theorem Inv.lstM(I:Inv X pins σ H s)(hH:H l=some (.lst xs)):xs.length<=sizeLine/\∃ (aS:List Value) (n:Nat),bf xs aS/\xs.length=aS.length/\s.heap.get? l=some { cls:=.type "list",data:=.seq aS.toArray n }:=by
  obtain⟨z,aS,n,r,e⟩:=I.cQ l _ hH
  exact⟨z,aS,n,r,r.length,e⟩
theorem Kz{n:Nat}(h:n<=sizeLine):Builtin.List.listTooLong n=false:=by
  unfold Builtin.List.listTooLong
  exact decide_eq_false (by omega)
end
section
variable {X:Cx}
def Oc:V->List V->Hp->VK->Prop:=fun x vs H Q=>∃ l xs y,x=.ref l/\vs=[y]/\H l=some (.lst xs)/\xs.length<sizeLine/\Q .non (upd H l (.lst (xs++[y])))
theorem Bw:MtM X "list.append" Oc:=by
  intro pins s σ H x vs v us Q I rx rv h
  obtain⟨l,xs,y,rfl,rfl,hH,hz,q⟩:=h
  cases rx
  obtain⟨u,rfl,ru⟩:=rv.one
  obtain⟨z,aS,n,r,hl,e⟩:=I.lstM hH
  refine call_meets F.slot_list_append ⟨_,e,rfl⟩ F.entry_list_append (F.args_list_append_2 _ _) (PySem.list_append l aS.toArray n u (by rw[List.size_toArray];omega)) ⟨e,?_⟩
  refine⟨.non,_,I.lset (its':=aS++[u]) hH e (by simp) (r.append (.cons ru .nil)) ?_,rfl,q⟩
  rw[List.length_append,List.length_singleton]
  omega
def YT:R2:=fun x y H Q=>∃ l b xs zs,x=.ref l/\y=.ref b/\H l=some (.lst xs)/\H b=some (.lst zs)/\xs.length+zs.length<=sizeLine/\∀ p,H p=none->Q (.ref p) (upd H p (.lst (xs++zs)))
theorem MG:gJ X (binaryOp .Add) YT:=by
  intro pins s σ H x y v u Q I rx ry h
  obtain⟨l,b,xs,zs,rfl,rfl,hH,hB,hz,q⟩:=h
  cases rx
  cases ry
  obtain⟨z,aS,n,r,hl,e⟩:=I.lstM hH
  obtain⟨z2,gy,n2,r2,hl2,e2⟩:=I.lstM hB
  refine PySem.P.add_list e e2 ?_ (by rw[List.size_toArray,List.size_toArray];omega)
  have ea:aS.toArray++gy.toArray=(aS++gy).toArray:=by simp
  rw[ea]
  exact⟨.ref _,_,I.lnew (t':=s.toks) (r.append r2) (by rw[List.length_append];omega),rfl,q _ I.fresh⟩
def Zs:R2:=fun x y H Q=>∃ l k xs,x=.ref l/\y=.int k/\H l=some (.lst xs)/\-(2 ^ 63)<=k/\k<2 ^ 63/\xs.length*k.toNat<=sizeLine /\
  ∀ p,H p=none->Q (.ref p) (upd H p (.lst (List.replicate k.toNat xs).flatten))
theorem len_rep{α:Type}(xs:List α)(k:Nat):(List.replicate k xs).flatten.length=k*xs.length:=by
  induction k with
  | zero=>simp
  | succ k ih=>rw[List.replicate_succ,List.flatten_cons,List.length_append,ih,Nat.succ_mul,Nat.add_comm]
theorem RS:gJ X (binaryOp .Mult) Zs:=by
  intro pins s σ H x y v u Q I rx ry h
  obtain⟨l,k,xs,rfl,rfl,hH,h1,h2,hz,q⟩:=h
  cases rx
  obtain⟨t,rfl⟩:=ry
  obtain⟨z,aS,n,r,hl,e⟩:=I.lstM hH
  have hlen:aS.toArray.size*k.toNat<=sizeLine:=by rw[List.size_toArray,← hl];exact hz
  have ZE:¬ aS.toArray.size*k.toNat > (2 ^ 63-1) / 8:=by
    have:(sizeLine:Nat)<=(2 ^ 63-1) / 8:=by decide
    omega
  have Yu:¬ (!Builtin.List.listFitsIndex k)=true:=by
    rw[fitsIndex_both h1 h2]
    exact Bool.false_ne_true
  have Wq:¬ Builtin.List.listTooLong (aS.toArray.size*k.toNat)=true:=by
    rw[Kz hlen]
    exact Bool.false_ne_true
  have ZT:List.foldl (fun x1 x2=>x1++x2) #[] (List.replicate (if aS.toArray.isEmpty=true then 0 else k.toNat) aS.toArray)=(List.replicate k.toNat aS).flatten.toArray:=by
    have f0:∀ m:Nat,List.foldl (fun x1 x2=>x1++x2) #[] (List.replicate m aS.toArray)=(List.replicate m aS).flatten.toArray:=fun m=>by
      have:=foldl_rep aS m []
      rw[List.nil_append] at this
      exact this
    rw[f0]
    cases aS with
    | nil=>simp
    | cons a r'=>rw[if_neg (by simp)]
  refine wpAny_binaryOp_repeat_ref (T:="list") (U:="int") (by decide) ⟨_,e,rfl⟩ (fun s'=>typeIs_int s' k t) noFill_list_mul F.fills_int_mul F.slot_int_rmul repeat_list F.slot_int_index.lookup
    (call_meets F.slot_int_rmul (typeIs_int s k t) F.entry_int_rmul (F.args_int_rmul_2 _ _) (int___rmul___int_list k t l aS.toArray n)
      ⟨e,rfl,⟨_,e,rfl⟩,call_meets F.slot_list_mul ⟨_,e,rfl⟩ F.entry_list_mul (F.args_list_mul_2 _ _) (AutoListH.list___mul___list_int_3 l aS.toArray n k t Yu ZE Wq) ⟨e,?_⟩⟩)
  rw[ZT]
  exact⟨.ref _,_,I.lnew (t':=s.toks) (r.rep k.toNat) (by rw[len_rep,Nat.mul_comm];exact hz),rfl,q _ I.fresh⟩
end
end L2
namespace L2
open PySem PySem.Spec PyProof.Rows
section
variable {κ:Type} [DecidableEq κ]
def wa(kvs:List (κ×V))(k:κ):Option V:=(kvs.find? fun kv=>decide (kv.1=k)).map (·.2)
def putK(kvs:List (κ×V))(k:κ)(v:V):List (κ×V):=
  if (kvs.any fun kv=>decide (kv.1=k))=true then kvs.map (fun kv=>if kv.1=k then (kv.1,v) else kv) else kvs++[(k,v)]
theorem Eh{p:κ×V}{r:List (κ×V)}{k:κ}(e:p.1=k):wa (p::r) k=some p.2:=by simp [wa,List.find?_cons,e]
theorem F2{p:κ×V}{r:List (κ×V)}{k:κ}(e:¬ p.1=k):wa (p::r) k=wa r k:=by simp [wa,List.find?_cons,e]
theorem EF(kvs:List (κ×V))(k:κ)(v:V):(putK kvs k v).length<=kvs.length+1:=by
  unfold putK
  split
  · rw[List.length_map];omega
  · rw[List.length_append,List.length_cons,List.length_nil];omega
theorem rD.getD{o:Option V}{u:Option Value}{d:V}{d':Value}(r:rD o u)(rd:RelV d d'):RelV (o.getD d) (u.getD d'):=by
  cases o with
  | none=>cases u with
    | none=>exact rd
    | some _=>exact (show False from r).elim
  | some _=>cases u with
    | none=>exact (show False from r).elim
    | some _=>exact r
theorem KV.val{kvs:List (κ×V)}{vs:List (κ×Value)}(r:KV kvs vs)(k:κ):rD (wa kvs k) (valueAt vs k):=by
  unfold KV at r
  induction r with
  | nil=>exact True.intro
  | @cons p q ps qs h t ih=>
    obtain⟨h1,h2⟩:=h
    by_cases e:p.1=k
    · have e':q.1=k:=h1.symm.trans e
      have b:valueAt (q::qs) k=some q.2:=by simp [valueAt,List.find?_cons,e']
      rw[Eh e,b];exact h2
    · have e':¬ q.1=k:=fun z=>e (h1.trans z)
      have b:valueAt (q::qs) k=valueAt qs k:=by simp [valueAt,List.find?_cons,e']
      rw[F2 e,b];exact ih
theorem KV.any{kvs:List (κ×V)}{vs:List (κ×Value)}(r:KV kvs vs)(k:κ):(kvs.any fun kv=>decide (kv.1=k))=vs.any fun kv=>decide (kv.1=k):=by
  unfold KV at r
  induction r with
  | nil=>rfl
  | cons h t ih=>rw[List.any_cons,List.any_cons,ih,h.1]
theorem KV.repl{kvs:List (κ×V)}{vs:List (κ×Value)}(r:KV kvs vs)(k:κ){y:V}{u:Value}(ry:RelV y u):
    KV (kvs.map fun kv=>if kv.1=k then (kv.1,y) else kv) (vs.map fun kv=>if kv.1=k then (kv.1,u) else kv):=by
  unfold KV at r ⊢
  induction r with
  | nil=>exact .nil
  | @cons p q ps qs h t ih=>
    rw[List.map_cons,List.map_cons]
    refine .cons ?_ ih
    obtain⟨h1,h2⟩:=h
    by_cases e:p.1=k
    · rw[if_pos e,if_pos (h1.symm.trans e)];exact⟨h1,ry⟩
    · rw[if_neg e,if_neg (fun z=>e (h1.trans z))];exact⟨h1,h2⟩
theorem KV.put{kvs:List (κ×V)}{vs:List (κ×Value)}(r:KV kvs vs)(k:κ){y:V}{u:Value}(ry:RelV y u):KV (putK kvs k y) (stored vs k u):=by
  unfold putK stored
  rw[r.any k]
  by_cases e:(vs.any fun kv=>decide (kv.1=k))=true
  · rw[if_pos e,if_pos e];exact r.repl k ry
  · rw[if_neg e,if_neg e];exact Paired.snoc r ⟨rfl,ry⟩
end
theorem IA{P:Program}{w:World}{k:Key}{u:Value}(r:RelV (kV k) u):(eD P w).is k u=true:=by
  cases k with
  | inl i=>obtain⟨t,e⟩:=(show ∃ t,u=Value.int i t from r);subst e;exact D0 P w i t
  | inr x=>obtain⟨t,e⟩:=(show ∃ t,u=Value.str x t from r);subst e;exact FV P w x t
theorem Bq{P:Program}{w:World}:∀ {ks:List Key} {us:List Value},bf (ks.map kV) us->ItemsAre (eD P w) ks us
  | [],_,r=>by rw[List.map_nil] at r;cases r;exact .nil
  | k::ks,_,r=>by
    rw[List.map_cons] at r
    cases r with
    | cons h t=>exact .cons (IA h) (Bq t)
abbrev KT(H:Hp):List (List Key×V)->List (List Key×Addr×Value)->Prop:=Paired fun p q=>p.1=q.1/\H q.2.1=some (.tup (p.1.map kV))/\RelV p.2 q.2.2
theorem KT.val{H:Hp}{kvs:List (List Key×V)}{xs:List (List Key×Addr×Value)}(r:KT H kvs xs)(k:List Key):rD (wa kvs k) ((atKey xs k).map (·.2)):=by
  induction r with
  | nil=>exact True.intro
  | @cons p q ps qs h t ih=>
    obtain⟨h1,_,h2⟩:=h
    by_cases e:p.1=k
    · have e':q.1=k:=h1.symm.trans e
      have b:atKey (q::qs) k=some q.2:=by simp [atKey,List.find?_cons,e']
      rw[Eh e,b];exact h2
    · have e':¬ q.1=k:=fun z=>e (h1.trans z)
      have b:atKey (q::qs) k=atKey qs k:=by simp [atKey,List.find?_cons,e']
      rw[F2 e,b];exact ih
section
variable {P:Program} {w:World} {H:Hp} {h:Heap} {a:Addr}
theorem Pm{u:HO}(ok:so P w H h)(e:Rd H a u):dz P w H h a u:=e.ok ok
theorem EX{kvs:List (Key×V)}(ok:so P w H h)(e:Rd H a (.dK kvs)):kvs.length<=sizeLine/\(a==sysModules)=false/\∃ vs,KV kvs vs/\h.DictOf (eD P w) a vs:=
  show dz P w H h a (.dK kvs) from Pm ok e
theorem V7{kvs:List (Key×V)}(ok:so P w H h)(e:H a=some (.dK kvs)):kvs.length<=sizeLine/\(a==sysModules)=false/\∃ vs,KV kvs vs/\h.DictOf (eD P w) a vs:=EX ok (.inl e)
theorem HF{ks:List Key}(ok:so P w H h)(e:H a=some (.tup (ks.map kV))):(tupleKind (eD P w)).is h ks a:=by
  obtain⟨_,aS,r,o,h1,h2,n,h3⟩:=(show dz P w H h a (.tup (ks.map kV)) from ok a _ e)
  exact⟨o,aS.toArray,n,h1,h2.1,h3,by simpa using Bq r⟩
theorem HU{kvs:List (List Key×V)}(ok:so P w H h)(e:Rd H a (.dT kvs)):kvs.length<=sizeLine/\(a==sysModules)=false /\
    ∃ xs,KT H kvs xs/\h.DictOfH (tupleKind (eD P w)) a xs:=by
  obtain⟨z,y,xs,r,o,es,ep,h1,h2,h3,h4,h5⟩:=(show dz P w H h a (.dT kvs) from Pm ok e)
  refine⟨z,y,xs,r,o,es,ep,h1,h2,h3,h4,fun x hx=>?_,h5⟩
  have all:∀ {l:List (List Key×V)} {m:List (List Key×Addr×Value)},KT H l m->∀ x∈m,(tupleKind (eD P w)).is h x.1 x.2.1:=by
    intro l m q
    induction q with
    | nil=>intro x hx;exact nomatch hx
    | @cons p q ps qs hq t ih=>
      intro x hx
      rcases List.mem_cons.mp hx with e | hx
      · subst e
        exact HF ok (by rw[← hq.1];exact hq.2.1)
      · exact ih x hx
  exact all r x hx
end
def DD(H:Hp)(a:Addr)(y:V)(r:Option V):Prop:=
  (∃ kvs k,Rd H a (.dK kvs)/\y=kV k/\r=wa kvs k)\/∃ kvs k b,Rd H a (.dT kvs)/\y=.ref b/\H b=some (.tup (k.map kV))/\r=wa kvs k
theorem DD.k{H:Hp}{a:Addr}{kvs:List (Key×V)}{k:Key}(e:H a=some (.dK kvs)):DD H a (kV k) (wa kvs k):=.inl ⟨kvs,k,.inl e,rfl,rfl⟩
section
variable {X:Cx} {pins:List (Addr×Obj)} {σ:St} {H:Hp} {s:Shared} {a:Addr} {y v:V} {u r:Value} {o:Option V} {A:Around} {E:Value->Shared->Prop}
theorem Inv.big(I:Inv X pins σ H s):sysModules<s.heap.objs.size:=by
  have h:mainGlobals<s.heap.objs.size:=(I.mod.glob.keeps I.bk).lt
  exact Nat.lt_trans (by decide) h
theorem Jr{Q:Value->Shared->Prop}(hu:A.units+1<cLine)(I:Inv X pins σ H s)(g:DD H a y (some v))(ry:RelV y u)(h:∀ w' s',Inv X pins σ H s'->RelV v w'->Q w' s'):
    wpAny (model X.prog X.w) A (getItem (.ref a) u) Q E s:=by
  rcases g with ⟨kvs,k,e,ey,l⟩ | ⟨kvs,k,b,e,ey,eb,l⟩
  · subst ey
    obtain⟨z,hd,vs,rel,dd⟩:=EX I.cQ e
    obtain⟨w',hw,rw'⟩:=rD.some_of (v:=v) (o:=valueAt vs k) (by rw[l];exact rel.val k)
    exact wpAny_getItem_of (IA ry) dd.mapOf hw (h w' _ (I.tok _) rw')
  · subst ey
    cases (show u=Value.ref b from ry)
    obtain⟨z,hd,xs,rel,dd⟩:=HU I.cQ e
    obtain⟨w',hw,rw'⟩:=rD.some_of (v:=v) (o:=(atKey xs k).map (·.2)) (by rw[l];exact rel.val k)
    obtain⟨p,hp,hp2⟩:=Option.map_eq_some_iff.mp hw
    refine wpAny_getItem_heap (tupleKind_room_in1 hu) (HF I.cQ eb) dd hp ?_
    rw[hp2]
    exact h w' _ (I.tok _) rw'
theorem O7{h':Heap}{t':Nat}{ob:HO}(I:Inv X pins σ H s)(mu:Vz (H a))(hs:Heap.SameBut a s.heap h')(he:∃ q,h'.get? a=some q)(new:dz X.prog X.w (upd H a ob) h' a ob):
    Inv X pins σ (upd H a ob) { s with heap:=h',toks:=t' }:=
  I.write (x:=a) (e:=a) mu (.inl rfl) (fun b q hb z=>(hs.2 b hb).trans z) he new
theorem Q4{P:Program}{w:World}{H':Hp}{h':Heap}{kvs:List (Key×V)}{vs:List (Key×Value)}(z:kvs.length<=sizeLine)(hd:(a==sysModules)=false)(rel:KV kvs vs)(dd:h'.DictOf (eD P w) a vs):
    dz P w H' h' a (.dK kvs):=⟨z,hd,vs,rel,dd⟩
end
def Tz(i:Expr):Prop:=∀ ov iv,subscripted i false ov iv=operate [ov,iv] (getItem ov iv)
theorem Nt{prog:Program}{w:World}{A:Around}{E:Value->Shared->Prop}{s:Shared}{env:Env}{value slice:Expr}{pos:Pos}{T id:String}{Q:Value->Shared->Prop}
    (hl:typeLookup (.type T) "__getitem__"=pure (some (.builtin id))) (hs:Tz slice)
    (h:wpAny (model prog w) A (eval value env) (fun o s₁=>wpAny (model prog w) A (eval slice env) (fun i s₂=>s₂.TypeIs o T/\wpAny (model prog w) A (getItem o i) Q E s₂) E s₁) E s) :
    wpAny (model prog w) A (eval (.Subscript value slice pos) env) Q E s:=by
  refine Subscript_ (wpAny_mono h (fun o s₁ h₁=>wpAny_mono h₁ (fun i s₂ h₂=>?_) fun _ _ x=>x) fun _ _ x=>x)
  obtain⟨hT,h₂⟩:=h₂
  unfold subscriptTail
  refine wpAny_bind ?_
  rw[getitemInPython_of_ne hT.not_modules]
  refine wpAny_bind (wpAny_specialOf hT hl ?_)
  have fin:wpAny (model prog w) A (subscripted slice false o i) (fun r s₃=>wpAny (model prog w) A (letTemporaryGo value o r >>= fun _=>pure r) Q E s₃) E s₂:=by
    rw[hs o i]
    exact wpAny_operating (wpAny_mono h₂ (fun r s₃ h₃=>wpAny_bind (wpAny_letTemporaryGo (wpAny_pure h₃))) fun _ _ x=>x)
  first
    | exact wpAny_pure (wpAny_bind fin)
    | exact wpAny_bind (wpAny_pure (wpAny_bind fin))
    | exact wpAny_bind fin
theorem Eg{X:Cx}{pins:List (Addr×Obj)}{σ:St}{H:Hp}{s:Shared}{a:Addr}{y:V}{o:Option V}(I:Inv X pins σ H s)(g:DD H a y o):s.TypeIs (.ref a) "dict":=by
  rcases g with ⟨kvs,k,e,_,_⟩ | ⟨kvs,k,b,e,_,_,_⟩
  · obtain⟨_,_,vs,_,dd⟩:=EX I.cQ e
    exact dd.typeIs
  · obtain⟨_,_,xs,_,dd⟩:=HU I.cQ e
    exact dd.typeIs
def W1(td ty:TE):TE:=fun σ H Q=>td σ H fun x H1=>ty σ H1 fun y H2=>∃ a v,x=.ref a/\DD H2 a y (some v)/\Q v H2
section
variable {X:Cx} {o i e value:Expr} {pos pos' JU:Pos} {td ty tv:TE}
theorem Nx(hu:X.A.units+1<cLine)(ho:PE X o td)(hi:PE X i ty)(hs:Tz i):PE X (.Subscript o i pos) (W1 td ty):=by
  intro pins s σ H Q I h
  refine Nt PySem.F.slot_dict_getitem.lookup hs (eM (ho pins s σ H _ I h) fun u s1 ⟨x,H1,I1,rx,q1⟩=>eM (hi pins s1 σ H1 _ I1 q1) fun iv s2 ⟨y,H2,I2,ry,a,v,ex,g,q2⟩=>?_)
  subst ex
  obtain rfl:u=Value.ref a:=rx
  exact⟨Eg I2 g,Jr hu I2 g ry fun w' s3 I3 rw'=>⟨v,H2,I3,rw',q2⟩⟩
end
theorem M9{P:Program}{w:World}{H:Hp}(h:Heap)(hb:sysModules<h.objs.size):dz P w H (h.push { cls:=.type "dict",data:=.dict #[] }) h.objs.size (.dK []):=
  ⟨Nat.zero_le _,beq_eq_false_iff_ne.mpr (Ne.symm (Nat.ne_of_lt hb)),[],.nil,Heap.DictOf.new h⟩
def yS:List (TE×TE)->St->Hp->(List (V×V)->Hp->Prop)->Prop
  | [],_,H,Q=>Q [] H
  | (tk,tv)::r,σ,H,Q=>tk σ H fun x H1=>tv σ H1 fun y H2=>yS r σ H2 fun ps H3=>Q ((x,y)::ps) H3
abbrev VV:List (V×V)->List (Value×Value)->Prop:=Paired fun p q=>RelV p.1 q.1/\RelV p.2 q.2
def TY(X:Cx)(pos:Pos)(keys:List (Option Expr))(values:List Expr)(NS:List (TE×TE)):Prop:=
  ∀ (pins:List (Addr×Obj)) (s:Shared) (σ:St) (H:Hp) (Q:List (V×V)->Hp->Prop),Inv X pins σ H s->yS NS σ H Q ->
    wpAny (model X.prog X.w) X.A (evalPairs (pairTrees keys values X.env pos)) (fun vs s'=>∃ ps H',Inv X pins σ H' s'/\VV ps vs/\Q ps H') X.xe s
theorem Jg{X:Cx}{pos:Pos}:TY X pos [] [] []:=fun pins s σ H Q I h=>pairTrees_nil_walk ⟨[],H,I,.nil,h⟩
theorem lF{X:Cx}{pos:Pos}{k v:Expr}{ks:List (Option Expr)}{vs:List Expr}{tk tv:TE}{NS:List (TE×TE)}(hk:PE X k tk)(hv:PE X v tv)(hr:TY X pos ks vs NS):
    TY X pos (some k::ks) (v::vs) ((tk,tv)::NS):=fun pins s σ H Q I h=>
  pairTrees_cons_walk (eM (hk pins s σ H _ I h) fun u s1 ⟨x,H1,I1,rx,q1⟩=>eM (hv pins s1 σ H1 _ I1 q1) fun w2 s2 ⟨y,H2,I2,ry,q2⟩=>
    eM (hr pins s2 σ H2 _ I2 q2) fun ws s3 ⟨ps,H3,I3,rel,q3⟩=>⟨(x,y)::ps,H3,I3,.cons ⟨rx,ry⟩ rel,q3⟩)
def sR(kvs more:List (Key×V)):List (Key×V):=more.foldl (fun acc kv=>putK acc kv.1 kv.2) kvs
theorem KV.merge:∀ {more:List (Key×V)} {rs:List (Key×Value)} {kvs:List (Key×V)} {vs:List (Key×Value)},KV more rs->KV kvs vs->KV (sR kvs more) (merged vs rs):=by
  intro more rs kvs vs r
  unfold KV at r
  induction r generalizing kvs vs with
  | nil=>intro q;exact q
  | @cons p q ps qs h t ih=>
    intro r0
    have e:KV (putK kvs p.1 p.2) (stored vs q.1 q.2):=by
      have:=r0.put p.1 h.2
      rw[← h.1];exact this
    exact ih e
theorem rK:∀ (more kvs:List (Key×V)),(sR kvs more).length<=kvs.length+more.length
  | [],kvs=>by show kvs.length<=kvs.length+0;omega
  | p::r,kvs=>by
    have h1:=rK r (putK kvs p.1 p.2)
    have h2:=EF kvs p.1 p.2
    show (sR (putK kvs p.1 p.2) r).length<=_
    rw[List.length_cons];omega
theorem zb{P:Program}{w:World}:∀ {kvs:List (Key×V)} {ws:List (Value×Value)},VV (kvs.map fun kv=>(kV kv.1,kv.2)) ws->∃ rs,Carries (eD P w) ws rs/\KV kvs rs
  | [],_,r=>by rw[List.map_nil] at r;cases r;exact⟨[],True.intro,.nil⟩
  | p::kvs,_,r=>by
    rw[List.map_cons] at r
    cases r with
    | @cons a b as bs h t=>
      obtain⟨rs,c,q⟩:=zb (P:=P) (w:=w) t
      obtain⟨b1,b2⟩:=b
      exact⟨(p.1,b2)::rs,⟨IA h.1,rfl,c⟩,.cons ⟨rfl,h.2⟩ q⟩
def Uw(NS:List (TE×TE)):TE:=fun σ H Q=>∀ p,H p=none->yS NS σ (upd H p (.dK [])) fun ps H2=>H2 p=some (.dK [])/\∃ kvs:List (Key×V),ps=kvs.map (fun kv=>(kV kv.1,kv.2))/\kvs.length<=15/\Q (.ref p) (upd H2 p (.dK (sR [] kvs)))
theorem Jm{X:Cx}{pos:Pos}{keys:List (Option Expr)}{values:List Expr}{NS:List (TE×TE)}(h:TY X pos keys values NS)(Hf:keys.all (·.isSome)=true)(hl:keys.length=values.length)(h0:keys≠[])
    (h15:keys.length<=15):PE X (.Dict keys values pos) (Uw NS):=by
  intro pins s σ H Q I q
  have hn:=I.cQ.fresh (Nat.le_refl s.heap.objs.size)
  have I1:=I.laid (a:=s.heap.objs.size) (o:=.dK []) (h':=s.heap.push { cls:=.type "dict",data:=.dict #[] }) (t':=s.toks) (fun _ _ q=>Heap.get?_push_of_some _ q) (Nat.le_refl _) (M9 s.heap I.big)
  refine wpAny_Dict_walk (knd:=eD X.prog X.w) Hf hl h0 h15 (eM (h pins _ σ _ _ I1 (q _ hn)) fun ws s2 ⟨ps,H2,I2,rel,e,kvs,ep,lk,q2⟩=>?_)
  subst ep
  obtain⟨rs,c,rk⟩:=zb (P:=X.prog) (w:=X.w) rel
  obtain⟨z,hd,vs0,r0,dd⟩:=V7 I2.cQ e
  cases r0
  refine⟨rs,c,dd,fun h' W2 hs=>⟨.ref s.heap.objs.size,_,?_,rfl,q2⟩⟩
  have hz:(sR [] kvs).length<=sizeLine:=by
    have h1:=rK kvs []
    rw[List.length_nil] at h1
    rw[sizeLine_eq];omega
  have he:∃ q,h'.get? s.heap.objs.size=some q:=let ⟨q,_,_,hq,_⟩:=W2;⟨q,hq⟩
  exact O7 I2 (by rw[e];exact True.intro) hs he (Q4 hz hd (rk.merge .nil) W2)
structure M2(X:Cx)(o:Expr)(m:Str)(apos:Pos)(e f:Expr)(gw:Pos):Prop where
  base:attributeBase o m X.env (eval o X.env)=eval o X.env
  xc:((backTo gw (starEach [e,f] X.env)).all (fun x=>!x.1)&&(backToKw gw (keywordEach [] X.env)).all (fun x=>x.1.isSome)
   &&decide (([e,f]:List Expr).length+([]:List Keyword).length+(if ([]:List Keyword).isEmpty then 0 else 1)<30))=true
  line:(apos.endLine==gw.line)=true
  trees:backTo gw (starEach [e,f] X.env)=[(false,eval e X.env),(false,eval f X.env)]
def IsD(H:Hp)(a:Addr):Prop:=(∃ kvs,Rd H a (.dK kvs))\/∃ kvs,Rd H a (.dT kvs)
theorem Re{X:Cx}{pins:List (Addr×Obj)}{σ:St}{H:Hp}{s:Shared}{a:Addr}(I:Inv X pins σ H s)(d:IsD H a):
    s.TypeIs (.ref a) "dict"/\(∀ b,Value.ref a=.ref b->∃ ob,s.heap.get? b=some ob/\ob.dict=none)/\(a==sysModules)=false:=by
  rcases d with ⟨kvs,e⟩ | ⟨kvs,e⟩
  · obtain⟨_,hd,vs,_,dd⟩:=EX I.cQ e
    refine⟨dd.typeIs,fun b q=>?_,hd⟩
    cases q
    obtain⟨ob,_,_,h1,h2,_⟩:=dd
    exact⟨ob,h1,h2.2.1⟩
  · obtain⟨_,hd,xs,_,dd⟩:=HU I.cQ e
    refine⟨dd.typeIs,fun b q=>?_,hd⟩
    cases q
    obtain⟨ob,_,_,h1,h2,_⟩:=dd
    exact⟨ob,h1,h2.2.1⟩
section
variable {X:Cx} {pins:List (Addr×Obj)} {σ:St} {H:Hp} {s:Shared} {a:Addr} {y d:V} {u r:Value} {o:Option V} {A:Around} {E:Value->Shared->Prop}
theorem SG{Q:Value->Shared->Prop}(hu:A.units+1<cLine)(I:Inv X pins σ H s)(g:DD H a y o)(ry:RelV y u)(rd:RelV d r)(h:∀ w' s',Inv X pins σ H s'->RelV (o.getD d) w'->Q w' s'):
    wpAny (model X.prog X.w) A (call (.builtin "dict.get") [.ref a,u,r]) Q E s:=by
  rcases g with ⟨kvs,k,e,ey,l⟩ | ⟨kvs,k,b,e,ey,eb,l⟩
  · subst ey
    obtain⟨z,hd,vs,rel,dd⟩:=EX I.cQ e
    refine call_meetsIn PySem.F.slot_dict_get dd.typeIs PySem.F.entry_dict_get (PySem.F.args_dict_get_3 _ _ _) (meets_dict_get_default (eD X.prog X.w) a (IA ry) hd r) ⟨_,dd.mapOf,h _ _ (I.tok _) ?_⟩
    rw[l]
    exact (rel.val k).getD rd
  · subst ey
    cases (show u=Value.ref b from ry)
    obtain⟨z,hd,xs,rel,dd⟩:=HU I.cQ e
    refine call_meetsIn PySem.F.slot_dict_get dd.typeIs PySem.F.entry_dict_get (PySem.F.args_dict_get_3 _ _ _) (meetsH_dict_get_default (tupleKind (eD X.prog X.w)) a b hd r) ⟨tupleKind_room_in1 hu,k,xs,HF I.cQ eb,dd,h _ _ (I.tok _) ?_⟩
    rw[l]
    exact (rel.val k).getD rd
end
def SY(td ty tx:TE):TE:=fun σ H Q=>td σ H fun x H1=>∃ a,x=.ref a/\IsD H1 a/\ty σ H1 fun y H2=>tx σ H2 fun z H3=>∃ o,DD H3 a y o/\Q (o.getD z) H3
section
variable {X:Cx} {o e f:Expr} {apos gw:Pos} {td ty tx:TE}
theorem Lr(hu:X.A.units+1<cLine)(ho:PE X o td)(he:PE X e ty)(hf:PE X f tx)(m:M2 X o "get" apos e f gw):PE X (.Call (.Attribute o "get" apos) [e,f] [] gw) (SY td ty tx):=by
  intro pins s σ H Q I h
  refine wpAny_Call_method m.base m.xc m.line PySem.F.plainAttrs_dict PySem.F.slot_dict_get PySem.F.type_dict_get (eM (ho pins s σ H _ I h) fun u s1 ⟨x,H1,I1,rx,a,ex,d,q1⟩=>?_)
  subst ex
  obtain rfl:u=Value.ref a:=rx
  obtain⟨t1,t2,_⟩:=Re I1 d
  refine⟨t1,t2,?_⟩
  rw[m.trees]
  refine Calls.callWith_builtin rfl (Calls.evalArgs_plain (Calls.spliced_cons (eM (he pins s1 σ H1 _ I1 q1) fun iv s2 ⟨y,H2,I2,ry,q2⟩=>
    Calls.spliced_cons (eM (hf pins s2 σ H2 _ I2 q2) fun fv s3 ⟨z,H3,I3,rz,ov,g,q3⟩=>Calls.spliced_nil ?_))))
  exact SG hu I3 g ry rz fun w' s4 I4 rw'=>⟨_,H3,I4,rw',q3⟩
end
end L2
namespace Att
open PySem PySem.W PySem.Calls PyProof.Rows
theorem xu{P:Params}{h:Heap}:∀ (ns:List Int) (vs:List Value),WellAll P h vs (ns.map WData.int)->IntsAre vs ns:=by
  intro ns
  induction ns with
  | nil=>
    intro vs w
    rw[List.map_nil] at w
    cases w
    exact .nil
  | cons n ns ih=>
    intro vs w
    rw[List.map_cons] at w
    cases w with
    | cons a b=>
      cases a
      exact .cons _ _ (ih _ b)
theorem J9{l:OpenLaw}{n:Nat}(hn:l.most=some n){P:Params}{h:Heap}{args:List WData}{vals:List Value}
    (OT:l.row.toRowW.claim.pre args=true) (ZQ:WellAll P h vals args) :
    ∃ a vs ns,vals=[Value.ref a]/\args=[WData.list (ns.map WData.int)]/\h.get? a=some { cls:=.type "list",data:=.seq vs.toArray }/\IntsAre vs ns/\ns.length<=n:=by
  have hsh:WShape.hasAll [] args [.list .int]=true:=(pre_splitW OT).1
  have hc:l.pre.holds [] { args:=args }=true:=(pre_splitW OT).2
  obtain⟨d,r,rfl,h1,h2⟩:=hasAllW_cons hsh
  obtain rfl:=hasAllW_nil h2
  obtain⟨xs,rfl,h3⟩:=hasW_list h1
  obtain⟨ns,rfl⟩:=items_int h3
  have hlen:ns.length<=n:=by
    unfold OpenLaw.pre at hc
    have h4:(WTm.not (.lt (.lit (.int (n:Int))) (.len (.arg 0)))).holds [] { args:=[.list (ns.map .int)] }=true:=by
      have h4:=(holds_andW hc).1
      rw[hn] at h4
      exact h4
    have h5:=condW_of h4 (w_not (w_lt w_lit (w_len_list (w_arg rfl))))
    rw[List.length_map] at h5
    refine Nat.le_of_not_lt fun q=>?_
    have q':(n:Int)<((ns.length:Nat):Int):=by omega
    first
      | (rw[decide_eq_true q'] at h5;exact absurd h5 (by decide))
      | (simp at h5;omega)
  cases ZQ with
  | cons w1 w2=>
    cases w2
    cases w1 with
    | list ho Hf=>exact⟨_,_,ns,rfl,rfl,ho,xu ns _ Hf,hlen⟩
theorem Ks(l:OpenLaw)(args:List WData):l.row.toRowW.claim.post args (.bool true) args=true:=
  postW_of (r:=l.row.toRowW) (X:=(true==true))
    (show WShape.has [] (.bool true) .bool=true by first | rfl | decide | simp [WShape.has,WShape.arms,WShape.armsAll])
    (show (WTm.eq .res (.lit (.bool true))).value [] { args:=args,res:=some (.bool true),after:=args }=some (.bool (true==true)) from w_eq_bool (w_res rfl) w_lit) rfl
end Att
namespace L2
open PySem PySem.Spec PyProof.Rows
theorem BQ:∀ {vs:List Value} {ns:List Int},IntsAre vs ns->bf (ns.map V.int) vs
  | _,_,.nil=>.nil
  | _,_,.cons n t h=>.cons ⟨t,rfl⟩ (BQ h)
def Sk(H:Hp):Prop:=∀ b,H b=none\/∃ o xs,H b=some (.frz o (.lst xs))
theorem KD{P:Program}{w:World}{K:PySem.W.Frag}{mg mb:Str->Option Value}{CX:wQ}{k:Nat}{fa a:Addr}{fd:FuncData}{x:Str}{sp:Sp}{s₁:Shared}{vs:List Value}{ns:List Int}
    (KX:K.In s₁.heap) (T2:s₁.heap.Ns mainGlobals mg) (hb:s₁.heap.Ns builtinsNs mb) (Xx:∀ x:Str,x≠"__name__"->mb x=bootBuiltins x) (aae:s₁.heap.NoLimit) (hg:s₁.gens=#[])
    (ha:s₁.heap.get? a=some { cls:=.type "list",data:=.seq vs.toArray }) (hi:IntsAre vs ns) (hl:ns.length<=sizeLine) (hr:eZ k callerA)
    (F:∀ base:Heap,K.In base->base.Ns mainGlobals mg->aQ P w K mg base CX k fa fd [x] sp) (Wv:∀ (s:Shared) (u:Value),BindsTo s fd ⟨[u],[]⟩ [(x,u)])
    (Gy:∀ H:Hp,Sk H->fW K H a (ns.map V.int)->sp [.ref a] H (fun v _=>v=.bl true) fun _ _ _=>False)
    (Zq:∀ H e s',CX [] H s₁ (fun _ _ _=>False) e s'->False) :
    codeAny (model P w) callerA (.call (.ref fa) ⟨[.ref a],[]⟩) (fun r s'=>r=.ok (.ret (.bool true))/\OldK s₁.heap s'.heap/\s'.os=s₁.os/\AllBare s'.gens) s₁:=by
  have rv:=BQ hi
  have ZA:=hi.length
  -- from an abstract heap in which nothing but the script may be tracked
  have core:∀ H:Hp,Sk H->fW K H a (ns.map V.int)->so P w H s₁.heap->(∀ b,H b≠none->b=a)->(H a≠none->K.lookup a=none) ->
      codeAny (model P w) callerA (.call (.ref fa) ⟨[.ref a],[]⟩) (fun r s'=>r=.ok (.ret (.bool true))/\OldK s₁.heap s'.heap/\s'.os=s₁.os/\AllBare s'.gens) s₁:=by
    intro H hO hS cQ hA hK
    have Jk:∀ {b:Addr} {o:Obj},s₁.heap.get? b=some o->H b=none->(Dr s₁.heap H).get? b=some o:=fun e n=>ML e n
    have V4:∀ {b:Addr} {o:Obj} {es:Array DictEntry} {ep:Nat},s₁.heap.get? b=some o->o.data=.dict es ep->H b=none:=fun {b o es ep} e d=>by
      cases q:H b with
      | none=>rfl
      | some u=>
        have e':b=a:=hA b (by rw[q];simp)
        subst e'
        rw[ha] at e;cases e
        have d':Data.seq vs.toArray _=Data.dict es ep:=d
        cases d'
    have X1:∀ {b:Addr} {m:Str->Option Value},s₁.heap.Ns b m->(Dr s₁.heap H).Ns b m:=fun {b m} ⟨o,es,ep,e,d,r⟩=>⟨o,es,ep,Jk e (V4 e d),d,r⟩
    have hKb:K.In (Dr s₁.heap H):=fun b o e=>Jk (KX b o e) (by
      cases q:H b with
      | none=>rfl
      | some u=>
        have e':b=a:=hA b (by rw[q];simp)
        subst e'
        rw[hK (by rw[q];simp)] at e;cases e)
    have hM:Mod K mg (Dr s₁.heap H):=⟨hKb,X1 T2,⟨mb,X1 hb,Xx⟩,let ⟨mc,h1,h2⟩:=aae;⟨mc,X1 h1,h2⟩⟩
    have e0:Ft P w K mg (Dr s₁.heap H) callerA [] s₁ H:=⟨rfl,hM,fun b o e=>Ou e,Nat.le_of_eq (Js _ _),trivial,fun b hb=>absurd (show b∈([]:List Addr) from hb) (by simp),cQ,.of_eq hg⟩
    refine codeAny_mono ((F _ hKb (X1 T2)).run callerA [] s₁ H ⟨[.ref a],[]⟩ [.ref a] [.ref a] _ _ hr e0 (Wv s₁ (.ref a)) (.cons rfl .nil) (Gy H hO hS)) fun r s' h=>?_
    cases r with
    | error e=>exact (Zq H e s' h).elim
    | ok fl=>
      cases fl with
      | next=>exact False.elim h
      | brk=>exact False.elim h
      | cont=>exact False.elim h
      | ret u=>
        obtain⟨v,H',os,bare,un,hok',r',q⟩:=h
        have q':v=.bl true:=q
        subst q'
        obtain rfl:u=Value.bool true:=r'
        refine⟨rfl,OldK.of_keep fun b o e=>?_,os,bare⟩
        cases q:H b with
        | none=>exact un.keep b o e q (by intro z;exact absurd (show b∈([]:List Addr) from z) (by simp)) (by simp)
        | some u=>
          rcases hO b with z | ⟨ob,xs,z⟩
          · rw[q] at z;cases z
          · have z2:=un.uS b ob _ z
            obtain⟨e1,_⟩:=cQ b _ z
            obtain⟨e2,_⟩:=hok' b _ z2
            rw[e] at e1;cases e1
            exact e2
  cases hk:K.lookup a with
  | some o=>
    -- the script is one of the module's own objects
    have e:=KX a o hk
    rw[ha] at e
    cases e
    refine core (fun _=>none) (fun _=>.inl rfl) (.inr ⟨_,vs.toArray,_,hk,rfl,rfl,rfl,by rw[List.size_toArray,ZA];exact hl,by simpa using rv⟩) (fun b u z=>by have z':(none:Option HO)=some u:=z;cases z') (fun b z=>absurd rfl z) fun z=>absurd rfl z
  | none=>
    refine core (fun b=>if b=a then some (.frz { cls:=.type "list",data:=.seq vs.toArray } (.lst (ns.map V.int))) else none) (fun b=>?_) (.inl (.inr ⟨{ cls:=.type "list",data:=.seq vs.toArray },if_pos rfl⟩)) (fun b u z=>?_) (fun b z=>?_) fun _=>hk
    · by_cases hb:b=a
      · exact .inr ⟨_,_,if_pos hb⟩
      · exact .inl (if_neg hb)
    · by_cases hb:b=a
      · have z':=(if_pos hb).symm.trans z
        cases z'
        subst hb
        exact⟨ha,by rw[List.length_map];exact hl,vs,_,rv,ha⟩
      · have z':=(if_neg hb).symm.trans z
        cases z'
    · by_cases hb:b=a
      · exact hb
      · exact absurd (if_neg hb) z
end L2
namespace L2
open PySem PySem.Spec PyProof.Rows
def inClass(s:Stmt)(j:Nat):Stmt:=match s with
  | .ClassDef _ _ _ body _ _ _ _ _ _ _=>body.getD j (.Pass ⟨0,0,0,0⟩)
  | _=>.Pass ⟨0,0,0,0⟩
def ml(s:Stmt):Arguments:=match s with
  | .FunctionDef _ a _ _ _ _ _ _ _ _=>a
  | _=>{ posonlyargs:=[],args:=[],vararg:=none,kwonlyargs:=[],kw_defaults:=[],kwarg:=none,defaults:=[] }
def gE(s:Stmt):List Stmt:=match s with
  | .FunctionDef _ _ b _ _ _ _ _ _ _=>b
  | _=>[]
def ak(s:Stmt):Scope:=match s with
  | .FunctionDef _ _ _ _ _ _ sc _ _ _=>sc
  | _=>{ kind:=.function,names:=[],isGenerator:=false,isCoroutine:=false }
abbrev yI:wQ:=fun _ _ _ _ _ _=>False
abbrev E0:XK:=fun _ _ _=>False
theorem DP{X:Cx}:zX yI X E0:=fun _ _ _ _ _ _ _ h=>h.elim
structure sk(K:PySem.W.Frag)(x qual:Str)(st:Stmt)(f:Addr)(fd:FuncData):Prop where
  ex:∃ (oc:Value) (od:Option Addr) (kV doc pm:Value) (an:Option Addr) (c9 ct:Value) (GW:Array (Option Value)),
    fd=PySem.W.fnOf x qual (ml st) (gE st) (ak st) .none kV doc pm an c9 ct/\K.lookup f=some ⟨oc,od,.func fd,GW⟩/\PySem.W.codeIn K c9 qual=true
  kp:PySem.W.keepIn K (.ref f)=true
section
variable {P:Program} {w:World} {K:PySem.W.Frag} {mg:Str->Option Value} {base:Heap}
theorem sk.ok{x qual:Str}{st:Stmt}{f:Addr}{fd:FuncData}{N ps:List Str}{k:Nat}{sp:Sp}(F:sk K x qual st f fd)(S:aA N ps (ak st))(len:∀ vs H Q E,sp vs H Q E->vs.length=ps.length)
    (uB:∀ (c9:Value) (A:Around) (outer:List Env) (s:Shared) (H:Hp) (vs:List V) (Q:VK) (E:XK),eZ k (A.deeper (envOfC qual (ak st) s.heap.objs.size f c9))->sp vs H Q E ->
      ∃ t,ju (nG yI P w K mg base N qual (ak st) f c9 A outer s H E).nox (gE st) t/\t { nx:=fun _ H'=>Q .non H',rt:=Q } (start N vs) H):aQ P w K mg base yI (k+1) f fd ps sp:=by
  obtain⟨oc,od,kV,doc,pm,an,c9,ct,GW,rfl,lk,qF⟩:=F.ex
  refine KR lk qF S len fun A outer s H vs Q E hr Gy=>?_
  obtain⟨t,h,q⟩:=uB c9 A outer s H vs Q E hr Gy
  exact⟨t,h.nox,q⟩
end
theorem Jy{n:Nat}(h:n<=1000):n<sizeLine:=Nat.lt_of_le_of_lt h (by decide)
section
variable {X:Cx}
theorem pv(i:Nat){x:Str}{pos:Pos}(hN:X.N[i]?=some x:=by rfl)(hv:Hw X.env.scope x:=by first | exact Or.inl rfl | exact Or.inr (Or.inl rfl) | exact Or.inr (Or.inr rfl))(hd:(x==("__debug__":Str))=false:=by decide)
    (qF:(x==("__classdict__":Str))=false:=by decide):PE X (.Name x pos) (Qd i):=aW hN hv hd qF
end
theorem HJ{A B:Prop}(h:B):if false=true then A else B:=by
  rw[if_neg Bool.false_ne_true]
  exact h
theorem Sh{A B:Prop}(h:A):if true=true then A else B:=by
  rw[if_pos rfl]
  exact h
def bP(H H':Hp):Prop:=∀ b o,H b=some o->H' b=some o
theorem bP.refl(H:Hp):bP H H:=fun _ _ h=>h
theorem bP.trans{H H1 H2:Hp}(a:bP H H1)(b:bP H1 H2):bP H H2:=fun c o h=>b c o (a c o h)
theorem bP.seq{K:PySem.W.Frag}{H H':Hp}{a:Addr}{xs:List V}(e:bP H H')(h:fW K H a xs):fW K H' a xs:=by
  rcases h with (h | ⟨o,h⟩) | h
  · exact .inl (.inl (e _ _ h))
  · exact .inl (.inr ⟨o,e _ _ h⟩)
  · exact .inr h
end L2
set_option maxHeartbeats 4000000
namespace L2
open PySem PySem.Spec PyProof.Rows
theorem dz.there{P:Program}{w:World}{H:Hp}{h:Heap}{a:Addr}{o:HO}(x:dz P w H h a o):∃ u,h.get? a=some u:=by
  cases o with
  | lst xs=>obtain⟨_,_,_,_,e⟩:=x;exact⟨_,e⟩
  | tup xs=>obtain⟨_,_,_,o,e,_⟩:=x;exact⟨_,e⟩
  | dK kvs=>obtain⟨_,_,_,_,o,_,_,e,_⟩:=x;exact⟨_,e⟩
  | dT kvs=>obtain⟨_,_,_,_,o,_,_,e,_⟩:=x;exact⟨_,e⟩
  | set S n=>obtain⟨o,_,_,_,e,_⟩:=x;exact⟨_,e⟩
  | ins C dx fs=>obtain⟨_,_,_,e,_⟩:=x;exact⟨_,e⟩
  | own y=>exact x
  | xd fs=>obtain⟨_,⟨_,_,_,e,_⟩,_⟩:=x;exact⟨_,e⟩
  | rng lo hi=>obtain⟨_,_,_,e⟩:=x;exact⟨_,e⟩
  | frz ob u=>obtain⟨e,_⟩:=x;exact⟨_,e⟩
  | tbl ps=>exact⟨_,x⟩
  | met f y=>exact⟨_,x⟩
  | ext φ=>exact x.2.1
structure TR(P:Program)(w:World)(outer:List Env)(H:Hp)(s:Shared)(H':Hp)(B:Heap)(s':Shared):Prop where
  os:s'.os=s.os
  bare:AllBare s'.gens
  un:Un (vK outer) [] H H' s.heap s'.heap
  kb:∀ b o,s.heap.get? b=some o->H b=none->b ∉ vK outer->B.get? b=some o
  kt:∀ b o,s.heap.get? b=some o->b ∉ vK outer->∃ o',B.get? b=some o'
  cQ:so P w H' B
def iP(P:Program)(w:World):wQ:=fun outer H s E e s'=>
  ∃ (ea:Addr) (cls a0:Value) (H':Hp) (B:Heap),e=.ref ea/\TR P w outer H s H' B s'/\Heap.FlyingW B outer ea cls a0 s'.heap/\E cls none H'
section
variable {P:Program} {w:World} {outer:List Env} {H H':Hp} {s s':Shared} {B h2 base:Heap}
theorem TR.land{ea:Addr}{cls a0:Value}{l:List Env}(F:TR P w outer H s H' B s')(fr:s.heap.FunFrames base outer)(Ig:∀ b∈vK outer,H b=none)(fl:Heap.FlyingW B l ea cls a0 h2)(up:s'.heap.UpToSlots h2):Un (vK outer) [] H H' s.heap h2:=by
  have sl:∀ b o,s.heap.get? b=some o->b∈vK outer->∃ sl,h2.get? b=some { o with slots:=sl }:=fun b o e hb=>by
    obtain⟨_,o',ho',hd⟩:=fr.mem hb
    rw[e] at ho'
    cases ho'
    obtain⟨sl,e1⟩:=F.un.slot b o e (Ig b hb) hb (by simp)
    obtain⟨sl',e2⟩:=up b _ e1 hd
    exact⟨sl',e2⟩
  refine⟨fun b o e n hb _=>fl.1 b o (F.kb b o e n hb),fun b o e n hb _=>sl b o e hb,F.un.free,fun b o e _=>?_,F.un.v7,F.un.uS,F.un.vv⟩
  by_cases hb:b∈vK outer
  · obtain⟨q,e1⟩:=sl b o e hb
    exact⟨_,e1⟩
  · obtain⟨o',e1⟩:=F.kt b o e hb
    exact⟨o',fl.1 b o' e1⟩
end
def Gs(X:Cx)(E:St->XK):Prop:=∀ (pins:List (Addr×Obj)) (σ:St) (H:Hp) (s:Shared) (ea:Addr) (cls:Value) (args:List Value) (h':Heap),
  Inv X pins σ H s->Heap.MadeExcOf s.heap h' ea cls args->E σ cls none H->X.xe (.ref ea) { s with heap:=h' }
def gA(CX:wQ)(X:Cx)(E:St->XK):Prop:=∀ (pins:List (Addr×Obj)) (σ:St) (H:Hp) (s:Shared) (e:Value) (s':Shared),Inv X pins σ H s->CX X.stack H s (E σ) e s'->X.xe e s'
section
variable {X:Cx} {pins:List (Addr×Obj)} {σ:St} {H:Hp} {s:Shared}
theorem Inv.notStk(I:Inv X pins σ H s){b:Addr}{o:Obj}(e:X.s₀.heap.get? b=some o)(hb:b ∉ X.fs):b ∉ vK X.stack:=fun z=>by
  rcases List.mem_cons.mp (I.stkSub b z) with q | q
  · exact absurd (Nat.lt_of_lt_of_le (Heap.lt_size e) I.ok.above) (by rw[q];exact Nat.lt_irrefl _)
  · exact hb q
theorem Inv.fly(I:Inv X pins σ H s){h':Heap}{ea:Addr}{cls:Value}{args:List Value}(M:Heap.MadeExcOf s.heap h' ea cls args):
    TR X.prog X.w X.stack H s H (PySem.W.hideAll s.heap (vK X.stack)) { s with heap:=h' }:=by
  refine⟨rfl,I.bare,Un.kept M.keeps,fun b o e _ hb=>PySem.W.hideAll_get _ e hb,fun b o e hb=>⟨o,PySem.W.hideAll_get _ e hb⟩,fun a o e=>?_⟩
  refine (I.cQ a o e).stay (fun b u hb q=>PySem.W.hideAll_get _ q fun z=>?_) (fun _ q=>q) fun _ _ q=>q
  have n:=I.stkFree b z
  rcases hb with rfl | hb
  · rw[n] at e;cases e
  · rw[n] at hb;cases hb
end
section
variable {P:Program} {w:World} {K:PySem.W.Frag} {mg:Str->Option Value} {base:Heap} {N:List Str} {qual:Str} {scope:Scope} {f:Addr} {cd:Value} {A:Around} {outer:List Env} {s:Shared} {H:Hp} {E:XK}
theorem Jq{pins:List (Addr×Obj)}{σ:St}{H1 H':Hp}{s1 s':Shared}{B h2:Heap}{ea:Addr}{cls a0:Value}(I:Inv (nG (iP P w) P w K mg base N qual scope f cd A outer s H E) pins σ H1 s1)
    (F:TR P w (envOfC qual scope s.heap.objs.size f cd::outer) H1 s1 H' B s') (fl:Heap.FlyingW B outer ea cls a0 h2) (up:s'.heap.UpToSlots h2):TR P w outer H s H' B { s' with heap:=h2 }:=by
  have u:=F.land I.stack I.stkFree fl up
  have J:=I.call (h':=h2) (g':=s'.gens) (t':=s'.toks) (d':=s'.drawn) (ch:=[]) u (F.cQ.kept fl.1) F.bare (fun b z=>absurd z (by simp))
  refine⟨F.os.trans I.os,F.bare,J.base,fun b o e n hb=>?_,fun b o e hb=>?_,F.cQ⟩
  · exact F.kb b o (I.base.keep b o e n hb (by simp [nG])) (I.base.free b o e n (by simp [nG])) (I.notStk e hb)
  · obtain⟨o',e1⟩:=I.base.there b o e (by simp [nG])
    exact F.kt b o' e1 (I.notStk e hb)
theorem gq:Gs (nG (iP P w) P w K mg base N qual scope f cd A outer s H E) (fun _=>E):=by
  intro pins σ H1 s1 ea cls args h' I M hE
  have F:=I.fly M
  show wpAny (model P w) _ (leaving (envOfC qual scope s.heap.objs.size f cd) (.ref ea)) _ _ _
  refine wpAny_leaves_madeW (base:=PySem.W.hideAll s1.heap (vK (envOfC qual scope s.heap.objs.size f cd::outer))) (h:=s1.heap) I.ok.frames rfl (fun b o q=>PySem.W.of_hideAll _ q)
    (PySem.W.funFrames_hide I.stack fun env he b hb=>List.mem_filterMap.mpr ⟨env,he,hb⟩) M fun h2 t fl _ _ up=>?_
  exact⟨ea,cls,.ref t,H1,_,rfl,Jq I F fl up,fl,hE⟩
theorem af:gA (iP P w) (nG (iP P w) P w K mg base N qual scope f cd A outer s H E) (fun _=>E):=by
  intro pins σ H1 s1 e s' I h
  obtain⟨ea,cls,a0,H',B,rfl,F,fl,hE⟩:=h
  show wpAny (model P w) _ (leaving (envOfC qual scope s.heap.objs.size f cd) (.ref ea)) _ _ s'
  refine wpAny_leaves_onW I.ok.frames rfl fl fun h2 Xd up=>?_
  exact⟨ea,cls,a0,H',B,rfl,Jq I F Xd up,Xd,hE⟩
end
theorem sk.okX{P:Program}{w:World}{K:PySem.W.Frag}{mg:Str->Option Value}{base:Heap}{x qual:Str}{st:Stmt}{f:Addr}{fd:FuncData}{N ps:List Str}{k:Nat}{sp:Sp}(F:sk K x qual st f fd)(S:aA N ps (ak st))(len:∀ vs H Q E,sp vs H Q E->vs.length=ps.length)
    (uB:∀ (c9:Value) (A:Around) (outer:List Env) (s:Shared) (H:Hp) (vs:List V) (Q:VK) (E:XK),eZ k (A.deeper (envOfC qual (ak st) s.heap.objs.size f c9))->sp vs H Q E ->
      ∃ t,ju (nG (iP P w) P w K mg base N qual (ak st) f c9 A outer s H E) (gE st) t/\t { nx:=fun _ H'=>Q .non H',rt:=Q } (start N vs) H):aQ P w K mg base (iP P w) (k+1) f fd ps sp:=by
  obtain⟨oc,od,kV,doc,pm,an,c9,ct,GW,rfl,lk,qF⟩:=F.ex
  exact KR lk qF S len fun A outer s H vs Q E hr Gy=>uB c9 A outer s H vs Q E hr Gy
theorem jj{P:Program}{w:World}{K:PySem.W.Frag}{mg:Str->Option Value}{base:Heap}{N:List Str}{qual:Str}{scope:Scope}{f:Addr}{cd:Value}{A:Around}{outer:List Env}{s:Shared}{H:Hp}{E:XK}:
    PassesOwn (model P w) (nG (iP P w) P w K mg base N qual scope f cd A outer s H E).A (nG (iP P w) P w K mg base N qual scope f cd A outer s H E).env (nG (iP P w) P w K mg base N qual scope f cd A outer s H E).xe:=PassesOwn.leaving
theorem aQ.cxf{P:Program}{w:World}{K:PySem.W.Frag}{mg:Str->Option Value}{base:Heap}{k:Nat}{f:Addr}{fd:FuncData}{ps:List Str}{sp:Sp}(F:aQ P w K mg base yI k f fd ps sp)(CX:wQ):aQ P w K mg base CX k f fd ps sp:=
  ⟨F.len,fun A outer s H args us vs Q E hr he hb hv hs=>codeAny_mono (F.run A outer s H args us vs Q E hr he hb hv hs) fun r s' q=>by
    cases r with
    | error e=>exact False.elim q
    | ok fl=>cases fl <;> exact q⟩
def Mu(sp:Sp)(dvs:List V)(E:St->XK)(t:TA):TE:=fun σ H Q=>t σ H fun vs H1=>sp (vs++dvs) H1 Q (E σ)
section
variable {X:Cx} {CX:wQ} {k:Nat} {f C:Addr} {fd:FuncData} {ps:List Str} {sp:Sp} {dvs:List V} {ds:List Value} {E:St->XK} {x m:Str} {p pos apos:Pos} {e o:Expr} {es:List Expr} {ta:TE} {t:TA}
theorem xV{pins:List (Addr×Obj)}{σ:St}{H:Hp}{s:Shared}{Q:VK}{us:List Value}{vs:List V}(F:aQ X.prog X.w X.K X.mg X.base CX k f fd ps sp)(hr:eZ k X.A)(hb:Binds X.K fd ps ds)(hd:bf dvs ds)(hx:gA CX X E)
    (I:Inv X pins σ H s) (r:bf vs us) (h:sp (vs++dvs) H Q (E σ)):wpAny (model X.prog X.w) X.A (call (.ref f) us) (EP X pins σ Q) X.xe s:=by
  have r2:bf (vs++dvs) (us++ds):=r.append hd
  have hl:(us++ds).length=ps.length:=by rw[← r2.length];exact F.len _ _ _ _ h
  refine wpAny_call (codeAny_mono (F.run X.A X.stack s H ⟨us,[]⟩ (us++ds) (vs++dvs) Q (E σ) hr I.env0 (hb s us I.kIn hl) r2 h) fun r s' hq=>?_)
  cases r with
  | error e=>exact hx pins σ H s e s' I hq
  | ok fl=>
    cases fl with
    | ret u=>exact I.after hq
    | next=>exact False.elim hq
    | brk=>exact False.elim hq
    | cont=>exact False.elim hq
theorem lH(F:aQ X.prog X.w X.K X.mg X.base CX k f fd ps sp)(hr:eZ k X.A)(hg:Gl X x)(hm:X.mg x=some (.ref f))(hk:PySem.W.keepIn X.K (.ref f)=true)(hb:Binds X.K fd ps ds)(hd:bf dvs ds)(hx:gA CX X E)
    (ha:PA X (e::es) t) (qc:(x==("__debug__":Str))=false:=by decide) (he:starEach (e::es) X.env=(false,eval e X.env)::starEach es X.env:=by rfl) (qz:(backTo pos (starEach es X.env)).any (·.1)=false:=by rfl) :
    PE X (.Call (.Name x p) (e::es) [] pos) (Mu sp dvs E t):=by
  intro pins s σ H Q I h
  refine wpAny_Call_Name_kw (nM I hg hm ?_ qc)
  refine PySem.W.callWith_K (h₀:=X.base) I.ok.mod.NN hk (eM (ha pos pins s σ H _ I h) fun us s1 ⟨vs,H1,I1,r,q⟩=>⟨I1.kIn,?_⟩) he qz
  exact xV F hr hb hd hx I1 r q
end
abbrev PY:List Value:=[.type "ValueError",.type "Exception",.type "BaseException",.type "object"]
theorem wg{K:PySem.W.Frag}{h:Heap}{C:Addr}{bmB:List Value}{newId:String}(X:K.In h)(q:PySem.W.excIn K C bmB newId=true):
    ∃ bm N nm q bs hdct sn sub ab col dd k0 k1 k2 k3 k5 mN,h.get? C=some (excClassObj nm q C N bs bm hdct sn sub ab col dd k0 k1 k2 k3 k5 newId)/\h.Ns N mN/\mN "__init__"=none/\OwnTail h bmB bm:=by
  unfold PySem.W.excIn at q
  split at q
  · rename_i dd cd sl ho
    split at q
    · rename_i C' bm k0 k1 k2 k3 n k5 hm hs
      simp only [Bool.and_eq_true,beq_iff_eq,Bool.not_eq_true'] at q
      obtain⟨⟨⟨⟨⟨rfl,rfl⟩,hdel⟩,ht⟩,cQ⟩,hni⟩:=q
      obtain⟨nm,bs,mro,ns,qn,hd,sn,sub,ab,col,del⟩:=cd
      dsimp only at hm hdel cQ hni
      subst hm hdel
      have hsl:sl=#[k0,k1,k2,k3,some (.builtin n),k5]:=by
        obtain⟨l⟩:=sl
        simp only at hs
        rw[hs]
      subst hsl
      exact⟨bm,ns,nm,qn,bs,hd,sn,sub,ab,col,dd,k0,k1,k2,k3,k5,_,X _ _ ho,.of_isNs (PySem.W.isNs_of_in X cQ),PySem.W.nsMap_none_of_in X cQ hni,PySem.W.tail_of_in X ht⟩
    · cases q
  · cases q
def Qo(E:St->XK)(C:Addr)(t:TA):TS:=fun _ σ H=>t σ H fun vs H1=>vs.length<=sizeLine/\E σ (.ref C) none H1
theorem yq{X:Cx}{E:St->XK}{C:Addr}{x:Str}{np gw pos:Pos}{e:Expr}{es:List Expr}{t:TA}(hc:X.calm=true)(hR:Gs X E)(q:PySem.W.excIn X.K C PY "ValueError.__new__"=true)(hg:Gl X x)(hm:X.mg x=some (.ref C))(ha:PA X (e::es) t)
    (qc:(x==("__debug__":Str))=false:=by decide) (he:starEach (e::es) X.env=(false,eval e X.env)::starEach es X.env:=by rfl) (qz:(backTo gw (starEach es X.env)).any (·.1)=false:=by rfl) :
    PS X (.Raise (some (.Call (.Name x np) (e::es) [] gw)) none pos) (Qo E C t):=by
  intro pins s σ H D I h
  obtain⟨tl,N,nm,q,bs,hdct,sn,sub,ab,col,dd,k0,k1,k2,k3,k5,mN,hC,hN,hni,T⟩:=wg I.ok.mod.NN q
  refine wpAny_Raise_call_subT (C:=C) (nm:=nm) (q:=q) (N:=N) (bs:=bs) (bm:=tl) (hdct:=hdct) (sn:=sn) (sub:=sub) (ab:=ab) (col:=col) (dd:=dd) (k0:=k0) (k1:=k1) (k2:=k2) (k3:=k3) (k5:=k5)
    PySem.F.excBase_ValueError (mN:=mN) (T.hasType PySem.F.excBase_ValueError.hasBase) (I.ok.hd hc) (by rw[he];show (false || (backTo gw (starEach es X.env)).any (·.1))=false;rw[qz];rfl) hni (nM I hg hm ⟨rfl,?_⟩ qc)
  have h1:=ha gw pins s σ H _ I h
  rw[he] at h1 ⊢
  refine Calls.evalArgs_plain (eM h1 fun us s2 ⟨vs,H2,I2,r,z,hE⟩=>⟨rfl,by rw[← r.length];exact z,I2.bk _ _ hC,hN.keeps I2.bk,T.keeps I2.bk,fun h' ea M=>?_⟩)
  exact hR pins σ H2 s2 ea (.ref C) us h' I2 M hE
end L2
namespace L2
open PySem PySem.Spec PyProof.Rows
section
variable {X:Cx} {pins:List (Addr×Obj)} {σ:St} {H:Hp} {s:Shared}
theorem Inv.adopt{a:Addr}{o:HO}(I:Inv X pins σ H s)(hn:H a=none)(h0:X.s₀.heap.get? a=none)(hL:a≠X.env.locals)(hC:∀ x c,X.env.cells.lookup x=some c->c≠a)(hp:∀ p∈X.pn++pins,p.1≠a)(ok:dz X.prog X.w (upd H a o) s.heap a o):Inv X pins σ (upd H a o) s:=by
  refine⟨I.ok,I.os,I.bare,⟨I.base.keep,I.base.slot,fun b u e n hx=>?_,I.base.there,fun b xs q=>?_,fun b u xs q=>?_,fun b ps q=>?_⟩,I.loc,I.cell,?_,fun x c e=>?_,fun p NA=>?_,fun b u e=>?_,I.len⟩
  · rw[aI (fun z=>by rw[z,h0] at e;cases e)];exact I.base.free b u e n hx
  · have z:=I.base.v7 b xs q
    rw[aI (aU z hn)];exact z
  · have z:=I.base.uS b u xs q
    rw[aI (aU z hn)];exact z
  · obtain⟨more,z⟩:=I.base.vv b ps q
    exact⟨more,by rw[aI (aU z hn)];exact z⟩
  · rw[aI (Ne.symm hL)];exact I.free
  · rw[aI (hC x c e)];exact I.jr x c e
  · obtain⟨e,n,ne,nf,d⟩:=I.pin p NA
    exact⟨e,by rw[aI (hp p NA)];exact n,ne,nf,d⟩
  · by_cases hb:b=a
    · subst hb;rw[aH] at e;cases e;exact ok
    · rw[aI hb] at e
      exact (I.cQ b u e).stay (fun c v _ q=>q) (fun c q=>by rw[aI (aU q hn)];exact q) fun c xs q=>by rw[aI (aU q hn)];exact q
theorem DF{M:Model}{A:Around}{E:Value->Shared->Prop}{i:Nat}{n:Str}{pos:Pos}{Q:Unit->Shared->Prop}(I:Inv X pins σ H s)(hN:X.N.Nodup)(hi:X.N[i]?=some n)(hk:X.env.scope.names.lookup n=some .local)
    (h:∀ s',Inv X pins (σ.set i none) H s'->Q () s'):wpAny M A (do bindName X.env n .none;unbindBehindTheSuite X.env n pos) Q E s:=by
  obtain⟨m,hn,hl⟩:=id I.loc
  have KM:(X.env.scope.kind==.class || (X.env.scope.kind==.module&&X.env.locals != X.env.globals))=false:=by rw[I.ok.kind];rfl
  have MJ:=I.MJ
  refine wpAny_nameGoes_keeps hk hn KM fun h' v hn' hs=>?_
  obtain⟨oL,_,_,hoL,_⟩:=id hn
  have tracked:so X.prog X.w H h':=fun b ob e=>by
    refine (I.cQ b ob e).stay (fun c w' hc q=>(hs.2 c ?_).trans q) (fun _ q=>q) fun _ _ q=>q
    rintro rfl
    rcases hc with rfl | hc
    · rw[I.free] at e;cases e
    · rw[I.free] at hc;cases hc
  have J:Inv X pins (σ.set i none) H { s with heap:=h' }:=by
    refine⟨I.ok,I.os,I.bare,⟨fun b o e n hb hx=>?_,fun b o e n hb hx=>?_,I.base.free,fun b o e hx=>?_,I.base.v7,I.base.uS,I.base.vv⟩,⟨_,hn',fun j y v' e1 e2 e3=>?_⟩,fun y c e=>?_,I.free,I.jr,fun p hp=>?_,tracked,by simpa using I.len⟩
    · exact (hs.2 b (Nat.ne_of_lt (Nat.lt_of_lt_of_le (Heap.lt_size e) I.ok.above))).trans (I.base.keep b o e n hb hx)
    · obtain⟨sl,e1⟩:=I.base.slot b o e n hb hx
      exact⟨sl,(hs.2 b (Nat.ne_of_lt (Nat.lt_of_lt_of_le (Heap.lt_size e) I.ok.above))).trans e1⟩
    · obtain⟨o',e1⟩:=I.base.there b o e hx
      exact⟨o',(hs.2 b (Nat.ne_of_lt (Nat.lt_of_lt_of_le (Heap.lt_size e) I.ok.above))).trans e1⟩
    · by_cases hj:j=i
      · subst hj
        rw[List.getElem?_set] at e2
        split at e2
        · split at e2 <;> cases e2
        · rename_i z;exact absurd rfl z
      · rw[List.getElem?_set_ne (Ne.symm hj)] at e2
        obtain⟨u',r',q⟩:=hl j y v' e1 e2 e3
        refine⟨u',r',?_⟩
        rcases q with ⟨k,e⟩ | ⟨k,c,e,z⟩
        · refine .inl ⟨k,?_⟩
          have:y≠n:=fun e=>hj (zJ hN e1 (e ▸ hi))
          simp [this,e]
        · exact .inr ⟨k,c,e,z.sameBut hs (MJ y c e)⟩
    · obtain⟨w',z⟩:=I.cell y c e
      exact⟨w',z.sameBut hs (MJ y c e)⟩
    · obtain⟨e,n,ne,nf,d⟩:=I.pin p hp
      exact⟨(hs.2 p.1 ne).trans e,n,ne,nf,d⟩
  exact h _ (J.tok _)
end
abbrev Cx.tr(X:Cx)(pn:List (Addr×Obj))(E:Value->Shared->Prop):Cx:={ X with pn:=pn,xe:=E }
abbrev Cx.sui(X:Cx)(pn:List (Addr×Obj))(ea:Addr):Cx:={ X with pn:=pn,xe:=fun _ _=>False,A:=X.A.mark (some (.ref ea)),calm:=false }
theorem Cx.Ok.tr{X:Cx}(ok:X.Ok)(pn:List (Addr×Obj))(E:Value->Shared->Prop):(X.tr pn E).Ok:=
  ⟨ok.mod,ok.kind,ok.glob,ok.blt,ok.above,ok.inj,ok.has,ok.NH,ok.hd,ok.frames,ok.PZ,ok.TV,ok.bs,ok.IW,ok.Dy,ok.FZ,ok.pK,ok.Ig⟩
theorem Cx.Ok.untr{X:Cx}{pn:List (Addr×Obj)}{E:Value->Shared->Prop}(ok:(X.tr pn E).Ok):X.Ok:=
  ⟨ok.mod,ok.kind,ok.glob,ok.blt,ok.above,ok.inj,ok.has,ok.NH,ok.hd,ok.frames,ok.PZ,ok.TV,ok.bs,ok.IW,ok.Dy,ok.FZ,ok.pK,ok.Ig⟩
theorem Cx.Ok.sui{X:Cx}(ok:X.Ok)(pn:List (Addr×Obj))(ea:Addr):(X.sui pn ea).Ok:=
  ⟨ok.mod,ok.kind,ok.glob,ok.blt,ok.above,ok.inj,ok.has,ok.NH,(fun z=>(nomatch z)),ok.frames,ok.PZ,ok.TV,ok.bs,ok.IW,ok.Dy,ok.FZ,ok.pK,ok.Ig⟩
section
variable {X:Cx} {pins yK pn:List (Addr×Obj)} {σ:St} {H:Hp} {s:Shared} {E:Value->Shared->Prop} {ea:Addr}
theorem Inv.tr(I:Inv X pins σ H s)(E:Value->Shared->Prop):Inv (X.tr (X.pn++pins) E) [] σ H s:=
  ⟨I.ok.tr _ E,I.os,I.bare,I.base,I.loc,I.cell,I.free,I.jr,fun p hp=>I.pin p (by simpa using hp),I.cQ,I.len⟩
theorem Inv.untr(I:Inv (X.tr (X.pn++pins) E) yK σ H s):Inv X pins σ H s:=
  ⟨I.ok.untr,I.os,I.bare,I.base,I.loc,I.cell,I.free,I.jr,fun p hp=>I.pin p (List.mem_append_left _ hp),I.cQ,I.len⟩
theorem Inv.sui(I:Inv X pins σ H s)(ea:Addr):Inv (X.sui (X.pn++pins) ea) [] σ H s:=
  ⟨I.ok.sui _ ea,I.os,I.bare,I.base,I.loc,I.cell,I.free,I.jr,fun p hp=>I.pin p (by simpa using hp),I.cQ,I.len⟩
theorem Inv.unsui(ok:X.Ok)(I:Inv (X.sui (X.pn++pins) ea) yK σ H s):Inv X pins σ H s:=
  ⟨ok,I.os,I.bare,I.base,I.loc,I.cell,I.free,I.jr,fun p hp=>I.pin p (List.mem_append_left _ hp),I.cQ,I.len⟩
end
def pX(ea C:Addr):Heap->Prop:=fun h=>∃ o vs,h.get? ea=some o/\o.cls=.ref C/\o.data=.fields vs
theorem Mc{P:Program}{w:World}{H:Hp}{h:Heap}{ea C:Addr}(e:pX ea C h):dz P w H h ea (.ext (pX ea C)):=
  ⟨e,let ⟨o,_,z,_⟩:=e;⟨o,z⟩,fun _ _ ⟨o,vs,a,b,c⟩ k=>⟨o,vs,k o a,b,c⟩⟩
theorem mI{M:Model}{A:Around}{E:Value->Shared->Prop}{h:Heap}{g:Array GenState}{d:Drawn}{t:Nat}{os:OsState}{e:Addr}{oe:Obj}{Q:Bool->Shared->Prop}
    {nm q:Str} {C N:Addr} {bs bm:List Value} {hdct:Bool} {sn:List Str} {sub:List Value} {ab:Bool} {col:Option Bool} {dd:Option Addr} {k0 k1 k2 k3 k5:Option Value} {newId:String}
    {nm' q':Str} {C' N':Addr} {bs' XB:List Value} {PF:Bool} {sn':List Str} {UD:List Value} {ab':Bool} {Ua:Option Bool} {W2:Option Addr} {k0' k1' k2' k3' k5':Option Value} {Sa:String}
    (hC:h.get? C=some (excClassObj nm q C N bs bm hdct sn sub ab col dd k0 k1 k2 k3 k5 newId)) (XF:h.get? C'=some (excClassObj nm' q' C' N' bs' XB PF sn' UD ab' Ua W2 k0' k1' k2' k3' k5' Sa))
    (he:h.get? e=some oe) (KM:oe.cls=.ref C) (nI:XB.contains (.type "BaseException")=true) (hcC:(Value.ref C::bm).contains (.ref C')=true)
    (hq:Q true ⟨h,g,d,t,os⟩):wpAny M A (excMatches (.ref e) (.ref C')) Q E ⟨h,g,d,t,os⟩:=by
  have hcB:(Value.ref C'::XB).contains (.type "BaseException")=true:=by rw[List.contains_cons,nI,Bool.or_true]
  have f:=tc_notTuple
  unfold excMatches
  repeat (first | (with_reducible refine wpAny_loadPart_at he ?_;rw[KM]) | with_reducible refine wpAny_loadPart_at XF ?_ | (with_reducible refine wpAny_isSubtype_exc XF ?_;rw[hcB]) | (with_reducible refine wpAny_isSubtype_exc hC ?_;rw[hcC]) | wp_step)
  exact hq
def KJ(i:Nat)(D:Ends):Ends:=⟨fun σ H=>D.nx (σ.set i none) H,D.rt,fun σ H=>D.bk (σ.set i none) H,fun σ H=>D.ct (σ.set i none) H⟩
def Jc(K:PySem.W.Frag)(CP:Addr)(i:Nat)(ts:TS)(D:Ends):St->XK:=fun σ cls _ H'=>∃ C,cls=.ref C/\PySem.W.excIn K C PY "ValueError.__new__"=true/\PySem.W.mroIn K C (.ref CP)=some true /\
  ∀ ea,H' ea=none->ts (KJ i D) (σ.set i (some (.ref ea))) (upd H' ea (.ext (pX ea C)))
theorem Rx{X:Cx}{i:Nat}{n x:Str}{CP:Addr}{body:List Stmt}{b₀:Stmt}{Me:List Stmt}{np Tj pos:Pos}{tb:(St->XK)->TS}{ts:TS}
    (hex:X.ex=[]) (wX:X.stack=X.env::X.outer) (WC:X.env.frame=some X.env.locals) (hN:X.N.Nodup) (hi:X.N[i]?=some n) (hk:X.env.scope.names.lookup n=some .local)
    (hg:Gl X x) (hm:X.mg x=some (.ref CP)) (qP:PySem.W.excIn X.K CP PY "ValueError.__new__"=true)
    (hb:∀ pn xe E,gA (iP X.prog X.w) (X.tr pn xe) E->ju (X.tr pn xe) body (tb E))
    (hs:∀ pn ea,ju (X.sui pn ea) (b₀::Me) ts) (qc:(x==("__debug__":Str))=false:=by decide) :
    PS X (.Try body [.ExceptHandler (some (.Name x np)) (some n) (b₀::Me) Tj] [] [] pos) (fun D σ H=>tb (Jc X.K CP i ts D) D σ H):=by
  intro pins s σ H D I h
  refine wpAny_Try_except ?_
  have pass:∀ xe,xe=(fun e s₁=>wpAny (model X.prog X.w) X.A (noteFrame e X.env) (fun _ s₂=>wpAny (model X.prog X.w) X.A (setFlight e none) (fun _ s₃=>wpAny (model X.prog X.w) X.A (handleBy e X.env [.ExceptHandler (some (.Name x np)) (some n) (b₀::Me) Tj]) (SP X pins D) X.xe s₃) X.xe s₂) X.xe s₁) ->
      gA (iP X.prog X.w) (X.tr (X.pn++pins) xe) (Jc X.K CP i ts D):=by
    rintro xe rfl yK σ1 H1 s1 e s' I1 hcx
    obtain⟨ea,cls,a0,H',B,rfl,F,fl,C,rfl,qC,hmro,Yx⟩:=hcx
    have Xd:Heap.FlyingW B (X.env::X.outer) ea (.ref C) a0 s'.heap:=by rw[← wX];exact fl
    have Zf:X.A.frames=some (X.env::X.outer):=by rw[← wX];exact I1.ok.frames
    show wpAny (model X.prog X.w) X.A (noteFrame (.ref ea) X.env) _ _ s'
    refine wpAny_looks_onW Zf WC Xd fun h4 held up4=>?_
    refine wpAny_landsW held fun h5 fl5 up5=>?_
    -- at h5
    have Yw:Heap.FlyingW B X.stack ea (.ref C) a0 h5:=by rw[wX];exact fl5
    have J5:=I1.call (h':=h5) (g':=s'.gens) (t':=s'.toks) (d':=s'.drawn) (ch:=[]) (F.land I1.stack I1.stkFree Yw (up4.trans up5)) (F.cQ.kept fl5.1) F.bare (fun b z=>absurd z (by simp))
    have e5:({ s1 with heap:=h5,gens:=s'.gens,drawn:=s'.drawn,toks:=s'.toks }:Shared)={ s' with heap:=h5 }:=by
      obtain⟨hh,gg,dd,tt,oo⟩:=s'
      have:oo=s1.os:=F.os
      subst this
      rfl
    rw[e5] at J5
    have K5:Inv (X.sui (X.pn++pins) ea) [] σ1 H' { s' with heap:=h5 }:=(J5.untr).sui ea
    obtain⟨bm,N,nm,q,bs,hdct,sn,sub,ab,col,dd,k0,k1,k2,k3,k5,mN,hC,_,_,T⟩:=wg K5.kIn qC
    obtain⟨XB,N',nm',q',bs',PF,sn',UD,ab',Ua,W2,k0',k1',k2',k3',k5',mN',XF,_,_,T'⟩:=wg K5.kIn qP
    obtain⟨ob,hob,hobc⟩:=fl5.there
    have YG:(Value.ref C::bm).contains (.ref CP)=true:=by
      obtain⟨cd,ha,M'⟩:=Option.bind_eq_some_iff.mp hmro
      unfold PySem.W.clsIn at ha
      split at ha
      · rename_i c' d' cd' sl' ho
        cases ha
        have z:=(K5.kIn _ _ ho).symm.trans hC
        cases z
        split at M'
        · cases M'
        · exact Option.some.inj M'
      · cases ha
    refine wpAny_handleBy_cons (codeAny_handlers_test ?_) (by intro q;cases q)
    refine nM (X:=X.sui (X.pn++pins) ea) K5 hg hm ?_ qc
    refine mI hC XF hob hobc (T'.hasType (by rfl)) YG (codeAny_handlers_suite_as ?_)
    refine lands_againW fl5 fun h6 fl6 up6=>?_
    have Zk:Heap.FlyingW B X.stack ea (.ref C) a0 h6:=by rw[wX];exact fl6
    have J6:=I1.call (h':=h6) (g':=s'.gens) (t':=s'.toks) (d':=s'.drawn) (ch:=[]) (F.land I1.stack I1.stkFree Zk ((up4.trans up5).trans up6)) (F.cQ.kept fl6.1) F.bare (fun b z=>absurd z (by simp))
    have e6:({ s1 with heap:=h6,gens:=s'.gens,drawn:=s'.drawn,toks:=s'.toks }:Shared)={ s' with heap:=h6 }:=by
      obtain⟨hh,gg,dd,tt,oo⟩:=s'
      have:oo=s1.os:=F.os
      subst this
      rfl
    rw[e6] at J6
    have K6:Inv (X.sui (X.pn++pins) ea) [] σ1 H' { s' with heap:=h6 }:=(J6.untr).sui ea
    obtain⟨oe,ws,hoe,hoec,hoed,_⟩:=fl6.first
    have nH:H' ea=none:=by
      cases z:H' ea with
      | none=>rfl
      | some u=>
        obtain⟨v,hv⟩:=(F.cQ ea u z).there
        rw[fl.2.1] at hv;cases hv
    have nfr:∀ b,b∈vK X.stack->b≠ea:=fun b hb z=>by
      obtain⟨_,o,ho,hd⟩:=K6.stack.mem hb
      rw[z] at ho
      have:oe=o:=Option.some.inj (hoe.symm.trans ho)
      subst this
      exact hd ws hoed
    have n0:X.s₀.heap.get? ea=none:=by
      cases z:X.s₀.heap.get? ea with
      | none=>rfl
      | some u=>
        by_cases hb:ea∈vK X.stack
        · exact absurd rfl (nfr ea hb)
        · obtain⟨o1,ho1⟩:=I1.base.there ea u z (by show ea ∉ X.ex;rw[hex];simp)
          obtain⟨o2,ho2⟩:=F.kt ea o1 ho1 hb
          rw[fl.2.1] at ho2;cases ho2
    have K7:Inv (X.sui (X.pn++pins) ea) [] σ1 (upd H' ea (.ext (pX ea C))) { s' with heap:=h6 }:=by
      refine K6.adopt nH n0 (fun z=>?_) (fun y c hc z=>?_) (fun p hp z=>?_) (Mc ⟨oe,ws,hoe,hoec,hoed⟩)
      · obtain⟨m,⟨o,es,ep,ho,hd,_⟩,_⟩:=K6.loc
        rw[← z] at ho
        have:oe=o:=Option.some.inj (hoe.symm.trans ho)
        subst this
        rw[hoed] at hd;cases hd
      · obtain⟨v,o,ho,hd⟩:=K6.cell y c hc
        rw[z] at ho
        have:oe=o:=Option.some.inj (hoe.symm.trans ho)
        subst this
        rw[hoed] at hd;cases hd
      · have NA:p∈(X.tr (X.pn++pins) (fun _ _=>False)).pn++yK:=List.mem_append_left _ (by simpa using hp)
        obtain⟨e1,n1,ne1,nf1,_⟩:=I1.pin p NA
        have hb:p.1 ∉ vK X.stack:=fun q=>by
          rcases List.mem_cons.mp (I1.stkSub _ q) with r | r
          · exact ne1 r
          · exact nf1 r
        have:=F.kb _ _ e1 n1 hb
        rw[z,fl.2.1] at this;cases this
    refine qf (X:=X.sui (X.pn++pins) ea) K7 hN hi (.inl hk) (v:=.ref ea) rfl (fun s7 K8=>?_) (.inr hk)
    refine wpAny_mono (hs (X.pn++pins) ea [] s7 _ _ (KJ i D) K8 (Yx ea nH)) (fun f s8 q=>?_) fun _ _ z=>False.elim z
    show wpAny _ X.A (do bindName X.env n .none;unbindBehindTheSuite X.env n Tj) (fun _ s₃=>SP X pins D f s₃) X.xe s8
    cases f with
    | next=>
      obtain⟨σ',H2,I2,q⟩:=q
      exact DF (I2.unsui I.ok) hN hi hk fun s9 I9=>⟨_,_,I9,q⟩
    | brk=>
      obtain⟨σ',H2,I2,q⟩:=q
      exact DF (I2.unsui I.ok) hN hi hk fun s9 I9=>⟨_,_,I9,q⟩
    | cont=>
      obtain⟨σ',H2,I2,q⟩:=q
      exact DF (I2.unsui I.ok) hN hi hk fun s9 I9=>⟨_,_,I9,q⟩
    | ret u=>
      obtain⟨v,σ',H2,I2,r,q⟩:=q
      exact DF (I2.unsui I.ok) hN hi hk fun s9 I9=>⟨v,_,_,I9,r,q⟩
  refine wpAny_mono (hb (X.pn++pins) _ _ (pass _ rfl) [] s σ H D (I.tr _) h) (fun f s1 q=>?_) fun e s1 q=>q
  cases f with
  | next=>
    obtain⟨σ',H2,I2,q⟩:=q
    exact wpAny_execs_nil ⟨σ',H2,I2.untr,q⟩
  | brk=>
    obtain⟨σ',H2,I2,q⟩:=q
    exact⟨σ',H2,I2.untr,q⟩
  | cont=>
    obtain⟨σ',H2,I2,q⟩:=q
    exact⟨σ',H2,I2.untr,q⟩
  | ret u=>
    obtain⟨v,σ',H2,I2,r,q⟩:=q
    exact⟨v,σ',H2,I2.untr,r,q⟩
end L2
namespace L2
open PySem PySem.Spec PyProof.Rows
section
variable {X:Cx}
theorem Sb:gJ X (compareOp .Is) (fun x y H Q=>∃ a b,x=.bl a/\y=.bl b/\Q (.bl (a==b)) H):=by
  intro pins s σ H x y v u Q I rx ry h
  obtain⟨a,b,rfl,rfl,q⟩:=h
  cases rx
  cases ry
  exact is_bool (bU I q rfl)
theorem JS:gJ X (compareOp .IsNot) (fun x y H Q=>∃ a b,x=.bl a/\y=.bl b/\Q (.bl (a != b)) H):=by
  intro pins s σ H x y v u Q I rx ry h
  obtain⟨a,b,rfl,rfl,q⟩:=h
  cases rx
  cases ry
  exact isnot_bool (bU I q rfl)
end
structure ya(K:PySem.W.Frag)(C:Addr):Prop where
  ga:PySem.W.findIn K (.ref C) "__getattribute__"=some (some (.builtin "BaseException.__getattribute__"))
  gt:PySem.W.findIn K (.ref C) "__getattr__"=some none
  cl:PySem.W.findIn K (.ref C) "__class__"=some (some (.builtin "object.__class__"))
  sp:PySem.W.specialIn K (.builtin "object.__class__") "__get__"=some (some (.builtin "getset_descriptor.__get__"))
  tk:PySem.W.takesIn K (.builtin "object.__class__")=some true
  ob:PySem.W.mroIn K C (.type "object")=some true
  be:PySem.W.mroIn K C (.type "BaseException")=some true
section
open PySem.W PySem.Calls Builtin Builtin.ObjectAttr Builtin.Getset_descriptor
variable {prog:Program} {w:World} {A:Around} {E:Value->Shared->Prop} {s:Shared} {K:Frag} {x C:Addr}
theorem xo{M:Model}{h:Heap}{self g a:Value}{name:Str}(X:K.In h)(ha:findIn K (.ref C) name=some (some a))(hg:specialIn K a "__get__"=some (some g))(ht:takesIn K a=some true):
    Looks M h (Builtin.ObjectAttr.find self (.ref C) name) (Found.bind g a):=by
  have L1:=looks_findIn (M:=M) X ha
  have L2:Looks M h (getOf (some a)) (some g):=looks_specialIn X hg
  have L3:=looks_takesIn (M:=M) X ht
  exact L1.andThen (L2.andThen ((show Looks M h (dataDescriptor? (some a) (some g)) (some (g,a)) from L3.andThen .now).andThen (Looks.tag .now)))
theorem AC{tp:Value}{R:Result->Shared->Prop}(X:K.In s.heap)(I:pX x C s.heap)(hm:mroIn K C (.type "object")=some true)
    (h:R (.ok (.ret (.ref C))) s):codeAny (model prog w) A (.call (.builtin "getset_descriptor.__get__") ⟨[.builtin "object.__class__",.ref x,tp],[]⟩) R s:=by
  obtain⟨hh,g,dr,t,os⟩:=s
  obtain⟨o,vs,hx,hc,hd⟩:=I
  have L0:Looks (model prog w) hh (typeOf (.ref x)) (.ref C):=hc ▸ (Looks.ld hx).andThen .now
  have L1:=looks_mroIn (M:=model prog w) X hm
  refine codeAny_call_builtin KF.slot_gs.plain KF.entry_gs (KF.slot_gs.check _ _ _ _ _ _ _ _ KF.type_class (KF.args_gs _ _ _) ?_)
  unfold Builtin.«getset_descriptor.__get__» descrGet
  rw[dga_obj]
  refine wpAny_bind (wpAny_pure ?_)
  unfold descrGetter descrCheckInstance descrNameAndClass isInstance
  simp only [KF.owner_class]
  repeat lk
  refine⟨Code.quiet_builtin _ (by decide +kernel),codeAny_builtin KF.entry_class ?_⟩
  unfold Builtin.«object.__class__» shownTypeOf
  repeat lk
  exact h
theorem Fb{Q:Option Value->Shared->Prop}(X:K.In s.heap)(I:pX x C s.heap)(L:ya K C)(h:Q (some (.ref C)) { s with toks:=s.toks+1 }):wpAny (model prog w) A (getAttr? (.ref x) "__class__") Q E s:=by
  obtain⟨hh,g,d,t,os⟩:=s
  obtain⟨o,vs,hx,hc,hd⟩:=id I
  have L0:Looks (model prog w) hh (typeOf (.ref x)) (.ref C):=hc ▸ (Looks.ld hx).andThen .now
  have L1:=looks_findIn (M:=model prog w) X L.ga
  have L2:=looks_findIn (M:=model prog w) X L.gt
  have L3:=looks_mroIn (M:=model prog w) X L.be
  have LF:Looks (model prog w) hh (Builtin.ObjectAttr.find (.ref x) (.ref C) "__class__") (Found.bind (.builtin "getset_descriptor.__get__") (.builtin "object.__class__")):=xo X L.cl L.sp L.tk
  unfold getAttr? getAttrBy? getAttrBy
  refine wpAny_bind (wpAny_mkText (wpAny_bind (wpAny_attempt (wpAny_holding (wpAny_bind (L0.at (wpAny_bind (L1.at ?_))))))))
  show wpAny _ _ (if (onTheHeap (Value.ref C)&&(Value.builtin "BaseException.__getattribute__"==Value.builtin "object.__getattribute__"))=true then _ else getAttrByItsOwn _ _ _ _ _ _) _ _ _
  rw[if_neg (by
    have z:(Value.builtin "BaseException.__getattribute__"==Value.builtin "object.__getattribute__")=false:=by decide +kernel
    rw[z,Bool.and_false]
    decide)]
  unfold getAttrByItsOwn hookBefore
  refine wpAny_bind ?_
  show wpAny _ _ (typeLookup (.ref C) "__getattr__") _ _ _
  refine L2.at ?_
  refine wpAny_bind (wpAny_attempt (wpAny_holding ?_))
  unfold callGetattribute
  rw[if_neg (by decide +kernel)]
  unfold boundAndCalled
  rw[PySem.F.excAttr_ValueError.ga.bind (.ref x)]
  refine wpAny_bind (wpAny_pure ?_)
  refine wpAny_call (codeAny_call_builtin PySem.F.excAttr_ValueError.ga.plain PySem.F.entry_bexc_ga ?_)
  have hk:builtinKind "BaseException.__getattribute__"=some .slot:=by decide +kernel
  have Q5:splitId "BaseException.__getattribute__"=some ("BaseException","__getattribute__"):=by decide +kernel
  have ha:=PySem.F.args_bexc_ga (.ref x) (.str "__class__" t)
  show wpAny _ _ (checkBuiltinCall "BaseException.__getattribute__" ⟨[.ref x,.str "__class__" t],[]⟩) _ _ _
  simp only [checkBuiltinCall,hk,Q5]
  refine wpAny_bind ?_
  unfold isInstance
  repeat lk
  refine wpAny_run (AC (s:=⟨hh,g,d,t+1,os⟩) X I L.ob ?_)
  exact wpAny_pure (wpAny_pure (wpAny_pure (wpAny_pure h)))
end
end L2
namespace L2
open PySem PySem.Spec PyProof.Rows
def zw(env:Env)(x:Str×NameKind)(cs:List (Str×Addr)):Sem (ForInStep (List (Str×Addr))):=
  if (x.2==NameKind.free)=true then (cellOf env x.1 >>= fun a=>pure (ForInStep.yield ((x.1,a)::cs))) else pure (ForInStep.yield cs)
theorem mL{env:Env}:∀ (names:List (Str×NameKind)) (cs:List (Str×Addr)),(∀ x∈names,x.2=.free->∃ c,env.cells.lookup x.1=some c) ->
    ∃ cl:List (Str×Addr),(forIn names cs (zw env):Sem (List (Str×Addr)))=pure cl /\
      (∀ y c,cl.lookup y=some c->cs.lookup y=some c\/env.cells.lookup y=some c)/\(∀ y,(∃ c,cs.lookup y=some c)->∃ c,cl.lookup y=some c)/\∀ x∈names,x.2=.free->∃ c,cl.lookup x.1=some c
  | [],cs,_=>⟨cs,rfl,fun _ _ h=>.inl h,fun _ h=>h,fun _ h=>nomatch h⟩
  | (n,k)::r,cs,h=>by
    by_cases hk:k=.free
    · subst hk
      obtain⟨c,hc⟩:=h (n,.free) List.mem_cons_self rfl
      obtain⟨cl,e,a,b,d⟩:=mL r ((n,c)::cs) fun x hx=>h x (List.mem_cons_of_mem _ hx)
      refine⟨cl,?_,fun y c' hy=>?_,fun y ⟨c',hy⟩=>?_,fun x hx hf=>?_⟩
      · rw[List.forIn_cons]
        have e1:cellOf env n=pure c:=by unfold cellOf;rw[hc]
        have e2:zw env (n,.free) cs=pure (ForInStep.yield ((n,c)::cs)):=by
          show (cellOf env n >>= fun a=>pure (ForInStep.yield ((n,a)::cs)))=_
          rw[e1]
          rfl
        rw[e2]
        exact e
      · rcases a y c' hy with z | z
        · rw[List.lookup_cons] at z
          split at z
          · rename_i q
            have:y=n:=by simpa using q
            subst this
            cases z
            exact .inr hc
          · exact .inl z
        · exact .inr z
      · refine b y ?_
        rw[List.lookup_cons]
        split
        · exact⟨_,rfl⟩
        · exact⟨c',hy⟩
      · rcases List.mem_cons.mp hx with z | z
        · subst z
          refine b n ⟨c,?_⟩
          rw[List.lookup_cons];simp
        · exact d x z hf
    · have hb:(k==NameKind.free)=false:=by simpa using hk
      obtain⟨cl,e,a,b,d⟩:=mL r cs fun x hx=>h x (List.mem_cons_of_mem _ hx)
      refine⟨cl,?_,a,b,fun x hx hf=>?_⟩
      · rw[List.forIn_cons]
        have e2:zw env (n,k) cs=pure (ForInStep.yield cs):=by
          unfold zw
          rw[if_neg (by rw[hb];decide)]
        rw[e2]
        exact e
      · rcases List.mem_cons.mp hx with z | z
        · subst z;exact absurd hf hk
        · exact d x z hf
theorem AA{scope:Scope}{env:Env}(h:∀ x∈scope.names,x.2=.free->∃ c,env.cells.lookup x.1=some c):
    ∃ cl,closureFor scope env=pure cl/\(∀ y c,cl.lookup y=some c->env.cells.lookup y=some c)/\∀ x∈scope.names,x.2=.free->∃ c,cl.lookup x.1=some c:=by
  obtain⟨cl,e,a,_,d⟩:=mL scope.names [] h
  refine⟨cl,?_,fun y c hy=>?_,d⟩
  · have e0:closureFor scope env=(forIn scope.names [] (zw env) >>= fun cs=>pure cs):=by
      unfold closureFor
      congr 1
    rw[e0,e]
    rfl
  · rcases a y c hy with z | z
    · cases z
    · exact z
section
variable {prog:Program} {w:World} {A:Around} {R:Result->Shared->Prop} {s:Shared}
theorem Ds{elt target iter:Expr}{ifs:List Expr}{scope:Scope}{pos:Pos}{it acc:Value}{env:Env}(I:Nat->Shared->Prop)
    (turn:∀ n s,I n s->wpAny (model prog w) A (pyNext it) (fun r s₁=>match r with
      | none=>R (.ok .next) s₁
      | some v=>wpAny (model prog w) A (letOwnedTupleGo target it v) (fun _ s₁'=>wpAny (model prog w) A (assign target env v) (fun _ s₂=>
          wpAny (model prog w) A (forIn ifs true fun c r=>if r=true then do let ok ← isTrue c env (eval c env);pure (ForInStep.yield ok) else pure (ForInStep.yield r)) (fun ok s₃=>
            if ok=true then wpAny (model prog w) A (eval elt env) (fun x s₄=>
              wpAny (model prog w) A (call (.builtin "list.append") [acc,x]) (fun _ s₅=>∃ m,m<n/\I m s₅) (notedBy (model prog w) A env fun e s'=>R (.error e) s') s₄) (notedBy (model prog w) A env fun e s'=>R (.error e) s') s₃
            else ∃ m,m<n/\I m s₃) (notedBy (model prog w) A env fun e s'=>R (.error e) s') s₂) (notedBy (model prog w) A env fun e s'=>R (.error e) s') s₁') (notedBy (model prog w) A env fun e s'=>R (.error e) s') s₁) (notedBy (model prog w) A env fun e s'=>R (.error e) s') s)
    (n:Nat) (h:I n s) :
    codeAny (model prog w) A (.compLoop (.ListComp elt [⟨target,iter,ifs,0⟩] scope pos) 0 it acc env) R s:=by
  refine codeAny_loop rfl I (fun n s hI=>?_) n h
  show wpAny _ A ((compTurn (.ListComp elt [⟨target,iter,ifs,0⟩] scope pos) 0 it acc env).onRaise (fun x=>do noteFrame x env;theTreesLotGoes x)) _ _ s
  refine wpAny_noted ?_
  rw[compTurn_list]
  refine wpAny_bind (wpAny_standAt (wpAny_bind (wpAny_mono (turn n s hI) (fun r s₁ h₁=>?_) fun _ _ h'=>h')))
  cases r with
  | none=>exact wpAny_pure h₁
  | some v=>
    refine wpAny_bind (wpAny_mono h₁ (fun _ s₁' h₁'=>?_) fun _ _ h'=>h')
    refine wpAny_bind (wpAny_mono h₁' (fun _ s₂ h₂=>wpAny_bind (wpAny_mono h₂ (fun ok s₃ h₃=>?_) fun _ _ h'=>h')) fun _ _ h'=>h')
    cases ok with
    | false=>exact wpAny_pure ⟨rfl,h₃⟩
    | true=>
      exact wpAny_bind (wpAny_bind (wpAny_mono h₃ (fun x s₄ h₄=>wpAny_bind (wpAny_mono h₄ (fun _ s₅ h₅=>wpAny_pure (wpAny_pure ⟨rfl,h₅⟩)) fun _ _ h'=>h')) fun _ _ h'=>h'))
end
def rA(X:Cx)(ifs:List Expr)(t:TT):Prop:=
  ∀ (pins:List (Addr×Obj)) (s:Shared) (σ:St) (H:Hp) (Q:Bool->Hp->Prop),Inv X pins σ H s->t σ H Q ->
    wpAny (model X.prog X.w) X.A (forIn ifs true fun c r=>if r=true then do let ok ← isTrue c X.env (eval c X.env);pure (ForInStep.yield ok) else pure (ForInStep.yield r)) (TP X pins σ Q) X.xe s
def X_:TT:=fun _ H Q=>Q true H
theorem Nq{X:Cx}:rA X [] X_:=fun _ _ _ H _ I h=>wpAny_tests_nil ⟨H,I,h⟩
theorem OL{X:Cx}{c:Expr}{t:TT}(h:PT X c t):rA X [c] t:=fun pins s σ H Q I hq=>wpAny_tests_one (h pins s σ H Q I hq)
def fw(X:Cx)(N:List Str)(scope:Scope)(cl:List (Str×Addr))(C:Addr)(s:Shared)(H:Hp)(fp:List Addr)(pins:List (Addr×Obj)):Cx:=
  { X with N:=N,s₀:=s,H₀:=H,env:=compEnvC scope cl C X.env,outer:=X.stack,ex:=fp,fn:=fun _=>false,pn:=X.pn++pins,xe:=fun _ _=>False }
theorem lW{env:Env}:∀ {names:List (Str×NameKind)} {x:Str} {k:NameKind},(∀ y∈names,y.2≠.cell)->(k=.cell\/k=.free) ->
    (names.map fun (n,k)=>if (k==NameKind.free&&env.scope.kind==.function&&env.kindOf n==some .cell) then (n,NameKind.cell) else (n,k)).lookup x=some k->names.lookup x=some .free
  | [],_,_,_,_,h=>by cases h
  | (n,k')::r,x,k,hc,hk,h=>by
    have ih:=@lW env r x k (fun y hy=>hc y (List.mem_cons_of_mem _ hy)) hk
    have h':List.lookup x ((if (k'==NameKind.free&&env.scope.kind==.function&&env.kindOf n==some .cell)=true then (n,NameKind.cell) else (n,k'))::(r.map fun (n,k)=>if (k==NameKind.free&&env.scope.kind==.function&&env.kindOf n==some .cell) then (n,NameKind.cell) else (n,k)))=some k:=h
    rw[List.lookup_cons]
    by_cases hx:(x==n)=true
    · rw[hx]
      by_cases c:(k'==NameKind.free&&env.scope.kind==.function&&env.kindOf n==some .cell)=true
      · simp only [Bool.and_eq_true,beq_iff_eq] at c
        rw[c.1.1]
      · rw[if_neg c,List.lookup_cons,hx] at h'
        have e:k'=k:=Option.some.inj h'
        subst e
        rcases hk with z | z
        · exact absurd z (hc (n,k') List.mem_cons_self)
        · rw[z]
    · have Fj:(x==n)=false:=by simpa using hx
      rw[Fj]
      refine ih ?_
      by_cases c:(k'==NameKind.free&&env.scope.kind==.function&&env.kindOf n==some .cell)=true
      · rw[if_pos c,List.lookup_cons,Fj] at h'
        exact h'
      · rw[if_neg c,List.lookup_cons,Fj] at h'
        exact h'
theorem n9{env:Env}:∀ {names:List (Str×NameKind)} {x:Str},names.lookup x=some .free ->
    (names.map fun (n,k)=>if (k==NameKind.free&&env.scope.kind==.function&&env.kindOf n==some .cell) then (n,NameKind.cell) else (n,k)).lookup x=some .cell ∨
    (names.map fun (n,k)=>if (k==NameKind.free&&env.scope.kind==.function&&env.kindOf n==some .cell) then (n,NameKind.cell) else (n,k)).lookup x=some .free
  | [],_,h=>by cases h
  | (n,k')::r,x,h=>by
    have ih:=@n9 env r x
    show List.lookup x ((if (k'==NameKind.free&&env.scope.kind==.function&&env.kindOf n==some .cell)=true then (n,NameKind.cell) else (n,k'))::_)=_\/List.lookup x ((if (k'==NameKind.free&&env.scope.kind==.function&&env.kindOf n==some .cell)=true then (n,NameKind.cell) else (n,k'))::_)=_
    rw[List.lookup_cons] at h
    by_cases hx:(x==n)=true
    · rw[hx] at h
      have e:k'=.free:=Option.some.inj h
      subst e
      by_cases c:(NameKind.free==NameKind.free&&env.scope.kind==.function&&env.kindOf n==some .cell)=true
      · rw[if_pos c];simp only [List.lookup_cons,hx];exact .inl trivial
      · rw[if_neg c];simp only [List.lookup_cons,hx];exact .inr trivial
    · have Fj:(x==n)=false:=by simpa using hx
      rw[Fj] at h
      by_cases c:(k'==NameKind.free&&env.scope.kind==.function&&env.kindOf n==some .cell)=true
      · rw[if_pos c];simp only [List.lookup_cons,Fj];exact ih h
      · rw[if_neg c];simp only [List.lookup_cons,Fj];exact ih h
def PN(wi:TI)(σ0:St->St)(g:TG)(ti:TT)(te:TE):TE:=fun σ H Q=>wi σ H fun J H1=>∀ D,H1 D=none->∃ W:Nat->Nat->St->Hp->Prop,(∃ m,W 0 m (σ0 σ) (upd H1 D (.lst [])))/\∀ i m σ' H',W i m σ' H' ->
  (J.stop i H'/\Q (.ref D) H')\/(J.go i H'/\∀ x H2,J.Vx i H' x H2->g x σ' H2 fun σ2 H3=>ti σ2 H3 fun b H4=>if b=true then te σ2 H4 fun y H5=>∃ ys,H5 D=some (.lst ys)/\ys.length<sizeLine/\∃ m',m'<m/\W (i+1) m' σ2 (upd H5 D (.lst (ys++[y])))
    else ∃ m',m'<m/\W (i+1) m' σ2 H4)
structure Mr(X:Cx)(scope:Scope)(N:List Str)(σ0:St->St):Prop where
  len:∀ σ,(σ0 σ).length=N.length
  at_:∀ (σ:St) (i:Nat) (y:Str) (v:V),N[i]?=some y->(σ0 σ)[i]?=some (some v)->scope.names.lookup y=some .free/\∃ j:Nat,X.N[j]?=some y/\σ[j]?=some (some v)
theorem Ox{X:Cx}{elt tg iter:Expr}{ifs:List Expr}{scope:Scope}{pos:Pos}{N:List Str}{σ0:St->St}{wi:TI}{g:TG}{ti:TT}{te:TE}
    (hc:X.calm=true) (hF:Mr X scope N σ0) (OW:∀ y∈scope.names,y.2=.free->X.env.kindOf y.1=some .cell\/X.env.kindOf y.1=some .free)
    (se:∀ y∈scope.names,y.2≠.cell) (tW:scope.kind=.function) (Ha:∀ y∈scope.names,y.2=.local->scope.names.lookup y.1=some .local) (WU:∀ y,scope.names.lookup y=some .free->(y,NameKind.free)∈scope.names)
    (hi:PI X tg iter wi) (hg:∀ cl C s H fp pins,PG (fw X N scope cl C s H fp pins) tg g) (ht:∀ cl C s H fp pins,rA (fw X N scope cl C s H fp pins) ifs ti) (he:∀ cl C s H fp pins,PE (fw X N scope cl C s H fp pins) elt te)
    (hs:∀ x,foldedSetIterable iter X.env x=pure x:=by intro _;rfl):PE X (.ListComp elt [⟨tg,iter,ifs,0⟩] scope pos) (PN wi σ0 g ti te):=by
  intro pins s σ H Q I h
  obtain⟨cl,hclos,FA,hhas⟩:=AA (scope:=scope) (env:=X.env) fun y hy hf=>I.ok.has y.1 (OW y hy hf)
  rw[eval_ListComp]
  refine wpAny_comprehension_free (use:=none) rfl hs hclos tW Ha (eM (hi pins s σ H _ I h) fun v s1 h1=>eM h1 fun YX s2 h2=>?_)
  obtain⟨it,fp,tn,J,H2,e,I2,T,TU,f2,q2⟩:=h2
  subst e
  refine wpAny_newObj_type (wpAny_newFunctionEnv se (by intro y hy;simp at hy) (fun h₁ hns₁ hsb₁=>?_) tW)
  dsimp only at hns₁ hsb₁ ⊢
  generalize hH2:s2.heap.push { cls:=.type "list",dict:=none,data:=.seq ([]:List Value).toArray }=G2 at hns₁ hsb₁ ⊢
  have hC:G2.objs.size=s2.heap.objs.size+1:=by rw[← hH2,Heap.size_push]
  have hDC:s2.heap.objs.size≠G2.objs.size:=by rw[hC];exact Nat.ne_of_lt (Nat.lt_succ_self _)
  have below:∀ b,b<s2.heap.objs.size->b≠G2.objs.size/\b≠s2.heap.objs.size:=fun b hb=>⟨by rw[hC];exact Nat.ne_of_lt (Nat.lt_succ_of_lt hb),Nat.ne_of_lt hb⟩
  have old:∀ b o,s2.heap.get? b=some o->h₁.get? b=some o:=fun b o e=>hsb₁.extBut b o (below b (Heap.lt_size e)).1 (Heap.get?_push_of_some _ (hH2 ▸ Heap.get?_push_of_some _ e))
  have hD:h₁.get? s2.heap.objs.size=some { cls:=.type "list",dict:=none,data:=.seq ([]:List Value).toArray }:=hsb₁.extBut _ _ hDC (Heap.get?_push_of_some _ (hH2 ▸ Heap.get?_push_size _ rfl))
  have nD:H2 s2.heap.objs.size=none:=I2.cQ.fresh (Nat.le_refl _)
  have nC:H2 G2.objs.size=none:=I2.cQ.fresh (by rw[hC];exact Nat.le_succ _)
  have Y0:∀ b∈fp,b<s2.heap.objs.size:=fun b hb=>by
    obtain⟨o,e,_⟩:=T.obj _ _ TU b hb
    exact Heap.lt_size e
  have cells:∀ y c,cl.lookup y=some c->∃ v,s2.heap.IsCell c v:=fun y c e=>I2.cell y c (FA y c e)
  have RG:∀ y c,cl.lookup y=some c->c<s2.heap.objs.size:=fun y c e=>by
    obtain⟨v,o,ho,_⟩:=cells y c e
    exact Heap.lt_size ho
  have Ln:∀ b,b≠X.env.locals->b ∉ X.fs->b ∉ vK X.stack:=fun b n1 n2 z=>by
    rcases List.mem_cons.mp (I2.stkSub b z) with r | r
    · exact n1 r
    · exact n2 r
  obtain⟨W,⟨m0,w0⟩,turn⟩:=q2 s2.heap.objs.size nD
  have ok:(fw X N scope cl G2.objs.size s2 H2 fp pins).Ok:=by
    refine⟨I2.ok.mod,tW,I2.ok.glob,I2.ok.blt,(by show s2.heap.objs.size<=G2.objs.size;rw[hC];exact Nat.le_succ _),fun x y c a b=>I2.ok.inj x y c (FA x c a) (FA y c b),fun x hx=>?_,fun x c a=>(nomatch a),I2.ok.hd,I2.ok.frames,.inl rfl,fun b hb=>⟨(below b (Y0 b hb)).1,fun x c e=>?_⟩,I2.bs,Nat.le_trans I2.ok.IW I2.sz,fun b o e hb=>?_,fun b hb=>Ln b (f2 b hb).2.1 (f2 b hb).2.2.1,I2.stack,I2.stkFree⟩
    · have Fj:scope.names.lookup x=some .free:=by
        rcases hx with z | z
        · exact lW se (.inl rfl) z
        · exact lW se (.inr rfl) z
      exact hhas _ (WU x Fj) rfl
    · exact (f2 b hb).2.2.2.2.1 x c (FA x c e)
    · rcases (f2 b hb).2.2.2.1 with z | z
      · exact I2.ok.Dy b o e z
      · exact absurd (Nat.lt_of_lt_of_le (Heap.lt_size e) (Nat.le_trans I2.ok.IW z)) (Nat.lt_irrefl _)
  have YI:Inv (fw X N scope cl G2.objs.size s2 H2 fp pins) [] (σ0 σ) (upd H2 s2.heap.objs.size (.lst [])) { s2 with heap:=h₁,toks:=s2.toks+([]:List (Str×Value)).length }:=by
    refine⟨ok,rfl,I2.bare,Un.laid old (Nat.le_refl _) nD,⟨_,hns₁,fun i y v e1 e2 e3=>?_⟩,fun y c e=>?_,?_,fun y c e=>?_,fun p hp=>?_,?_,hF.len σ⟩
    · obtain⟨WC,j,hj,hv⟩:=hF.at_ σ i y v e1 e2
      have hk:=OW _ (WU y WC) rfl
      obtain⟨m,hn,hl⟩:=I2.loc
      obtain⟨u,r,l⟩:=hl j y v hj hv (.inr (hk.elim .inl .inr))
      refine⟨u,r,.inr ⟨n9 WC,?_⟩⟩
      rcases l with ⟨k1,_⟩ | ⟨_,c,hc,se⟩
      · rcases hk with z | z
        · rw[k1] at z;cases z
        · rw[k1] at z;cases z
      · obtain⟨c',hc'⟩:=hhas _ (WU y WC) rfl
        have:c'=c:=Option.some.inj ((FA _ _ hc').symm.trans hc)
        subst this
        refine⟨c',hc',?_⟩
        obtain⟨o,ho,hd⟩:=se
        exact⟨o,old _ _ ho,hd⟩
    · obtain⟨v,o,ho,hd⟩:=cells y c e
      exact⟨v,o,old _ _ ho,hd⟩
    · show upd H2 s2.heap.objs.size (.lst []) G2.objs.size=none
      rw[aI (Ne.symm hDC)];exact nC
    · show upd H2 s2.heap.objs.size (.lst []) c=none
      rw[aI (below c (RG y c e)).2];exact I2.jr y c (FA y c e)
    · have NA:p∈X.pn++pins:=by simpa [fw] using hp
      obtain⟨e,n,ne,nf,d⟩:=I2.pin p NA
      refine⟨old _ _ e,?_,(below _ (Heap.lt_size e)).1,Ln _ ne nf,d⟩
      rw[aI (below _ (Heap.lt_size e)).2];exact n
    · exact I2.cQ.laid old (Nat.le_refl _) ⟨Nat.zero_le _,[],0,.nil,hD⟩
  have tn0:tn 0 h₁:=T.keep 0 _ _ TU fun b _ o e=>old b o e
  have Gw:∀ {H':Hp},(∀ b∈fp,H' b=none)->∀ b∈fp,HG (fw X N scope cl G2.objs.size s2 H2 fp pins) [] H' b:=fun hn b hb=>
    ⟨hn b hb,(below b (Y0 b hb)).1,Ln b (f2 b hb).2.1 (f2 b hb).2.2.1,.inl hb,fun x c e=>(f2 b hb).2.2.2.2.1 x c (FA x c e),fun p hp=>(f2 b hb).2.2.2.2.2 p (by simpa [fw] using hp)⟩
  have loop:codeAny (model X.prog X.w) X.A (.compLoop (.ListComp elt [⟨tg,iter,ifs,0⟩] scope pos) 0 (.ref it) (.ref s2.heap.objs.size) (compEnvC scope cl G2.objs.size X.env))
      (compPost (model X.prog X.w) X.A X.xe none (EP X pins σ Q) (.ref s2.heap.objs.size) G2.objs.size) { s2 with heap:=h₁,toks:=s2.toks+([]:List (Str×Value)).length }:=by
    refine Ds (fun n s'=>∃ i σ' H',Inv (fw X N scope cl G2.objs.size s2 H2 fp pins) [] σ' H' s'/\tn i s'.heap/\(∀ b∈fp,H' b=none)/\W i n σ' H') ?_ m0
      ⟨0,σ0 σ,_,YI,tn0,fun b hb=>by rw[aI (below b (Y0 b hb)).2];exact (f2 b hb).1,w0⟩
    rintro n s3 ⟨i,σ3,H3,I3,st3,fr3,w3⟩
    have no:∀ {α:Type} {t:Sem α} {Q':α->Shared->Prop} {E':Value->Shared->Prop} {s':Shared},wpAny (model X.prog X.w) X.A t Q' (fun _ _=>False) s'->wpAny (model X.prog X.w) X.A t Q' E' s':=fun h=>wpAny_mono h (fun _ _ z=>z) fun _ _ z=>False.elim z
    rcases turn i n σ3 H3 w3 with ⟨stop,qn⟩ | ⟨go,step⟩
    · refine no (eM (T.done (fw X N scope cl G2.objs.size s2 H2 fp pins) rfl rfl rfl hc i [] s3 σ3 H3 _ I3 (Gw fr3) st3 stop) fun r s4 ⟨hr,I4⟩=>?_)
      subst hr
      obtain⟨m,hn,_⟩:=I4.loc
      refine⟨m,hn,fun h' hs'=>?_⟩
      have u:Un (vK X.stack) fp H2 H3 s2.heap h':=by
        have b0:Un (vK X.stack) fp H2 H3 s2.heap s4.heap:=I4.base
        have Pj:∀ b o,s2.heap.get? b=some o->b≠G2.objs.size:=fun b o e=>(below b (Heap.lt_size e)).1
        exact⟨fun b o e n hb hx=>(hs'.2 b (Pj b o e)).trans (b0.keep b o e n hb hx),fun b o e n hb hx=>by
          obtain⟨sl,z⟩:=b0.slot b o e n hb hx
          exact⟨sl,(hs'.2 b (Pj b o e)).trans z⟩,b0.free,fun b o e hx=>by
          obtain⟨o',z⟩:=b0.there b o e hx
          exact⟨o',(hs'.2 b (Pj b o e)).trans z⟩,b0.v7,b0.uS,b0.vv⟩
      have Lf:H3 G2.objs.size=none:=I4.free
      have hk:so X.prog X.w H3 h':=fun b ob e=>by
        refine (I4.cQ b ob e).stay (fun c w' hc q=>(hs'.2 c ?_).trans q) (fun _ q=>q) fun _ _ q=>q
        rintro rfl
        rcases hc with z | z
        · rw[← z,Lf] at e;cases e
        · rw[Lf] at z;cases z
      have Rr:s4.os=s2.os:=I4.os
      have J4:Inv X pins σ H3 { s4 with heap:=h' }:=I2.call' (s':={ s4 with heap:=h' }) (ch:=fp) Rr u hk I4.bare fun b hb=>⟨(f2 b hb).2.2.2.1,(f2 b hb).2.1,(f2 b hb).2.2.2.2.1,(f2 b hb).2.2.2.2.2⟩
      exact⟨.ref s2.heap.objs.size,H3,J4,rfl,qn⟩
    · refine no (eM (T.item (fw X N scope cl G2.objs.size s2 H2 fp pins) rfl rfl rfl hc i [] s3 σ3 H3 _ I3 (Gw fr3) st3 go) fun r s4 ⟨u,hr,h4⟩=>?_)
      subst hr
      refine no (eM h4 fun _ s5 ⟨x,H5,I5,r5,y5,st5,fr5⟩=>?_)
      have YJ:=I5.pinned (Gw fr5) (T.obj _ _ st5)
      have again:∀ {s7:Shared} {σ7:St} {H7:Hp} {m':Nat},Inv (fw X N scope cl G2.objs.size s2 H2 fp pins) ([]++zM fp s5.heap) σ7 H7 s7->m'<n->W (i+1) m' σ7 H7->∃ m,m<n/\∃ i σ' H',Inv (fw X N scope cl G2.objs.size s2 H2 fp pins) [] σ' H' s7/\tn i s7.heap/\(∀ b∈fp,H' b=none)/\W i m σ' H':=fun {s7 σ7 H7 m'} I7 hm w7=>by
        refine⟨m',hm,i+1,σ7,H7,I7.unpinned,T.keep _ _ _ st5 fun b hb o e=>(I7.pin (b,o) (List.mem_append_right _ (List.mem_append_right _ (om hb e)))).1,fun b hb=>?_,w7⟩
        obtain⟨o,e,d⟩:=T.obj _ _ st5 b hb
        exact (I7.pin (b,o) (List.mem_append_right _ (List.mem_append_right _ (om hb e)))).2.1
      refine no (eM (hg cl G2.objs.size s2 H2 fp pins _ s5 σ3 H5 x u _ YJ r5 (step x H5 y5)) fun _ s6 ⟨σ6,H6,I6,q6⟩=>?_)
      refine no (eM (ht cl G2.objs.size s2 H2 fp pins _ s6 σ6 H6 _ I6 q6) fun b s7 ⟨H7,I7,q7⟩=>?_)
      cases b with
      | false=>
        rw[if_neg (by decide)] at q7
        obtain⟨m',hm,w7⟩:=q7
        exact again I7 hm w7
      | true=>
        rw[if_pos rfl] at q7
        refine no (eM (he cl G2.objs.size s2 H2 fp pins _ s7 σ6 H7 _ I7 q7) fun yv s8 ⟨y,H8,I8,r8,ys,hys,hz,m',hm,w8⟩=>?_)
        refine no (eM (Bw (X:=fw X N scope cl G2.objs.size s2 H2 fp pins) _ s8 σ6 H8 (.ref s2.heap.objs.size) [y] _ [yv] (fun _ H9=>H9=upd H8 s2.heap.objs.size (.lst (ys++[y]))) I8 rfl (.cons r8 .nil) ⟨_,ys,y,rfl,rfl,hys,hz,rfl⟩) fun _ s9 ⟨_,H9,I9,_,q9⟩=>?_)
        subst q9
        exact again I9 hm w8
  exact codeAny_compStart_list loop (T.self X.A 0 _ _ _ tn0 loop)
end L2
namespace L2
open PySem PySem.Spec PyProof.Rows
def cOf:V->Value
  | .ty n=>.type n
  | .ref a=>.ref a
  | _=>.none
def PR:V->Bool
  | .ty _=>true
  | .ref _=>true
  | _=>false
theorem Od{c:V}{u:Value}(r:RelV c u)(h:PR c=true):u=cOf c:=by
  cases c <;> first | exact r | exact absurd h Bool.false_ne_true
inductive Zc(K:PySem.W.Frag)(H:Hp):V->Value->Prop where
  | of {x:V} {t:Value} (h:wo K H x t):Zc K H x t
  | exc {a C:Addr} (e:H a=some (.ext (pX a C))) (L:ya K C) (hc:(PySem.W.clsIn K C).isSome=true):Zc K H (.ref a) (.ref C)
theorem MZ{K:PySem.W.Frag}{x C:Addr}(L:ya K C)(hc:(PySem.W.clsIn K C).isSome=true):PySem.W.KitX K (.ref x) (.ref C) (pX x C) where
  ty:=fun _ _ _ I=>by
    obtain⟨o,vs,hx,NC,hd⟩:=I
    exact NC ▸ (PySem.W.Looks.ld hx).andThen .now
  it:=fun _ _ X _=>by
    obtain⟨cd,hcD⟩:=Option.isSome_iff_exists.mp hc
    unfold PySem.W.clsIn at hcD
    split at hcD
    · rename_i c' d' cd' sl' ho
      intro A' Q' E' s' k q
      unfold isType loadHead
      exact wpAny_bind (wpAny_loadPart (k _ _ (X _ _ ho)) (wpAny_pure q))
    · cases hcD
  ne:=fun h tp dd aS n sl X htp=>by
    obtain⟨cd,hcD⟩:=Option.isSome_iff_exists.mp hc
    refine Bool.eq_false_iff.mpr fun q=>?_
    have e:C=tp:=Value.ref.inj (beq_iff_eq.mp q)
    subst e
    unfold PySem.W.clsIn at hcD
    split at hcD
    · rename_i c' d' cd' sl' ho
      have z:=(X _ _ ho).symm.trans htp
      cases z
    · cases hcD
  ca:=fun X I k=>Fb X I L k
section
variable {X:Cx}
theorem jl{K:PySem.W.Frag}(hK:X.K=K):dW X (.builtin "isinstance") (fun xs H Q=>∃ x c t b,xs=[x,c]/\PR c=true/\Zc K H x t/\PySem.W.kitOne K t (cOf c)=some b/\Q (.bl b) H):=by
  subst hK
  intro pins s σ H xs us Q I r h
  obtain⟨x,c,t,b,rfl,hc,ty,e,q⟩:=h
  obtain⟨u,v,rfl,rx,rc⟩:=bf.two r
  rw[Od rc hc]
  have fin:∀ tk,EP X pins σ Q (.bool b) { s with toks:=tk }:=fun tk=>⟨.bl b,H,I.tok tk,rfl,q⟩
  cases ty with
  | of h=>exact jH I rx h e fin
  | @exc a C ea L NC=>
    cases (show u=Value.ref a from rx)
    have z:dz X.prog X.w H s.heap a (.ext (pX a C)):=I.cQ a _ ea
    exact PySem.W.kia_one (MZ L NC) I.kIn z.1 e (fun z=>nomatch z) fin
theorem pS:gJ X (binaryOp .FloorDiv) (rI (fun _ j=>j≠0/\j.natAbs.log2<9000) fun i j=>.int (i.fdiv j)):=TZ fun _ _ _ _ _ _ _ hc q=>floordiv_int hc.1 q (.inl (PyProof.noPylong_of_log2 hc.2))
end
structure KB(K:PySem.W.Frag)(x qual:Str)(st:Stmt)(dV:Value)(f:Addr)(fd:FuncData):Prop where
  ex:∃ (oc:Value) (od:Option Addr) (kV doc pm:Value) (an:Option Addr) (c9 ct:Value) (GW:Array (Option Value)),
    fd=PySem.W.fnOf x qual (ml st) (gE st) (ak st) dV kV doc pm an c9 ct/\K.lookup f=some ⟨oc,od,.func fd,GW⟩/\PySem.W.codeIn K c9 qual=true
  kp:PySem.W.keepIn K (.ref f)=true
theorem KB.okX{P:Program}{w:World}{K:PySem.W.Frag}{mg:Str->Option Value}{base:Heap}{x qual:Str}{st:Stmt}{dV:Value}{f:Addr}{fd:FuncData}{N ps:List Str}{k:Nat}{sp:Sp}(F:KB K x qual st dV f fd)(S:aA N ps (ak st))(len:∀ vs H Q E,sp vs H Q E->vs.length=ps.length)
    (uB:∀ (c9:Value) (A:Around) (outer:List Env) (s:Shared) (H:Hp) (vs:List V) (Q:VK) (E:XK),eZ k (A.deeper (envOfC qual (ak st) s.heap.objs.size f c9))->sp vs H Q E ->
      ∃ t,ju (nG (iP P w) P w K mg base N qual (ak st) f c9 A outer s H E) (gE st) t/\t { nx:=fun _ H'=>Q .non H',rt:=Q } (start N vs) H):aQ P w K mg base (iP P w) (k+1) f fd ps sp:=by
  obtain⟨oc,od,kV,doc,pm,an,c9,ct,GW,rfl,lk,qF⟩:=F.ex
  exact KR lk qF S len fun A outer s H vs Q E hr Gy=>uB c9 A outer s H vs Q E hr Gy
theorem N8{K:PySem.W.Frag}{x qual:Str}{st:Stmt}{dV:Value}{f:Addr}{oc:Value}{od an:Option Addr}{GW:Array (Option Value)}{kV doc pm c9 ct:Value}(l:K.lookup f=some ⟨oc,od,.func (PySem.W.fnOf x qual (ml st) (gE st) (ak st) dV kV doc pm an c9 ct),GW⟩)
    (c:PySem.W.codeIn K c9 qual=true) (k:PySem.W.keepIn K (.ref f)=true):KB K x qual st dV f (PySem.W.fnOf x qual (ml st) (gE st) (ak st) dV kV doc pm an c9 ct):=⟨⟨oc,od,kV,doc,pm,an,c9,ct,GW,rfl,l,c⟩,k⟩
def u_:List V->List V->Bool
  | [],[]=>true
  | x::xs,y::ys=>Ba x y&&u_ xs ys
  | _,_=>false
theorem nP{xs ys:List V}:((List.range (min xs.length ys.length)).all (fun j=>Ba (xs.getD j .non) (ys.getD j .non))&&xs.length==ys.length)=u_ xs ys:=by
  induction xs generalizing ys with
  | nil=>
    cases ys with
    | nil=>rfl
    | cons y ys=>simp [u_]
  | cons x xs ih=>
    cases ys with
    | nil=>simp [u_]
    | cons y ys=>
      have h:=@ih ys
      rw[u_,← h,List.length_cons,List.length_cons,Nat.succ_min_succ,List.range_succ_eq_map,List.all_cons,List.all_map]
      have e1:(xs.length+1==ys.length+1)=(xs.length==ys.length):=by simp
      rw[e1]
      have e2:(List.range (min xs.length ys.length)).all ((fun j=>Ba ((x::xs).getD j .non) ((y::ys).getD j .non)) ∘ Nat.succ)=(List.range (min xs.length ys.length)).all (fun j=>Ba (xs.getD j .non) (ys.getD j .non)):=rfl
      rw[e2,Bool.and_assoc]
      rfl
theorem Oe{X:Cx}(hu:X.A.units<cLine):gJ X (compareOp .Eq) (fun x y H Q=>∃ p q xs ys,x=.ref p/\y=.ref q/\kn X.K H p xs/\kn X.K H q ys/\xs.all gI=true/\ys.all gI=true/\Q (.bl (u_ xs ys)) H):=by
  intro pins s σ H x y v u Q I rx ry h
  obtain⟨p,q,xs,ys,rfl,rfl,hx,hy,fx,fy,hq⟩:=h
  cases rx
  cases ry
  obtain⟨aS,r,pl,hz⟩:=I.tuple hx
  obtain⟨gy,r2,pl2,hz2⟩:=I.tuple hy
  refine SeqAt.eq_tupleAt (e:=fun j=>Ba (xs.getD j .non) (ys.getD j .non)) (show s.heap.IsTuple p aS.toArray from pl) (show s.heap.IsTuple q gy.toArray from pl2) hu (fun j h1 h2=>?_) ?_
  · have j1:j<xs.length:=by rw[r.length];simpa using h1
    have j2:j<ys.length:=by rw[r2.length];simpa using h2
    obtain⟨u1,e1,q1⟩:=r.get (i:=j) (x:=xs[j]) (by simp [j1])
    obtain⟨u2,e2,q2⟩:=r2.get (i:=j) (x:=ys[j]) (by simp [j2])
    have z1:aS.toArray[j]=u1:=by
      have:=e1
      rw[List.getElem?_eq_getElem (by simpa using h1)] at this
      simpa using Option.some.inj this
    have z2:gy.toArray[j]=u2:=by
      have:=e2
      rw[List.getElem?_eq_getElem (by simpa using h2)] at this
      simpa using Option.some.inj this
    have g1:xs.getD j .non=xs[j]:=by simp [List.getD,j1]
    have g2:ys.getD j .non=ys[j]:=by simp [List.getD,j2]
    rw[z1,z2,g1,g2]
    exact Ah q1 q2 (List.all_eq_true.mp fx _ (List.getElem_mem j1)) (List.all_eq_true.mp fy _ (List.getElem_mem j2))
  · rw[List.size_toArray,List.size_toArray,← r.length,← r2.length,nP]
    exact⟨.bl _,H,I,rfl,hq⟩
theorem bR:bootBuiltins "isinstance"=some (.builtin "isinstance"):=by decide +kernel
theorem lU:bootBuiltins "len"=some (.builtin "len"):=by decide +kernel
theorem Hm:bootBuiltins "abs"=some (.builtin "abs"):=by decide +kernel
theorem tF:bootBuiltins "int"=some (.type "int"):=by decide +kernel
theorem Ot:bootBuiltins "bool"=some (.type "bool"):=by decide +kernel
theorem t5:bootBuiltins "tuple"=some (.type "tuple"):=by decide +kernel
theorem Cn:bootBuiltins "str"=some (.type "str"):=by decide +kernel
theorem B9:bootBuiltins "list"=some (.type "list"):=by decide +kernel
theorem B1:bootBuiltins "enumerate"=some (.type "enumerate"):=by decide +kernel
theorem W0{c:Bool}{A B:Prop}(h:c=true)(a:A):if c=true then A else B:=by rw[if_pos h];exact a
theorem LC{c:Bool}{A B:Prop}(h:c=false)(b:B):if c=true then A else B:=by rw[if_neg (by rw[h];decide)];exact b
theorem dI{a b:Int}:decide (V.int a=V.int b)=decide (a=b):=by
  by_cases g:a=b
  · rw[g,decide_eq_true rfl,decide_eq_true rfl]
  · rw[decide_eq_false g,decide_eq_false (fun z=>g (by injection z))]
theorem eqY{a b:Int}(h:a=b):decide (V.int a=V.int b)=true:=by rw[dI];exact decide_eq_true h
theorem ZI{a b:Int}(h:¬ a=b):decide (V.int a=V.int b)=false:=by rw[dI];exact decide_eq_false h
theorem neY{a b:Int}(h:¬ a=b):(!decide (V.int a=V.int b))=true:=by rw[ZI h];rfl
theorem neN{a b:Int}(h:a=b):(!decide (V.int a=V.int b))=false:=by rw[eqY h];rfl
end L2
namespace L2
open PySem PySem.Spec PyProof.Rows
section
variable {X:Cx} {e v v₁ v₂:Expr} {te:TE} {pos:Pos} {es:List Expr}
abbrev TJ:=St->Hp->Str->VK->Prop
def PJ(X:Cx)(es:List Expr)(t:TJ):Prop:=
  ∀ (pins:List (Addr×Obj)) (s:Shared) (σ:St) (H:Hp) (out:Str) (Q:VK),Inv X pins σ H s->out.length<=sizeLine->t σ H out Q->wpAny (model X.prog X.w) X.A (joinParts out (evalEach es X.env)) (EP X pins σ Q) X.xe s
def Yc:TJ:=fun _ H out Q=>Q (.str out) H
def Vh(te:TE)(t:TJ):TJ:=fun σ H out Q=>te σ H fun x H1=>∃ y:Str,x=.str y/\(out++y).length<=sizeLine/\t σ H1 (out++y) Q
theorem Rf:PJ X [] Yc:=fun _ s σ H out Q I hz h=>joinParts_nilE (joinParts_nil ⟨.str out,H,I.tok _,⟨_,rfl⟩,h⟩ hz)
theorem O1{t:TJ}(he:PE X e te)(ht:PJ X es t):PJ X (e::es) (Vh te t):=by
  intro pins s σ H out Q I hz h
  refine joinParts_consE (joinParts_cons (eM (he pins s σ H _ I h) fun u s1 ⟨x,H1,I1,r1,y,ex,hl,q⟩=>?_))
  subst ex
  obtain⟨t',rfl⟩:=r1
  exact⟨hl,ht pins s1 σ H1 _ Q I1 hl q⟩
theorem NI{t:TJ}(h:PJ X (v₁::v₂::es) t):PE X (.JoinedStr (v₁::v₂::es) pos) (fun σ H Q=>t σ H Str.empty Q):=fun pins s σ H Q I hw=>JoinedStr_many (h pins s σ H Str.empty Q I (Nat.zero_le _) hw)
def aaf:V->Option Int->Option Int->Hp->VK->Prop:=fun x lo hi H Q=>∃ z:Str,x=.str z/\z.length<=sizeLine/\Q (.str (Txt.slice z lo hi)) H
theorem zL{v:Value}{o:Option Int}(h:IsPart v o):∃ p:Option (Int×Tok),v=partValue p/\p.map (·.1)=o:=by
  cases h with
  | none=>exact⟨none,rfl,rfl⟩
  | int i t=>exact⟨some (i,t),rfl,rfl⟩
theorem Td:Kx X aaf:=by
  intro pins s σ H x v vl vu lo hi sl Q I rx hs pl pu h
  obtain⟨z,rfl,hz,q⟩:=h
  obtain⟨t,rfl⟩:=rx
  obtain⟨l,rfl,rfl⟩:=zL pl
  obtain⟨u,rfl,rfl⟩:=zL pu
  refine⟨"str",_,slot_str_getitem.lookup,typeIs_str _ _ _,wpAny_getItem_str_slice (l:=l) (u:=u) (st:=none) hs rfl (post_val_or_str ⟨Nat.le_trans (Txt.slice_le z _ _) hz,fun t' k=>?_⟩)⟩
  exact⟨.str _,H,I.tok _,⟨_,rfl⟩,q⟩
end
theorem app_list(a y:Str):(a++y).cps.toList=a.cps.toList++y.cps.toList:=by
  show (a.cps++y.cps).toList=_
  simp
theorem qM(a y:Str):(a++y).length=a.length+y.length:=by
  show (a.cps++y.cps).size=a.cps.size+y.cps.size
  simp
end L2
namespace L2
open PySem PySem.Spec PyProof.Rows
structure ni(k:Nat)(A:Around):Prop where
  dp:A.depth+3*k+5<recursionLimit
  un:A.units+16*k+200<cLine
theorem eZ.h{k:Nat}{A:Around}(r:eZ k A):ni k A:=⟨r.dp,r.un⟩
theorem ni.mono{j k:Nat}{A:Around}(r:ni k A)(h:j<=k):ni j A:=⟨by have:=r.dp;omega,by have:=r.un;omega⟩
theorem ni.mark{k:Nat}{A:Around}(r:ni k A)(v:Option Value):ni k (A.mark v):=⟨r.dp,r.un⟩
theorem ni.deeper{k:Nat}{A:Around}(r:ni (k+1) A)(env:Env):ni k (A.deeper env):=
  ⟨by have:=r.dp;show A.depth+1+3*k+5<_;omega,by have:=r.un;show A.units+3+16*k+200<_;omega⟩
structure M5(P:Program)(w:World)(K:PySem.W.Frag)(mg:Str->Option Value)(base:Heap)(k:Nat)(f:Addr)(fd:FuncData)(ps:List Str)(sp:Sp):Prop where
  len:∀ vs H Q E,sp vs H Q E->vs.length=ps.length
  run:∀ (A:Around) (outer:List Env) (s:Shared) (H:Hp) (args:Args) (us:List Value) (vs:List V) (Q:VK),ni k A->Ft P w K mg base A outer s H->BindsTo s fd args (ps.zip us)->bf vs us->sp vs H Q E0 ->
    codeAny (model P w) A (.call (.ref f) args) (CR yI outer P w H s Q E0) s
abbrev cxH(P:Program)(w:World)(K:PySem.W.Frag)(mg:Str->Option Value)(base:Heap)(N:List Str)(qual:Str)(scope:Scope)(f:Addr)(cd:Value)(A:Around)(outer:List Env)(s:Shared)(H:Hp):Cx:=
  { nG yI P w K mg base N qual scope f cd A outer s H E0 with calm:=false }
section
variable {P:Program} {w:World} {K:PySem.W.Frag} {mg:Str->Option Value} {base:Heap}
theorem sk.okH{x qual:Str}{st:Stmt}{f:Addr}{fd:FuncData}{N ps:List Str}{k:Nat}{sp:Sp}(F:sk K x qual st f fd)(S:aA N ps (ak st))(len:∀ vs H Q E,sp vs H Q E->vs.length=ps.length)
    (uB:∀ (c9:Value) (A:Around) (outer:List Env) (s:Shared) (H:Hp) (vs:List V) (Q:VK),ni k (A.deeper (envOfC qual (ak st) s.heap.objs.size f c9))->sp vs H Q E0 ->
      ∃ t,ju (cxH P w K mg base N qual (ak st) f c9 A outer s H) (gE st) t/\t { nx:=fun _ H'=>Q .non H',rt:=Q } (start N vs) H):M5 P w K mg base (k+1) f fd ps sp:=by
  obtain⟨oc,od,kV,doc,pm,an,c9,ct,GW,rfl,lk,qF⟩:=F.ex
  refine⟨len,fun A outer s H args us vs Q hr e0 hb r Gy=>?_⟩
  have hl:=len _ _ _ _ Gy
  have KX:K.In s.heap:=e0.mod.NN.keeps fun b o e=>(e0.bs b o e).1
  have lim:s.heap.NoLimit:=e0.mod.nolimit.keeps fun b o e=>(e0.bs b o e).1
  refine codeAny_call_function (by have:=hr.dp;omega) (KX _ _ lk) rfl S.co S.gen rfl (PySem.W.codeRec_of KX qF) (hb _ _ _ _ ?_)
  refine wpAny_newFunctionEnv_cells S.kind (fun⟨n,v⟩ hy=>?_) fun env he s1 x=>?_
  · rcases S.par n (List.of_mem_zip hy).1 with q | q
    · exact .inl q
    · exact .inr ⟨q,PySem.W.cellsFrom_some _ _ _ (.inl q)⟩
  subst he
  refine⟨lim.keeps x.toInCall.keep,codeAny_func ?_⟩
  obtain⟨t,ht,hq⟩:=uB c9 A outer s H vs Q (hr.deeper _) Gy
  have I0:=Bk (CX:=yI) (P:=P) (w:=w) (A:={ A with handled:=none }) (E:=E0) S rfl ⟨e0.frames,e0.mod,e0.bs,e0.IW,e0.pK,e0.Ig,e0.cQ,e0.bare⟩ hl r x
  have I:Inv (cxH P w K mg base N qual (ak st) f c9 A outer s H) [] (start N vs) H s1:=
    ⟨⟨I0.ok.mod,I0.ok.kind,I0.ok.glob,I0.ok.blt,I0.ok.above,I0.ok.inj,I0.ok.has,I0.ok.NH,(fun z=>nomatch z),Around.frames_deeper e0.frames,I0.ok.PZ,I0.ok.TV,I0.ok.bs,I0.ok.IW,I0.ok.Dy,I0.ok.FZ,I0.ok.pK,I0.ok.Ig⟩,I0.os,I0.bare,I0.base,I0.loc,I0.cell,I0.free,I0.jr,I0.pin,I0.cQ,I0.len⟩
  refine wpAny_mono (ht [] s1 (start N vs) H _ I hq) (fun fl s' hs=>?_) fun e s' hs=>hs
  cases fl with
  | ret u=>
    obtain⟨v,σ',H',J,rv,q⟩:=hs
    exact⟨v,H',J.os,J.bare,J.base,J.cQ,rv,q⟩
  | next=>
    obtain⟨σ',H',J,q⟩:=hs
    exact⟨V.non,H',J.os,J.bare,J.base,J.cQ,rfl,q⟩
  | brk=>
    obtain⟨_,_,_,q⟩:=hs
    exact False.elim q
  | cont=>
    obtain⟨_,_,_,q⟩:=hs
    exact False.elim q
end
section
variable {X:Cx} {k:Nat} {f:Addr} {fd:FuncData} {ps:List Str} {sp:Sp} {dvs:List V} {ds:List Value} {x:Str} {p pos:Pos} {e:Expr} {es:List Expr} {t:TA}
theorem Mx(F:M5 X.prog X.w X.K X.mg X.base k f fd ps sp)(hr:ni k X.A)(hg:Gl X x)(hm:X.mg x=some (.ref f))(hk:PySem.W.keepIn X.K (.ref f)=true)(hb:Binds X.K fd ps ds)(hd:bf dvs ds)
    (ha:PA X (e::es) t) (qc:(x==("__debug__":Str))=false:=by decide) (he:starEach (e::es) X.env=(false,eval e X.env)::starEach es X.env:=by rfl) (qz:(backTo pos (starEach es X.env)).any (·.1)=false:=by rfl) :
    PE X (.Call (.Name x p) (e::es) [] pos) (Pu sp dvs E0 t):=by
  intro pins s σ H Q I h
  refine wpAny_Call_Name_kw (nM I hg hm ?_ qc)
  refine PySem.W.callWith_K (h₀:=X.base) I.ok.mod.NN hk (eM (ha pos pins s σ H _ I h) fun us s1 ⟨vs,H1,I1,r,q⟩=>⟨I1.kIn,?_⟩) he qz
  have r2:bf (vs++dvs) (us++ds):=r.append hd
  have hl:(us++ds).length=ps.length:=by rw[← r2.length];exact F.len _ _ _ _ q
  refine wpAny_call (codeAny_mono (F.run X.A X.stack s1 H1 ⟨us,[]⟩ (us++ds) (vs++dvs) Q hr I1.env0 (hb s1 us I1.kIn hl) r2 q) fun r s' hq=>?_)
  cases r with
  | error e=>exact False.elim hq
  | ok fl=>
    cases fl with
    | ret u=>exact I1.after hq
    | next=>exact False.elim hq
    | brk=>exact False.elim hq
    | cont=>exact False.elim hq
end
theorem aQ.to0{P:Program}{w:World}{K:PySem.W.Frag}{mg:Str->Option Value}{base:Heap}{k:Nat}{f:Addr}{fd:FuncData}{ps:List Str}{sp:Sp}(F:aQ P w K mg base (iP P w) k f fd ps sp):aQ P w K mg base yI k f fd ps (fun vs H Q _=>sp vs H Q E0):=
  ⟨fun vs H Q E h=>F.len vs H Q E0 h,fun A outer s H args us vs Q E hr he hb hv hs=>codeAny_mono (F.run A outer s H args us vs Q E0 hr he hb hv hs) fun r s' q=>by
    cases r with
    | error e=>obtain⟨_,_,_,_,_,_,_,_,z⟩:=q;exact False.elim z
    | ok fl=>cases fl <;> exact q⟩
theorem jJ:∀ {ys:List Str} {us:List Value},bf (ys.map V.str) us->StrsAre us ys
  | [],_,.nil=>.nil
  | y::ys,_::us,.cons r t=>by
    obtain⟨k,rfl⟩:=r
    exact .cons _ _ (jJ t)
def rJoin(K:PySem.W.Frag):V->List V->Hp->VK->Prop:=fun x vs H Q=>∃ z l ys,x=.str z/\vs=[.ref l]/\fW K H l (ys.map V.str)/\(ys.map (·.length)).sum+ys.length*z.length<=16777216/\Q (.str (Txt.join z ys)) H
theorem Om{X:Cx}:NT X "str.join" (rJoin X.K):=by
  intro pins s σ H x xs v us Q I rx rs h
  obtain⟨z,l,ys,rfl,rfl,hq,hz,q⟩:=h
  obtain⟨t,rfl⟩:=rx
  obtain⟨u,rfl,ru⟩:=rs.one
  cases (show u=Value.ref l from ru)
  obtain⟨aS,rv,pl,_⟩:=I.list hq
  exact join_list pl.isList (jJ rv) hz fun t' k=>⟨.str _,H,I.tok _,⟨_,rfl⟩,q⟩
theorem DQ{xs ys:List V}(h:xs.length=ys.length):(List.range xs.length).all (fun j=>Ba (xs.getD j .non) (ys.getD j .non))=u_ xs ys:=by
  have e:=@nP xs ys
  rw[← h,Nat.min_self,beq_self_eq_true,Bool.and_true] at e
  exact e
theorem HW{xs ys:List V}(h:xs.length≠ys.length):u_ xs ys=false:=by
  have e:=@nP xs ys
  rw[← e]
  have:(xs.length==ys.length)=false:=by simpa using h
  rw[this,Bool.and_false]
theorem tM{X:Cx}{A:Around}{s:Shared}{xs ys:List V}{aS gy:List Value}(r:bf xs aS)(r2:bf ys gy)(fx:xs.all gI=true)(fy:ys.all gI=true)(j:Nat)(h1:j<aS.toArray.size)(h2:j<gy.toArray.size):
    SeqAt.EqAt A s aS.toArray[j] gy.toArray[j] (Ba (xs.getD j .non) (ys.getD j .non)):=by
  have j1:j<xs.length:=by rw[r.length];simpa using h1
  have j2:j<ys.length:=by rw[r2.length];simpa using h2
  obtain⟨u1,e1,q1⟩:=r.get (i:=j) (x:=xs[j]) (by simp [j1])
  obtain⟨u2,e2,q2⟩:=r2.get (i:=j) (x:=ys[j]) (by simp [j2])
  have z1:aS.toArray[j]=u1:=by
    have:=e1
    rw[List.getElem?_eq_getElem (by simpa using h1)] at this
    simpa using Option.some.inj this
  have z2:gy.toArray[j]=u2:=by
    have:=e2
    rw[List.getElem?_eq_getElem (by simpa using h2)] at this
    simpa using Option.some.inj this
  have g1:xs.getD j .non=xs[j]:=by simp [List.getD,j1]
  have g2:ys.getD j .non=ys[j]:=by simp [List.getD,j2]
  rw[z1,z2,g1,g2]
  exact Ah q1 q2 (List.all_eq_true.mp fx _ (List.getElem_mem j1)) (List.all_eq_true.mp fy _ (List.getElem_mem j2))
def Py(K:PySem.W.Frag)(neg:Bool):R2:=fun x y H Q=>∃ p q xs ys,x=.ref p/\y=.ref q/\fW K H p xs/\fW K H q ys/\xs.all gI=true/\ys.all gI=true/\Q (.bl (if neg then !u_ xs ys else u_ xs ys)) H
theorem Nh{X:Cx}{K:PySem.W.Frag}(hK:X.K=K)(hu:X.A.units<cLine):gJ X (compareOp .Eq) (Py K false):=by
  subst hK
  intro pins s σ H x y v u Q I rx ry h
  obtain⟨p,q,xs,ys,rfl,rfl,hx,hy,fx,fy,hq⟩:=h
  cases rx
  cases ry
  obtain⟨aS,r,pl,hz⟩:=I.list hx
  obtain⟨gy,r2,pl2,hz2⟩:=I.list hy
  by_cases hl:xs.length=ys.length
  · refine SeqAt.eq_listAt (e:=fun j=>Ba (xs.getD j .non) (ys.getD j .non)) pl.isList pl2.isList (by rw[List.size_toArray,List.size_toArray,← r.length,← r2.length];exact hl) hu (fun j h1 h2=>tM (X:=X) r r2 fx fy j h1 h2) ?_
    rw[List.size_toArray,← r.length,DQ hl]
    exact⟨.bl _,H,I,rfl,hq⟩
  · refine SeqAt.eq_list_lengthsAt pl.isList pl2.isList (by rw[List.size_toArray,List.size_toArray,← r.length,← r2.length];simpa using hl) hu ?_
    rw[HW hl] at hq
    exact⟨.bl _,H,I,rfl,hq⟩
theorem Nv{X:Cx}{K:PySem.W.Frag}(hK:X.K=K)(hu:X.A.units<cLine):gJ X (compareOp .NotEq) (Py K true):=by
  subst hK
  intro pins s σ H x y v u Q I rx ry h
  obtain⟨p,q,xs,ys,rfl,rfl,hx,hy,fx,fy,hq⟩:=h
  cases rx
  cases ry
  obtain⟨aS,r,pl,hz⟩:=I.list hx
  obtain⟨gy,r2,pl2,hz2⟩:=I.list hy
  by_cases hl:xs.length=ys.length
  · refine SeqAt.RcNeAt.lists (e:=fun j=>Ba (xs.getD j .non) (ys.getD j .non)) pl.isList pl2.isList (by rw[List.size_toArray,List.size_toArray,← r.length,← r2.length];exact hl) hu (fun j h1 h2=>tM (X:=X) r r2 fx fy j h1 h2) _ _ _ _ ?_
    rw[List.size_toArray,← r.length,DQ hl]
    exact⟨.bl _,H,I,rfl,hq⟩
  · refine SeqAt.RcNeAt.lists_lengths pl.isList pl2.isList (by rw[List.size_toArray,List.size_toArray,← r.length,← r2.length];simpa using hl) hu _ _ _ _ ?_
    rw[HW hl] at hq
    exact⟨.bl _,H,I,rfl,hq⟩
end L2
namespace L2
open PySem PySem.Spec PyProof.Rows PySem.W Builtin.Str
def Ax(i:Int):Prop:=i.natAbs.log2<1048576
theorem R5{ns:List Int}(h:WData.layableAll [WData.list (ns.map WData.int)]=true):∀ i∈ns,Ax i:=by
  intro i hi
  have h1:=layableW_arg h _ (List.mem_singleton.mpr rfl)
  have h2:=layableW_item h1 (WData.int i) (List.mem_map.mpr ⟨i,hi,rfl⟩)
  have h3:=(layableW_iff.mp h2).2.2
  unfold Ax
  have e:(WData.int i).weight=if i==0 then 0 else i.natAbs.log2+1:=by simp only [WData.weight]
  rw[e] at h3
  by_cases z:i=0
  · subst z
    decide
  · have:(i==0)=false:=by simpa using z
    rw[this] at h3
    simp only [Bool.false_eq_true,if_false] at h3
    have e2:(2:Nat) ^ 20=1048576:=by decide
    omega
theorem Mo{l:PySem.W.OpenLaw}{n k:Nat}{q:Program}{loose:List Str}{XP:(Str->Option Value)->Heap->Prop}{YP:World->Heap->Prop}{d:DefRec}{K:Params->PySem.W.Frag}{CX:World->wQ}{sp:World->Sp}{x:Str}
    (hn:l.most=some n) (XN:n<=sizeLine) (hdf:d.params.defaults=[]) (hr:eZ k callerA)
    (hY:∀ (w:World) (h:Heap),YP w h->(K w.params).In h)
    (F:∀ (w:World) (mg:Str->Option Value) (fa:Addr) (h:Heap),(K w.params).In h->h.Ns mainGlobals mg->mg d.name=some (.ref fa) ->
      ∃ fd:FuncData,(∀ (s:Shared) (u:Value),BindsTo s fd ⟨[u],[]⟩ [(x,u)]) /\
        ∀ base:Heap,(K w.params).In base->base.Ns mainGlobals mg->aQ l.prog w (K w.params) mg base (CX w) k fa fd [x] (sp w))
    (Gy:∀ (w:World) (H:Hp) (a:Addr) (ns:List Int),ns.length<=n->(∀ i∈ns,Ax i)->Sk H->fW (K w.params) H a (ns.map V.int)->sp w [.ref a] H (fun v _=>v=.bl true) fun _ _ _=>False)
    (Zq:∀ (w:World) (H:Hp) (s:Shared) (e:Value) (s':Shared),CX w [] H s (fun _ _ _=>False) e s'->False) :
    PySem.W.WalkO q loose XP YP l.row.toRowW d [] (fun f vs=>PySem.call f vs):=by
  intro w s₀ s₁ mg mb G Y fa o pm cd doc dV kV ho hd qF hD hmg hg args vals as OT hlay hrd ZQ hlo
  obtain rfl:dV=.none:=Dflts.none hD hdf
  obtain rfl:kV=.none:=Dflts.noKw hD
  obtain⟨a,vs,ns,rfl,rfl,hobj,hints,hlen⟩:=Att.J9 hn OT ZQ
  have xc:=R5 hlay
  have KX:=hY w _ Y
  obtain⟨fd,hb,hF⟩:=F w mg fa _ KX G.T.g hmg
  refine enter_call (codeAny_mono (KD KX G.T.g G.T.b G.T.builtins G.T.nolimit hg hobj hints (Nat.le_trans hlen XN) hr hF hb (fun H hO hS=>Gy w H a ns hlen xc hO hS) fun H e s'=>Zq w H s₁ e s') fun r s' hq=>?_)
  obtain⟨rfl,h2,h3,h4⟩:=hq
  exact⟨.inl ⟨.bool true,.bool true,[],rfl,fun _=>rfl,.bool true,Att.Ks l _,fun _=>⟨List.Pairwise.nil,fun _ hm=>(nomatch hm)⟩⟩,h2,h3,h4⟩
theorem Ax.lt{i:Int}(h:Ax i):i.natAbs<2 ^ 1048576:=by
  rcases Nat.eq_zero_or_pos i.natAbs with e | p
  · rw[e];exact Nat.two_pow_pos _
  · exact (Nat.log2_lt (Nat.ne_of_gt p)).mp h
theorem P5{n m:Nat}(h:n<2 ^ m)(h0:0<m):n.log2<m:=by
  rcases Nat.eq_zero_or_pos n with e | p
  · subst e
    rw[show Nat.log2 0=0 by decide]
    exact h0
  · exact (Nat.log2_lt (Nat.ne_of_gt p)).mpr h
theorem bits_le{i:Int}{m:Nat}(h:i.natAbs<2 ^ m)(h0:0<m):Builtin.Int.intBits i<=m:=by
  unfold Builtin.Int.intBits
  split
  · exact Nat.zero_le _
  · have:=P5 h h0
    omega
def UF(i j:Int):Prop:=∃ k:Nat,k<=1048580/\i.natAbs<2 ^ k/\j.natAbs<2 ^ k
theorem Jf{X:Cx}:gJ X (binaryOp .Mult) (rI UF fun i j=>.int (i*j)):=TZ fun i j _ _ _ _ _ hc q=>mul_int q (by
  obtain⟨k,hk,h1,h2⟩:=hc
  have a:=bits_le (m:=k+1) (Nat.lt_of_lt_of_le h1 (Nat.pow_le_pow_right (by decide) (Nat.le_succ k))) (Nat.succ_pos k)
  have b:=bits_le (m:=k+1) (Nat.lt_of_lt_of_le h2 (Nat.pow_le_pow_right (by decide) (Nat.le_succ k))) (Nat.succ_pos k)
  unfold IntMulOk
  have z:Builtin.Int.intTooBig (Builtin.Int.intBits i+Builtin.Int.intBits j)=false:=by
    unfold Builtin.Int.intTooBig
    refine decide_eq_false ?_
    have e:((bitsLine:Nat):Int)=134217728:=by decide +kernel
    rw[e]
    omega
  rw[z,Bool.and_false]
  exact Bool.false_ne_true)
theorem Ng{i c:Int}(h:Ax i)(hc:c.natAbs<10000000):∃ k:Nat,k<=1048580/\(i+c).natAbs<2 ^ k:=by
  have a:=h.lt
  have b:=Int.natAbs_add_le i c
  obtain⟨m,hm⟩:∃ m:Nat,m=1048576:=⟨_,rfl⟩
  rw[← hm] at a
  have hc:c.natAbs<2 ^ m:=Nat.lt_of_lt_of_le hc (Nat.le_trans (show 10000000<=2 ^ 24 by decide) (Nat.pow_le_pow_right (by decide) (by omega)))
  have e:2 ^ m+2 ^ m=2 ^ (m+1):=by rw[Nat.pow_succ,Nat.mul_two]
  exact⟨m+1,by omega,by omega⟩
def X7(te:TE):TE:=fun σ H Q=>te σ H fun x H1=>∃ z:Str,x=.str z/\(PySem.reprText z).length<=sizeLine/\Q (.str (PySem.reprText z)) H1
theorem Rg{X:Cx}{e:Expr}{te:TE}{pos:Pos}(he:PE X e te):PE X (.FormattedValue e 114 none pos) (X7 te):=by
  intro pins s σ H Q I h
  refine wpAny_FormattedValue_repr (eM (he pins s σ H _ I h) fun u s1 ⟨x,H1,I1,r1,z,ex,hl,q⟩=>?_)
  subst ex
  obtain⟨t,rfl⟩:=r1
  refine wpAny_pyReprObj_gives (typeIs_str _ _ _) PySem.F.slot_str_repr PySem.F.entry_str_repr (PySem.F.args_str_repr_1 _) (gives_str_repr z t) ?_ rfl hl
  exact formatField_str (fun t' tk=>⟨.str _,H1,I1.tok _,⟨_,rfl⟩,q⟩) hl
end L2
namespace L2
open PySem PySem.Spec PyProof.Rows
theorem vp{X:Cx}{names:List (Str×NameKind)}(h:names.all (fun y=>y.2 != .free)=true):∀ y∈names,y.2=.free->X.env.kindOf y.1=some .cell\/X.env.kindOf y.1=some .free:=fun y hy hf=>by
  have:=List.all_eq_true.mp h y hy
  rw[hf] at this
  exact absurd this (by decide)
theorem Vo{X:Cx}{scope:Scope}(st:Stmt)(h:∀ y∈scope.names,y.2=.free->(ak st).names.lookup y.1=some .cell)(he:X.env.scope=ak st:=by rfl):∀ y∈scope.names,y.2=.free->X.env.kindOf y.1=some .cell\/X.env.kindOf y.1=some .free:=fun y hy hf=>by
  refine .inl ?_
  show X.env.scope.names.lookup y.1=some .cell
  rw[he]
  exact h y hy hf
theorem j7{X:Cx}{scope:Scope}(ts:List Str)(fs:List (Str×Nat))(N0:List Str)(h:∀ p∈fs,scope.names.lookup p.1=some .free/\N0[p.2]?=some p.1)(hN:X.N=N0:=by rfl):
    Mr X scope (ts++fs.map (·.1)) (fun σ=>ts.map (fun _=>none)++fs.map fun p=>(σ[p.2]?).join) where
  len:=fun σ=>by simp
  at_:=fun σ i y v e1 e2=>by
    by_cases hi:i<ts.length
    · rw[List.getElem?_append_left (by simpa using hi),List.getElem?_map,List.getElem?_eq_getElem hi] at e2
      cases e2
    · rw[List.getElem?_append_right (by simpa using hi),List.getElem?_map] at e1 e2
      rw[List.length_map] at e2
      cases q:fs[i-ts.length]? with
      | none=>rw[q] at e1;cases e1
      | some p=>
        rw[q] at e1 e2
        have e1':p.1=y:=Option.some.inj e1
        have NV:(σ[p.2]?).join=some v:=Option.some.inj e2
        subst e1'
        obtain⟨a,b⟩:=h p (List.mem_of_getElem? q)
        refine⟨a,p.2,by rw[hN];exact b,?_⟩
        cases z:σ[p.2]? with
        | none=>rw[z] at NV;cases NV
        | some o=>
          rw[z] at NV
          have:o=some v:=NV
          rw[this]
theorem w6{env:Env}:∀ {names:List (Str×NameKind)} {x:Str} {k:NameKind},k≠.free->names.lookup x=some k ->
    (names.map fun (n,k)=>if (k==NameKind.free&&env.scope.kind==.function&&env.kindOf n==some .cell) then (n,NameKind.cell) else (n,k)).lookup x=some k
  | [],_,_,_,h=>by cases h
  | (n,k')::r,x,k,hk,h=>by
    have ih:=@w6 env r x k hk
    show List.lookup x ((if (k'==NameKind.free&&env.scope.kind==.function&&env.kindOf n==some .cell)=true then (n,NameKind.cell) else (n,k'))::_)=some k
    rw[List.lookup_cons] at h
    by_cases hx:(x==n)=true
    · rw[hx] at h
      have e:k'=k:=Option.some.inj h
      subst e
      rw[if_neg,List.lookup_cons,hx]
      intro c
      simp only [Bool.and_eq_true,beq_iff_eq] at c
      exact hk c.1.1
    · have Fj:(x==n)=false:=by simpa using hx
      rw[Fj] at h
      split
      · rw[List.lookup_cons,Fj];exact ih h
      · rw[List.lookup_cons,Fj];exact ih h
section
variable {X:Cx} {N:List Str} {scope:Scope} {cl:List (Str×Addr)} {C:Addr} {s:Shared} {H:Hp} {fp:List Addr} {pins:List (Addr×Obj)} {x:Str}
theorem kj(h:scope.names.lookup x=some .local):(fw X N scope cl C s H fp pins).env.scope.names.lookup x=some .local:=w6 (by decide) h
theorem oQ(h:scope.names.lookup x=some .local):Hw (fw X N scope cl C s H fp pins).env.scope x:=.inl (kj h)
theorem CA(h:scope.names.lookup x=some .free):Hw (fw X N scope cl C s H fp pins).env.scope x:=.inr (n9 h)
end
section
variable {X:Cx} {es:List Expr} {te:TE} {t:TA}
theorem dk{a:Str}{c:Pos}(ha:PE X (.Name a c) te)(hr:PA X es t):PA X ((.Name a c)::es) (MF te t):=aV ha hr rfl
end
end L2
namespace L2
open PySem PySem.Spec PyProof.Rows
theorem bP.seqT{K:PySem.W.Frag}{H H':Hp}{a:Addr}{xs:List V}(e:bP H H')(h:kn K H a xs):kn K H' a xs:=by
  rcases h with (h | ⟨o,h⟩) | h
  · exact .inl (.inl (e _ _ h))
  · exact .inl (.inr ⟨o,e _ _ h⟩)
  · exact .inr h
def Alike(K:PySem.W.Frag)(H:Hp):Nat->V->V->Prop
  | 0,x,y=>gI x=true/\gI y=true/\Ba x y=true
  | n+1,x,y=>(gI x=true/\gI y=true/\Ba x y=true) ∨
      ∃ p q xs ys,x=.ref p/\y=.ref q/\((kn K H p xs/\kn K H q ys)\/(fW K H p xs/\fW K H q ys))/\Paired (Alike K H n) xs ys
theorem Alike.flat{K:PySem.W.Frag}{H:Hp}{n:Nat}{x y:V}(a:gI x=true)(b:gI y=true)(c:Ba x y=true):Alike K H n x y:=by
  cases n with
  | zero=>exact⟨a,b,c⟩
  | succ n=>exact .inl ⟨a,b,c⟩
theorem Alike.int{K:PySem.W.Frag}{H:Hp}{n:Nat}(i:Int):Alike K H n (.int i) (.int i):=Alike.flat rfl rfl (beq_self_eq_true i)
theorem Alike.str{K:PySem.W.Frag}{H:Hp}{n:Nat}(z:Str):Alike K H n (.str z) (.str z):=Alike.flat rfl rfl (beq_self_eq_true z)
theorem Alike.tup{K:PySem.W.Frag}{H:Hp}{n:Nat}{p q:Addr}{xs ys:List V}(a:kn K H p xs)(b:kn K H q ys)(c:Paired (Alike K H n) xs ys):Alike K H (n+1) (.ref p) (.ref q):=.inr ⟨p,q,xs,ys,rfl,rfl,.inl ⟨a,b⟩,c⟩
theorem Alike.lst{K:PySem.W.Frag}{H:Hp}{n:Nat}{p q:Addr}{xs ys:List V}(a:fW K H p xs)(b:fW K H q ys)(c:Paired (Alike K H n) xs ys):Alike K H (n+1) (.ref p) (.ref q):=.inr ⟨p,q,xs,ys,rfl,rfl,.inr ⟨a,b⟩,c⟩
theorem FB{α β:Type}{F:α->β->Prop}:∀ {xs:List α} {ys:List β},Paired F xs ys->∀ (j:Nat) (a:α) (b:β),xs[j]?=some a->ys[j]?=some b->F a b
  | _,_,.nil,_,_,_,h,_=>by cases h
  | x::xs,y::ys,.cons r t,j,a,b,h1,h2=>by
    cases j with
    | zero=>cases h1;cases h2;exact r
    | succ j=>exact FB t j a b (by simpa using h1) (by simpa using h2)
section
variable {X:Cx} {pins:List (Addr×Obj)} {σ:St} {H:Hp} {s:Shared}
theorem all_true(n:Nat):(List.range n).all (fun _=>true)=true:=List.all_eq_true.mpr fun _ _=>rfl
theorem gQ{n:Nat}{A:Around}{xs ys:List V}{aS gy:List Value}(r:bf xs aS)(r2:bf ys gy)(pr:Paired (Alike X.K H n) xs ys)
    (ih:∀ x y u v,Alike X.K H n x y->RelV x u->RelV y v->SeqAt.EqAt A s u v true) (j:Nat) (h1:j<aS.toArray.size) (h2:j<gy.toArray.size):SeqAt.EqAt A s aS.toArray[j] gy.toArray[j] true:=by
  have j1:j<xs.length:=by rw[r.length];simpa using h1
  have j2:j<ys.length:=by rw[r2.length];simpa using h2
  obtain⟨u1,e1,q1⟩:=r.get (i:=j) (x:=xs[j]) (by simp [j1])
  obtain⟨u2,e2,q2⟩:=r2.get (i:=j) (x:=ys[j]) (by simp [j2])
  have z1:aS.toArray[j]=u1:=by
    have:=e1
    rw[List.getElem?_eq_getElem (by simpa using h1)] at this
    simpa using Option.some.inj this
  have z2:gy.toArray[j]=u2:=by
    have:=e2
    rw[List.getElem?_eq_getElem (by simpa using h2)] at this
    simpa using Option.some.inj this
  rw[z1,z2]
  exact ih _ _ _ _ (FB pr j _ _ (List.getElem?_eq_getElem j1) (List.getElem?_eq_getElem j2)) q1 q2
theorem nV(I:Inv X pins σ H s):∀ (n:Nat) (A:Around) (x y:V) (u v:Value),A.units+n<cLine->Alike X.K H n x y->RelV x u->RelV y v->SeqAt.EqAt A s u v true
  | 0,A,x,y,u,v,_,h,rx,ry=>by
    have:=Ah (A:=A) (s:=s) rx ry h.1 h.2.1
    rw[h.2.2] at this
    exact this
  | n+1,A,x,y,u,v,hu,h,rx,ry=>by
    rcases h with h | ⟨p,q,xs,ys,rfl,rfl,hq,pr⟩
    · have:=Ah (A:=A) (s:=s) rx ry h.1 h.2.1
      rw[h.2.2] at this
      exact this
    · cases (show u=Value.ref p from rx)
      cases (show v=Value.ref q from ry)
      by_cases hpq:p=q
      · subst hpq
        exact SeqAt.EqAt.same _
      · refine SeqAt.EqAt.of_refs hpq ?_
        have hl:=pr.length
        have ih:=fun x y u v=>nV I n A.in1 x y u v (by show A.units+1+n<cLine;omega)
        rcases hq with ⟨h1,h2⟩ | ⟨h1,h2⟩
        · obtain⟨aS,r,pl,_⟩:=I.tuple h1
          obtain⟨gy,r2,pl2,_⟩:=I.tuple h2
          have:=SeqAt.RcAt.tuples (A:=A) (e:=fun _=>true) (show s.heap.IsTuple p aS.toArray from pl) (show s.heap.IsTuple q gy.toArray from pl2) (by omega) (fun j a b=>gQ r r2 pr ih j a b)
          rw[all_true,List.size_toArray,List.size_toArray,← r.length,← r2.length,hl,beq_self_eq_true] at this
          exact this
        · obtain⟨aS,r,pl,_⟩:=I.list h1
          obtain⟨gy,r2,pl2,_⟩:=I.list h2
          have:=SeqAt.RcAt.lists (A:=A) (e:=fun _=>true) pl.isList pl2.isList (by rw[List.size_toArray,List.size_toArray,← r.length,← r2.length,hl]) (by omega) (fun j a b=>gQ r r2 pr ih j a b)
          rw[all_true] at this
          exact this
end
def K_(K:PySem.W.Frag)(b:Bool):R2:=fun x y H Q=>∃ p q xs ys,x=.ref p/\y=.ref q/\((kn K H p xs/\kn K H q ys)\/(fW K H p xs/\fW K H q ys))/\Paired (Alike K H 40) xs ys/\Q (.bl b) H
theorem SB{X:Cx}{K:PySem.W.Frag}(hK:X.K=K)(hu:X.A.units+64<cLine):gJ X (compareOp .Eq) (K_ K true):=by
  subst hK
  intro pins s σ H x y v u Q I rx ry h
  obtain⟨p,q,xs,ys,rfl,rfl,hq,pr,k⟩:=h
  cases rx
  cases ry
  have hl:=pr.length
  have ih:=fun x y u v=>nV I 40 X.A.in1 x y u v (by show X.A.units+1+40<cLine;omega)
  rcases hq with ⟨h1,h2⟩ | ⟨h1,h2⟩
  · obtain⟨aS,r,pl,_⟩:=I.tuple h1
    obtain⟨gy,r2,pl2,_⟩:=I.tuple h2
    refine SeqAt.eq_tupleAt (e:=fun _=>true) (show s.heap.IsTuple p aS.toArray from pl) (show s.heap.IsTuple q gy.toArray from pl2) (by omega) (fun j a b=>gQ r r2 pr ih j a b) ?_
    rw[all_true,List.size_toArray,List.size_toArray,← r.length,← r2.length,hl,beq_self_eq_true]
    exact⟨.bl _,H,I,rfl,k⟩
  · obtain⟨aS,r,pl,_⟩:=I.list h1
    obtain⟨gy,r2,pl2,_⟩:=I.list h2
    refine SeqAt.eq_listAt (e:=fun _=>true) pl.isList pl2.isList (by rw[List.size_toArray,List.size_toArray,← r.length,← r2.length,hl]) (by omega) (fun j a b=>gQ r r2 pr ih j a b) ?_
    rw[all_true]
    exact⟨.bl _,H,I,rfl,k⟩
theorem Ta{X:Cx}{K:PySem.W.Frag}(hK:X.K=K)(hu:X.A.units+64<cLine):gJ X (compareOp .NotEq) (K_ K false):=by
  subst hK
  intro pins s σ H x y v u Q I rx ry h
  obtain⟨p,q,xs,ys,rfl,rfl,hq,pr,k⟩:=h
  cases rx
  cases ry
  have hl:=pr.length
  have ih:=fun x y u v=>nV I 40 X.A.in1 x y u v (by show X.A.units+1+40<cLine;omega)
  rcases hq with ⟨h1,h2⟩ | ⟨h1,h2⟩
  · obtain⟨aS,r,pl,_⟩:=I.tuple h1
    obtain⟨gy,r2,pl2,_⟩:=I.tuple h2
    refine SeqAt.RcNeAt.tuples (e:=fun _=>true) (show s.heap.IsTuple p aS.toArray from pl) (show s.heap.IsTuple q gy.toArray from pl2) (by omega) (fun j a b=>gQ r r2 pr ih j a b) _ _ _ _ ?_
    rw[all_true,List.size_toArray,List.size_toArray,← r.length,← r2.length,hl,beq_self_eq_true]
    exact⟨.bl _,H,I,rfl,k⟩
  · obtain⟨aS,r,pl,_⟩:=I.list h1
    obtain⟨gy,r2,pl2,_⟩:=I.list h2
    refine SeqAt.RcNeAt.lists (e:=fun _=>true) pl.isList pl2.isList (by rw[List.size_toArray,List.size_toArray,← r.length,← r2.length,hl]) (by omega) (fun j a b=>gQ r r2 pr ih j a b) _ _ _ _ ?_
    rw[all_true]
    exact⟨.bl _,H,I,rfl,k⟩
theorem N2{X:Cx}{K:PySem.W.Frag}(hK:X.K=K)(hu:X.A.units<cLine):gJ X (compareOp .NotEq) (fun x y H Q=>∃ p q xs ys,x=.ref p/\y=.ref q/\kn K H p xs/\kn K H q ys/\xs.all gI=true/\ys.all gI=true/\Q (.bl (!u_ xs ys)) H):=by
  subst hK
  intro pins s σ H x y v u Q I rx ry h
  obtain⟨p,q,xs,ys,rfl,rfl,hx,hy,fx,fy,hq⟩:=h
  cases rx
  cases ry
  obtain⟨aS,r,pl,hz⟩:=I.tuple hx
  obtain⟨gy,r2,pl2,hz2⟩:=I.tuple hy
  refine SeqAt.RcNeAt.tuples (e:=fun j=>Ba (xs.getD j .non) (ys.getD j .non)) (show s.heap.IsTuple p aS.toArray from pl) (show s.heap.IsTuple q gy.toArray from pl2) hu (fun j h1 h2=>tM (X:=X) r r2 fx fy j h1 h2) _ _ _ _ ?_
  rw[List.size_toArray,List.size_toArray,← r.length,← r2.length,nP]
  exact⟨.bl _,H,I,rfl,hq⟩
end L2
namespace L2
open PySem PySem.Spec PyProof.Rows
section
variable {X:Cx} {pins:List (Addr×Obj)} {σ:St} {H:Hp} {s:Shared}
theorem Inv.adoptN{a:Addr}{o:HO}(I:Inv X pins σ H s)(hn:H a=none)(h0:∀ u,X.s₀.heap.get? a=some u->a ∉ X.ex->False)(hL:a≠X.env.locals)(hC:∀ x c,X.env.cells.lookup x=some c->c≠a)(hp:∀ p∈X.pn++pins,p.1≠a)(ok:dz X.prog X.w (upd H a o) s.heap a o):Inv X pins σ (upd H a o) s:=by
  refine⟨I.ok,I.os,I.bare,⟨I.base.keep,I.base.slot,fun b u e n hx=>?_,I.base.there,fun b xs q=>?_,fun b u xs q=>?_,fun b ps q=>?_⟩,I.loc,I.cell,?_,fun x c e=>?_,fun p NA=>?_,fun b u e=>?_,I.len⟩
  · rw[aI (fun z=>by rw[z] at e hx;exact h0 u e hx)];exact I.base.free b u e n hx
  · have z:=I.base.v7 b xs q
    rw[aI (aU z hn)];exact z
  · have z:=I.base.uS b u xs q
    rw[aI (aU z hn)];exact z
  · obtain⟨more,z⟩:=I.base.vv b ps q
    exact⟨more,by rw[aI (aU z hn)];exact z⟩
  · rw[aI (Ne.symm hL)];exact I.free
  · rw[aI (hC x c e)];exact I.jr x c e
  · obtain⟨e,n,ne,nf,d⟩:=I.pin p NA
    exact⟨e,by rw[aI (hp p NA)];exact n,ne,nf,d⟩
  · by_cases hb:b=a
    · subst hb;rw[aH] at e;cases e;exact ok
    · rw[aI hb] at e
      exact (I.cQ b u e).stay (fun c v _ q=>q) (fun c q=>by rw[aI (aU q hn)];exact q) fun c xs q=>by rw[aI (aU q hn)];exact q
theorem Inv.later{a:Addr}{o:HO}{H1:Hp}{s1:Shared}(I:Inv X pins σ H s)(hB:s.heap.get? a=none)(J:Inv X pins σ H1 s1)(hn:H1 a=none)(ok:dz X.prog X.w (upd H1 a o) s1.heap a o):Inv X pins σ (upd H1 a o) s1:=by
  have nl:∀ b u,s.heap.get? b=some u->b≠a:=fun b u e z=>by rw[z,hB] at e;cases e
  refine J.adoptN hn (fun u e hx=>?_) ?_ (fun x c e=>?_) (fun p hp=>nl _ _ (I.pin p hp).1) ok
  · obtain⟨o',e'⟩:=I.base.there a u e hx
    exact nl a o' e' rfl
  · obtain⟨m,⟨oL,es,ep,eL,_⟩,_⟩:=id I.loc
    exact Ne.symm (nl _ _ eL)
  · obtain⟨v,oc,ec,_⟩:=I.cell x c e
    exact nl _ _ ec
end
end L2
namespace Dt
open PySem PySem.Spec PyProof.Rows
open AutoSeq1 (wpAny_loadPart')
section
variable {prog:Program} {w:World} {A:Around} {E:Value->Shared->Prop} {s:Shared}
theorem GB{it t:Addr}{i:Nat}{items:Array Value}{x:Value}{Q:Value->Shared->Prop}(hit:s.heap.IsTupleIter it t i)(ht:s.heap.IsTuple t items)(hx:items[i]?=some x)
    (hQ:∀ h',h'.IsTupleIter it t (i+1)->Heap.SameBut it s.heap h'->Q x { s with heap:=h' }):wpAny (model prog w) A (Builtin.SmallTypes.nextOf (.ref it)) Q E s:=by
  obtain⟨o,ho,hc,hd⟩:=id hit
  obtain⟨ol,hol,_,nl,hdl⟩:=ht
  unfold Builtin.SmallTypes.nextOf
  refine wpAny_bind (wpAny_callSpecial?_slot (name:=Str.ofString "__next__") hit.typeIs PySem.F.slot_tuple_iterator_next
    (wpAny_call_entry PySem.F.slot_tuple_iterator_next hit.typeIs PySem.F.entry_tuple_iterator_next ?_ (PySem.F.args_tuple_iterator_next_1 _)))
  show wpAny _ _ (field (.ref it) 0 >>= _) _ _ s
  refine wpAny_bind (wpAny_field ho hd (x:=.ref t) rfl ?_)
  show wpAny _ _ (if (Value.ref t==Value.none)=true then _ else _) _ _ s
  rw[if_neg (show ¬ ((Value.ref t==Value.none)=true) from Bool.false_ne_true)]
  show wpAny _ _ (field (.ref it) 1 >>= _) _ _ s
  refine wpAny_bind (wpAny_field ho hd (x:=.int i 0) rfl ?_)
  show wpAny _ _ (seqItems? (.ref t) >>= _) _ _ s
  refine wpAny_bind (wpAny_seqItems hol hdl ?_)
  simp only [Int.toNat_natCast,hx]
  refine wpAny_bind (wpAny_setField ho hd (by simp) (wpAny_pure ⟨x,rfl,wpAny_pure (hQ _ ?_ (Heap.SameBut.update ..))⟩))
  exact⟨_,Heap.get?_update_self _ ho (Obj.isFreed_of_fields (Obj.data_mapFields hd _)),(Obj.cls_mapFields ..).trans hc,by
    rw[Obj.data_mapFields hd];simp [rawInt]⟩
theorem next_tuple_end{it t:Addr}{i:Nat}{items:Array Value}{Q:Value->Shared->Prop}(hh:A.handled=none)(hit:s.heap.IsTupleIter it t i)(ht:s.heap.IsTuple t items)(hx:items[i]?=none)
    (hE:∀ h' e,Heap.ExtBut it s.heap h'->(∃ o,h'.get? e=some o/\o.cls=.type "StopIteration")->E (.ref e) { s with heap:=h' }):wpAny (model prog w) A (Builtin.SmallTypes.nextOf (.ref it)) Q E s:=by
  obtain⟨o,ho,hc,hd⟩:=id hit
  obtain⟨ol,hol,_,nl,hdl⟩:=ht
  unfold Builtin.SmallTypes.nextOf
  refine wpAny_bind (wpAny_callSpecial?_slot (name:=Str.ofString "__next__") hit.typeIs PySem.F.slot_tuple_iterator_next
    (wpAny_call_entry PySem.F.slot_tuple_iterator_next hit.typeIs PySem.F.entry_tuple_iterator_next ?_ (PySem.F.args_tuple_iterator_next_1 _)))
  show wpAny _ _ (field (.ref it) 0 >>= _) _ _ s
  refine wpAny_bind (wpAny_field ho hd (x:=.ref t) rfl ?_)
  show wpAny _ _ (if (Value.ref t==Value.none)=true then _ else _) _ _ s
  rw[if_neg (show ¬ ((Value.ref t==Value.none)=true) from Bool.false_ne_true)]
  show wpAny _ _ (field (.ref it) 1 >>= _) _ _ s
  refine wpAny_bind (wpAny_field ho hd (x:=.int i 0) rfl ?_)
  show wpAny _ _ (seqItems? (.ref t) >>= _) _ _ s
  refine wpAny_bind (wpAny_seqItems hol hdl ?_)
  simp only [Int.toNat_natCast,hx]
  refine wpAny_bind (wpAny_rule (wpAny_bind (wpAny_setField ho hd (by simp) ?_)))
  show wpAny _ _ (newExc (.type "StopIteration") [] >>= _) _ _ _
  refine wpAny_bind ?_
  simp only [newExc,newTuple]
  refine wpAny_bind (wpAny_newObj_type ?_ (by size_fits))
  refine wpAny_bind (m:=firstArgMember _ _) (wpAny_of_eq (a:=Value.none) (by first | rfl | (simp only [firstArgMember];rfl)) ?_)
  refine wpAny_newObj_type ?_ (by size_fits)
  unfold raiseNew
  refine wpAny_bind (wpAny_handled ?_)
  first | rw[show A.in1.handled=none from hh] | rw[hh]
  refine wpAny_bind (wpAny_pure (wpAny_throw ?_))
  exact hE _ _ (((Heap.SameBut.update ..).extBut.push _).push _) ⟨_,Heap.get?_push_size _ rfl,rfl⟩
end
theorem draws{prog:Program}{w:World}{A:Around}(hh:A.handled=none)(it t:Addr)(WM:t≠it)(items:Array Value):
    Draws prog w A it [it,t] items.size (fun i v=>items[i]?=some v) (fun i h=>h.IsTupleIter it t i/\h.IsTuple t items) where
  live:=fun _ _ st=>let ⟨o,ho,_⟩:=st.1;⟨o,ho⟩
  frame:=fun _ _ _ st hk=>⟨let ⟨o,ho,r⟩:=st.1;⟨o,hk it (by simp) o ho,r⟩,let ⟨o,ho,r⟩:=st.2;⟨o,hk t (by simp) o ho,r⟩⟩
  item:=fun i s Q E hi st hQ=>by
    refine GB st.1 st.2 (x:=items[i]) (by simp [hi]) fun h' Qt hs'=>?_
    exact hQ _ h' s.toks (by simp [hi]) ⟨Qt,st.2.extBut hs'.extBut WM⟩ hs'
  done:=fun s Q E st hE=>next_tuple_end hh st.1 st.2 (by simp) hE
theorem LD(t:Addr)(items:Array Value)(n:Nat)(YS:Option Addr)(sl:Array (Option Value)):
    Meets (Builtin.«enumerate.__new__» ⟨[.type "enumerate",.ref t],[]⟩) (fun _ R s=>s.heap.get? t=some { cls:=.type "tuple",dict:=YS,data:=.seq items n,slots:=sl } /\
      R (.ok (.ret (.ref (s.heap.push { cls:=.type "tuple_iterator",data:=.fields #[.ref t,.int 0 0] }).objs.size)))
        { s with heap:=(s.heap.push { cls:=.type "tuple_iterator",data:=.fields #[.ref t,.int 0 0] }).push { cls:=.type "enumerate",data:=.fields #[.none,.bool false,.ref s.heap.objs.size,rawInt 0,.none,.none] } }):=
  .of_wp fun prog w A R s h=>by
    obtain⟨hp,g,d,tk,os⟩:=s;obtain⟨hl,h⟩:=h
    have FA:=sub_enumerate
    have hL:Heap.IsTuple (Shared.heap ⟨hp,g,d,tk,os⟩) t items:=⟨_,hl,rfl,n,rfl⟩
    wp_walk using wpAny_loadPart' hl
    refine wpAny_stack_any fun st=>wpAny_pure ?_
    split
    · rename_i c _ _ _ _ _
      cases (c==Value.type "enumerate")
      · wp_walk using wpAny_loadPart' hl,wpAny_pyIter_tuple hL
        exact⟨_,rfl,h⟩
      · wp_walk using wpAny_loadPart' hl,wpAny_pyIter_tuple hL
        exact⟨_,rfl,h⟩
    · wp_walk using wpAny_loadPart' hl,wpAny_pyIter_tuple hL
      exact⟨_,rfl,h⟩
theorem J'{prog:Program}{w:World}{A:Around}{E:Value->Shared->Prop}{s:Shared}{t:Addr}{items:Array Value}{Q:Value->Shared->Prop}(hL:s.heap.IsTuple t items)
    (h:∀ h',IsEnum h' (s.heap.objs.size+1) s.heap.objs.size 0 .none->h'.IsTupleIter s.heap.objs.size t 0->h'.objs.size=s.heap.objs.size+2 ->
      (∀ b o,s.heap.get? b=some o->h'.get? b=some o)->Q (.ref (s.heap.objs.size+1)) { s with heap:=h' }) :
    wpAny (model prog w) A (call (.type "enumerate") [.ref t]) Q E s:=by
  obtain⟨⟨c,YS,dt,sl⟩,hl,hc,n,hd⟩:=hL
  replace hc:c=.type "tuple":=hc
  replace hd:dt=.seq items n:=hd
  subst hc hd
  refine callType_new PySem.F.called_enumerate (by decide) (PySem.F.typeCall_enumerate_1 _) (PySem.F.newCall_enumerate_1 _) (fun obj=>PySem.F.args_object_init_2 obj _) PySem.F.entry_enumerate_new
    (LD t items n YS sl) ⟨hl,?_⟩
  have hz:(s.heap.push { cls:=.type "tuple_iterator",data:=.fields #[.ref t,.int 0 0] }).objs.size=s.heap.objs.size+1:=Heap.size_push ..
  show _/\_
  rw[hz]
  have he:IsEnum ((s.heap.push { cls:=.type "tuple_iterator",data:=.fields #[.ref t,.int 0 0] }).push
      { cls:=.type "enumerate",data:=.fields #[.none,.bool false,.ref s.heap.objs.size,rawInt 0,.none,.none] }) (s.heap.objs.size+1) s.heap.objs.size 0 .none:=by
    have:=Heap.get?_push_size (s.heap.push { cls:=.type "tuple_iterator",data:=.fields #[.ref t,.int 0 0] })
      (o:={ cls:=.type "enumerate",data:=.fields #[.none,.bool false,.ref s.heap.objs.size,rawInt 0,.none,.none] }) rfl
    rw[hz] at this;exact this
  refine⟨⟨_,he,rfl⟩,h _ he ⟨_,Heap.get?_push_of_some _ (Heap.get?_push_size _ rfl),rfl,rfl⟩ (by rw[Heap.size_push,hz]) fun b o x=>Heap.get?_push_of_some _ (Heap.get?_push_of_some _ x)⟩
theorem Lz{prog:Program}{w:World}{A:Around}{E:Value->Shared->Prop}{s:Shared}{e it t:Addr}{i:Nat}{items:Array Value}{old:Value}{Q:Option Value->Shared->Prop}(hh:A.handled=none)
    (he:IsEnum s.heap e it i old) (hit:s.heap.IsTupleIter it t i) (ht:s.heap.IsTuple t items) (hx:items[i]?=none)
    (hQ:∀ h',Heap.ExtBut it s.heap h'->Q none { s with heap:=h' }):wpAny (model prog w) A (pyNext (.ref e)) Q E s:=by
  have hT:s.TypeIs (.ref e) "enumerate":=⟨_,he,rfl⟩
  unfold pyNext
  refine wpAny_bind (wpAny_attempt (wpAny_callSpecial?_slot (name:=Str.ofString "__next__") hT PySem.F.slot_enumerate_next
    (wpAny_call_entry PySem.F.slot_enumerate_next hT PySem.F.entry_enumerate_next ?_ (PySem.F.args_enumerate_next_1 _))))
  show wpAny _ _ (field (.ref e) 2 >>= _) _ _ _
  refine wpAny_bind (wpAny_field he rfl (x:=.ref it) rfl ?_)
  refine wpAny_bind (next_tuple_end hh hit ht hx fun h' x Yd Fj=>?_)
  obtain⟨o,ho,hc⟩:=Fj
  refine wpAny_bind (wpAny_isInstance (T:="StopIteration") (b:=true) ⟨o,ho,hc⟩ isSubtype_stop ?_)
  exact wpAny_pure (hQ _ Yd)
end Dt
namespace L2
open PySem PySem.Spec PyProof.Rows
theorem uL:∀ {ns:List Int} {us:List Value},bf (ns.map V.int) us->IntsAre us ns
  | [],_,.nil=>.nil
  | n::ns,_::us,.cons r t=>by
    obtain⟨k,rfl⟩:=r
    exact .cons n k (uL t)
theorem NR{X:Cx}{K:PySem.W.Frag}(hK:X.K=K)(hu:X.A.units<cLine):gJ X (compareOp .NotEq) (fun x y H Q=>∃ p q xs,x=.ref p/\y=.ref q/\kn K H p xs/\kn K H q []/\Q (.bl (!xs.isEmpty)) H):=by
  subst hK
  intro pins s σ H x y v u Q I rx ry h
  obtain⟨p,q,xs,rfl,rfl,hx,hy,hq⟩:=h
  cases rx
  cases ry
  obtain⟨aS,r,pl,hz⟩:=I.tuple hx
  obtain⟨gy,r2,pl2,hz2⟩:=I.tuple hy
  cases r2
  refine SeqAt.RcNeAt.tuples (e:=fun _=>true) (show s.heap.IsTuple p aS.toArray from pl) (show s.heap.IsTuple q #[] from pl2) hu (fun j h1 h2=>absurd h2 (Nat.not_lt_zero j)) _ _ _ _ ?_
  have e:(!((List.range (min aS.toArray.size (#[]:Array Value).size)).all (fun _=>true)&&aS.toArray.size==(#[]:Array Value).size))=!xs.isEmpty:=by
    cases r with
    | nil=>rfl
    | cons a b=>rfl
  rw[e]
  exact⟨.bl _,H,I,rfl,hq⟩
theorem NW{X:Cx}{K:PySem.W.Frag}(hK:X.K=K)(hu:X.A.units<cLine):gJ X (compareOp .Eq) (fun x y H Q=>∃ p q xs,x=.ref p/\y=.ref q/\kn K H p xs/\kn K H q []/\Q (.bl xs.isEmpty) H):=by
  subst hK
  intro pins s σ H x y v u Q I rx ry h
  obtain⟨p,q,xs,rfl,rfl,hx,hy,hq⟩:=h
  cases rx
  cases ry
  obtain⟨aS,r,pl,hz⟩:=I.tuple hx
  obtain⟨gy,r2,pl2,hz2⟩:=I.tuple hy
  cases r2
  refine SeqAt.eq_tupleAt (e:=fun _=>true) (show s.heap.IsTuple p aS.toArray from pl) (show s.heap.IsTuple q #[] from pl2) hu (fun j h1 h2=>absurd h2 (Nat.not_lt_zero j)) ?_
  have e:((List.range (min aS.toArray.size (#[]:Array Value).size)).all (fun _=>true)&&aS.toArray.size==(#[]:Array Value).size)=xs.isEmpty:=by
    cases r with
    | nil=>rfl
    | cons a b=>rfl
  rw[e]
  exact⟨.bl _,H,I,rfl,hq⟩
end L2
namespace L2
open PySem PySem.Spec PyProof.Rows
def TX(D:Addr)(H:Hp):Hp:=fun b=>if b=D then none else H b
theorem C0{D b:Addr}{H:Hp}(h:b≠D):TX D H b=H b:=by unfold TX;rw[if_neg h]
theorem L5{D:Addr}{H:Hp}:TX D H D=none:=by unfold TX;rw[if_pos rfl]
end L2
namespace L2
open PySem PySem.Spec PyProof.Rows
def SqK(k:Bool)(K:PySem.W.Frag)(H:Hp)(a:Addr)(xs:List V):Prop:=match k with | true=>kn K H a xs | false=>fW K H a xs
theorem Inv.sqK_inj{X:Cx}{pins:List (Addr×Obj)}{σ:St}{H:Hp}{s:Shared}{k:Bool}{a:Addr}{xs ys:List V}(I:Inv X pins σ H s)(h:SqK k X.K H a xs)(h':SqK k X.K H a ys):xs=ys:=by
  cases k
  · exact I.list_inj h h'
  · exact I.tuple_inj h h'
end L2
namespace L2
open PySem PySem.Spec PyProof.Rows
section
variable {X:Cx} {K:PySem.W.Frag}
theorem Gk(hK:X.K=K):dW X (.type "list") (fun xs H Q=>∃ p ys,xs=[.ref p]/\(fW K H p ys\/kn K H p ys)/\∀ l,H l=none->Q (.ref l) (upd H l (.lst ys))):=hK ▸ Du
theorem BJ(hK:X.K=K):dW X (.builtin "len") (fun xs H Q=>∃ p ys,xs=[.ref p]/\(fW K H p ys\/kn K H p ys)/\Q (.int ys.length) H):=hK ▸ Co
theorem OX(hK:X.K=K)(hu:X.A.units<cLine):gJ X (compareOp .Eq) (fun x y H Q=>∃ p q xs,x=.ref p/\y=.ref q/\fW K H p xs/\fW K H q []/\Q (.bl xs.isEmpty) H):=by
  subst hK
  intro pins s σ H x y v u Q I rx ry h
  obtain⟨p,q,xs,rfl,rfl,hx,hy,hq⟩:=h
  cases rx
  cases ry
  obtain⟨aS,r,pl,hz⟩:=I.list hx
  obtain⟨gy,r2,pl2,hz2⟩:=I.list hy
  cases r2
  cases r with
  | nil=>
    refine SeqAt.eq_listAt (e:=fun _=>true) pl.isList pl2.isList rfl hu (fun j h1 h2=>absurd h2 (Nat.not_lt_zero j)) ?_
    exact⟨.bl true,H,I,rfl,hq⟩
  | cons a b=>
    refine SeqAt.eq_list_lengthsAt pl.isList pl2.isList rfl hu ?_
    exact⟨.bl false,H,I,rfl,hq⟩
end
end L2
namespace L2
open PySem PySem.Spec PyProof.Rows
inductive Tv where
  | non | bl (b:Bool) | int (i:Int) | str (x:Str) | ty (n:String) | cls (C:Addr)
  | tup (l:List Tv) | lst (l:List Tv) | scr (l:List Tv) | obj (C:Addr) (fs:List Str) (l:List Tv) | dic (ks:List Key) (l:List Tv)
def GR(K:PySem.W.Frag)(H:Hp)(a:Addr)(xs:List V):Prop:=
  Rd H a (.tup xs) ∨
    ∃ (o:Obj) (aS:Array Value) (n:Nat),K.lookup a=some o/\o.cls=.type "tuple"/\o.data=.seq aS n/\aS.size<=sizeLine/\bf xs aS.toList/\o.dict=none
theorem GR.t{K:PySem.W.Frag}{H:Hp}{a:Addr}{xs:List V}(h:GR K H a xs):kn K H a xs:=
  h.imp id fun⟨o,aS,n,a,b,c,d,e,_⟩=>⟨o,aS,n,a,b,c,d,e⟩
theorem GR.of{K:PySem.W.Frag}{H:Hp}{a:Addr}{xs:List V}(h:H a=some (.tup xs)):GR K H a xs:=.inl (.inl h)
theorem bP.seqN{K:PySem.W.Frag}{H H':Hp}{a:Addr}{xs:List V}(e:bP H H')(h:GR K H a xs):GR K H' a xs:=by
  rcases h with (h | ⟨o,h⟩) | h
  · exact .inl (.inl (e _ _ h))
  · exact .inl (.inr ⟨o,e _ _ h⟩)
  · exact .inr h
mutual
def Rep(K:PySem.W.Frag)(G:Hp):Tv->V->Prop
  | .non,v=>v=.non
  | .bl b,v=>v=.bl b
  | .int i,v=>v=.int i
  | .str x,v=>v=.str x
  | .ty n,v=>v=.ty n
  | .cls C,v=>v=.ref C
  | .tup l,v=>∃ a xs,v=.ref a/\GR K G a xs/\aw K G l xs
  | .lst l,v=>∃ a xs,v=.ref a/\G a=some (.lst xs)/\aw K G l xs
  | .scr l,v=>∃ a xs,v=.ref a/\fW K G a xs/\aw K G l xs
  | .obj C fs l,v=>∃ a dx xs,v=.ref a/\G a=some (.ins C dx (fs.zip xs))/\G dx=some (.own a)/\fs.length=l.length/\aw K G l xs
  | .dic ks l,v=>∃ a xs,v=.ref a/\G a=some (.dK (ks.zip xs))/\ks.length=l.length/\aw K G l xs
def aw(K:PySem.W.Frag)(G:Hp):List Tv->List V->Prop
  | [],vs=>vs=[]
  | t::l,vs=>∃ v r,vs=v::r/\Rep K G t v/\aw K G l r
end
section
variable {K:PySem.W.Frag} {G G':Hp}
mutual
theorem Rep.same(e:bP G G'):∀ (t:Tv) (v:V),Rep K G t v->Rep K G' t v
  | .non,_,h=>by unfold Rep at h ⊢;exact h
  | .bl b,_,h=>by unfold Rep at h ⊢;exact h
  | .int b,_,h=>by unfold Rep at h ⊢;exact h
  | .str b,_,h=>by unfold Rep at h ⊢;exact h
  | .ty b,_,h=>by unfold Rep at h ⊢;exact h
  | .cls b,_,h=>by unfold Rep at h ⊢;exact h
  | .tup l,v,h=>by
    unfold Rep at h ⊢
    obtain⟨a,xs,q,s,r⟩:=h
    exact⟨a,xs,q,e.seqN s,aw.same e l xs r⟩
  | .lst l,v,h=>by
    unfold Rep at h ⊢
    obtain⟨a,xs,q,s,r⟩:=h
    exact⟨a,xs,q,e _ _ s,aw.same e l xs r⟩
  | .scr l,v,h=>by
    unfold Rep at h ⊢
    obtain⟨a,xs,q,s,r⟩:=h
    exact⟨a,xs,q,e.seq s,aw.same e l xs r⟩
  | .obj C fs l,v,h=>by
    unfold Rep at h ⊢
    obtain⟨a,dx,xs,q,s,d,n,r⟩:=h
    exact⟨a,dx,xs,q,e _ _ s,e _ _ d,n,aw.same e l xs r⟩
  | .dic ks l,v,h=>by
    unfold Rep at h ⊢
    obtain⟨a,xs,q,s,n,r⟩:=h
    exact⟨a,xs,q,e _ _ s,n,aw.same e l xs r⟩
theorem aw.same(e:bP G G'):∀ (l:List Tv) (vs:List V),aw K G l vs->aw K G' l vs
  | [],_,h=>by unfold aw at h ⊢;exact h
  | t::l,vs,h=>by
    unfold aw at h ⊢
    obtain⟨v,r,q,a,b⟩:=h
    exact⟨v,r,q,Rep.same e t v a,aw.same e l r b⟩
end
theorem Rep.up{t:Tv}{v:V}(h:Rep K G t v)(e:bP G G'):Rep K G' t v:=Rep.same e t v h
theorem aw.up{l:List Tv}{vs:List V}(h:aw K G l vs)(e:bP G G'):aw K G' l vs:=aw.same e l vs h
theorem d7{v:V}:Rep K G .non v ↔ v=.non:=by unfold Rep;exact Iff.rfl
theorem aG{b:Bool}{v:V}:Rep K G (.bl b) v ↔ v=.bl b:=by unfold Rep;exact Iff.rfl
theorem ao{i:Int}{v:V}:Rep K G (.int i) v ↔ v=.int i:=by unfold Rep;exact Iff.rfl
theorem aC{x:Str}{v:V}:Rep K G (.str x) v ↔ v=.str x:=by unfold Rep;exact Iff.rfl
theorem Hx{x:String}{v:V}:Rep K G (.ty x) v ↔ v=.ty x:=by unfold Rep;exact Iff.rfl
theorem DA{x:Addr}{v:V}:Rep K G (.cls x) v ↔ v=.ref x:=by unfold Rep;exact Iff.rfl
theorem la{l:List Tv}{v:V}:Rep K G (.tup l) v ↔ ∃ a xs,v=.ref a/\GR K G a xs/\aw K G l xs:=by
  conv=>lhs;unfold Rep
theorem cb{l:List Tv}{v:V}(h:Rep K G (.tup l) v):∃ a xs,v=.ref a/\kn K G a xs/\aw K G l xs:=
  let ⟨a,xs,e,s,r⟩:=la.mp h;⟨a,xs,e,s.t,r⟩
theorem ba{l:List Tv}{v:V}:Rep K G (.lst l) v ↔ ∃ a xs,v=.ref a/\G a=some (.lst xs)/\aw K G l xs:=by
  conv=>lhs;unfold Rep
theorem qA{l:List Tv}{v:V}:Rep K G (.scr l) v ↔ ∃ a xs,v=.ref a/\fW K G a xs/\aw K G l xs:=by
  conv=>lhs;unfold Rep
theorem oi{ks:List Key}{l:List Tv}{v:V}:Rep K G (.dic ks l) v ↔ ∃ a xs,v=.ref a/\G a=some (.dK (ks.zip xs))/\ks.length=l.length/\aw K G l xs:=by
  conv=>lhs;unfold Rep
theorem aP{vs:List V}:aw K G [] vs ↔ vs=[]:=by unfold aw;exact Iff.rfl
theorem ax{t:Tv}{l:List Tv}{vs:List V}:aw K G (t::l) vs ↔ ∃ v r,vs=v::r/\Rep K G t v/\aw K G l r:=by
  conv=>lhs;unfold aw
theorem aw.cons{t:Tv}{l:List Tv}{v:V}{r:List V}(a:Rep K G t v)(b:aw K G l r):aw K G (t::l) (v::r):=ax.mpr ⟨v,r,rfl,a,b⟩
theorem aw.nil:aw K G [] []:=aP.mpr rfl
theorem aw.len:∀ {l:List Tv} {xs:List V},aw K G l xs->xs.length=l.length
  | [],xs,h=>by rw[aP.mp h];rfl
  | t::l,xs,h=>by
    obtain⟨v,r,rfl,_,b⟩:=ax.mp h
    rw[List.length_cons,List.length_cons,b.len]
theorem aw.get:∀ {l:List Tv} {xs:List V} {i:Nat} {t:Tv},aw K G l xs->l[i]?=some t->∃ v,xs[i]?=some v/\Rep K G t v
  | [],_,_,_,_,e=>by simp at e
  | s::l,xs,0,t,h,e=>by
    obtain⟨v,r,rfl,a,b⟩:=ax.mp h
    simp at e
    subst e
    exact⟨v,rfl,a⟩
  | s::l,xs,i+1,t,h,e=>by
    obtain⟨v,r,rfl,a,b⟩:=ax.mp h
    obtain⟨u,hu,q⟩:=b.get (i:=i) (t:=t) (by simpa using e)
    exact⟨u,by simpa using hu,q⟩
theorem aw.app:∀ {l m:List Tv} {xs ys:List V},aw K G l xs->aw K G m ys->aw K G (l++m) (xs++ys)
  | [],_,xs,_,h,k=>by rw[aP.mp h];exact k
  | t::l,m,xs,ys,h,k=>by
    obtain⟨v,r,rfl,a,b⟩:=ax.mp h
    exact .cons a (b.app k)
theorem aw.drop:∀ {l:List Tv} {xs:List V} (n:Nat),aw K G l xs->aw K G (l.drop n) (xs.drop n)
  | _,_,0,h=>by simpa using h
  | [],xs,n+1,h=>by rw[aP.mp h];exact .nil
  | t::l,xs,n+1,h=>by
    obtain⟨v,r,rfl,a,b⟩:=ax.mp h
    exact b.drop n
theorem aw.take:∀ {l:List Tv} {xs:List V} (n:Nat),aw K G l xs->aw K G (l.take n) (xs.take n)
  | _,_,0,h=>by simpa using aw.nil
  | [],xs,n+1,h=>by rw[aP.mp h];exact .nil
  | t::l,xs,n+1,h=>by
    obtain⟨v,r,rfl,a,b⟩:=ax.mp h
    exact .cons a (b.take n)
theorem aw.rep{l:List Tv}{xs:List V}(h:aw K G l xs):∀ n:Nat,aw K G (List.replicate n l).flatten (List.replicate n xs).flatten
  | 0=>.nil
  | n+1=>by
    rw[List.replicate_succ,List.replicate_succ,List.flatten_cons,List.flatten_cons]
    exact h.app (h.rep n)
theorem aw.at{l:List Tv}{xs:List V}{i:Int}{t:Tv}(h:aw K G l xs)(e:vg l i=some t):∃ v,vg xs i=some v/\Rep K G t v:=by
  unfold vg at e ⊢
  rw[h.len]
  cases q:RT l.length i with
  | none=>rw[q] at e;cases e
  | some j=>rw[q] at e;exact h.get e
theorem aw.ints:∀ {ns:List Int},aw K G (ns.map Tv.int) (ns.map V.int)
  | []=>.nil
  | n::ns=>.cons (ao.mpr rfl) aw.ints
end
abbrev iL:=Nat->Hp
def iN:Hp:=fun _=>none
structure d8(H:Hp)(p:iL):Prop where
  mem:∀ b o,H b=some o ↔ ∃ i,p i b=some o
  ap:∀ i j b,i≠j->p i b=none\/p j b=none
def a9(p:iL)(i:Nat)(A:Hp):iL:=fun j=>if j=i then A else p j
theorem az{p:iL}{i:Nat}{A:Hp}:a9 p i A i=A:=by unfold a9;rw[if_pos rfl]
theorem aj{p:iL}{i j:Nat}{A:Hp}(h:j≠i):a9 p i A j=p j:=by unfold a9;rw[if_neg h]
theorem JO{p:iL}{i:Nat}{A B:Hp}:a9 (a9 p i A) i B=a9 p i B:=by
  funext j;unfold a9;split <;> rfl
theorem JD{p:iL}{i:Nat}:a9 p i (p i)=p:=by
  funext j;unfold a9;split
  · rename_i h;rw[h]
  · rfl
def qW(A B:Hp):Hp:=fun b=>match A b with | some o=>some o | none=>B b
theorem bP.gK{A B:Hp}:bP A (qW A B):=fun b o e=>by unfold qW;rw[e]
section
variable {H H':Hp} {p:iL} {a:Addr} {o:HO} {i j:Nat}
theorem d8.fresh(u:d8 H p)(h:H a=none)(i:Nat):p i a=none:=by
  cases e:p i a with
  | none=>rfl
  | some o=>have:=(u.mem a o).mpr ⟨i,e⟩;rw[h] at this;cases this
theorem d8.sub(u:d8 H p)(i:Nat):bP (p i) H:=fun b o e=>(u.mem b o).mpr ⟨i,e⟩
theorem d8.other(u:d8 H p)(h:p i a=some o)(n:j≠i):p j a=none:=by
  rcases u.ap j i a n with q | q
  · exact q
  · rw[h] at q;cases q
theorem d8.put(u:d8 H p)(h:∀ j,j≠i->p j a=none)(o:HO):d8 (upd H a o) (a9 p i (upd (p i) a o)):=by
  refine⟨fun b o'=>?_,fun j k b n=>?_⟩
  · by_cases hb:b=a
    · subst hb
      rw[aH]
      constructor
      · intro e;cases e;exact⟨i,by rw[az,aH]⟩
      · rintro ⟨j,e⟩
        by_cases hj:j=i
        · subst hj;rw[az,aH] at e;exact e
        · rw[aj hj,h j hj] at e;cases e
    · rw[aI hb,u.mem]
      constructor
      · rintro ⟨j,e⟩
        refine⟨j,?_⟩
        by_cases hj:j=i
        · subst hj;rw[az,aI hb];exact e
        · rw[aj hj];exact e
      · rintro ⟨j,e⟩
        refine⟨j,?_⟩
        by_cases hj:j=i
        · subst hj;rw[az,aI hb] at e;exact e
        · rw[aj hj] at e;exact e
  · have at_:∀ j,j≠i->a9 p i (upd (p i) a o) j b=p j b:=fun j hj=>by rw[aj hj]
    by_cases hb:b=a
    · subst hb
      by_cases hj:j=i
      · have hk:k≠i:=fun z=>n (hj.trans z.symm)
        exact .inr (by rw[at_ k hk];exact h k hk)
      · exact .inl (by rw[at_ j hj];exact h j hj)
    · have e:∀ j,a9 p i (upd (p i) a o) j b=p j b:=fun j=>by
        by_cases hj:j=i
        · subst hj;rw[az,aI hb]
        · exact at_ j hj
      rw[e j,e k];exact u.ap j k b n
theorem d8.alloc(u:d8 H p)(h:H a=none)(i:Nat)(o:HO):d8 (upd H a o) (a9 p i (upd (p i) a o)):=u.put (fun j _=>u.fresh h j) o
def mv(p:iL)(j:Nat):iL:=a9 (a9 p 0 (qW (p 0) (p j))) j iN
theorem fO{p:iL}{j:Nat}(h:j≠0):mv p j 0=qW (p 0) (p j):=by unfold mv;rw[aj (Ne.symm h),az]
theorem tT{p:iL}{j:Nat}:mv p j j=iN:=by unfold mv;rw[az]
theorem lK{p:iL}{j k:Nat}(h0:k≠0)(h:k≠j):mv p j k=p k:=by unfold mv;rw[aj h,aj h0]
theorem d8.mv(u:d8 H p)(hj:j≠0):d8 H (L2.mv p j):=by
  have val:∀ k b,L2.mv p j k b=if k=j then none else if k=0 then (match p 0 b with | some o=>some o | none=>p j b) else p k b:=fun k b=>by
    by_cases h1:k=j
    · subst h1;rw[tT,if_pos rfl];rfl
    · rw[if_neg h1]
      by_cases h2:k=0
      · subst h2;rw[fO hj,if_pos rfl];rfl
      · rw[lK h2 h1,if_neg h2]
  refine⟨fun b o=>?_,fun k l b n=>?_⟩
  · rw[u.mem]
    constructor
    · rintro ⟨k,e⟩
      by_cases h1:k=j
      · subst h1
        refine⟨0,?_⟩
        rw[val,if_neg (Ne.symm hj),if_pos rfl,u.other e (Ne.symm hj)];exact e
      · by_cases h2:k=0
        · subst h2
          exact⟨0,by rw[val,if_neg h1,if_pos rfl,e]⟩
        · exact⟨k,by rw[val,if_neg h1,if_neg h2];exact e⟩
    · rintro ⟨k,e⟩
      rw[val] at e
      split at e
      · cases e
      · split at e
        · split at e
          · rename_i q;cases e;exact⟨0,q⟩
          · exact⟨j,e⟩
        · exact⟨k,e⟩
  · rw[val,val]
    by_cases k1:k=j
    · exact .inl (by rw[if_pos k1])
    by_cases l1:l=j
    · exact .inr (by rw[if_pos l1])
    rw[if_neg k1,if_neg l1]
    by_cases k0:k=0
    · subst k0
      have l0:l≠0:=Ne.symm n
      rw[if_pos rfl,if_neg l0]
      rcases u.ap 0 l b n with q | q
      · rcases u.ap j l b (Ne.symm l1) with q' | q'
        · exact .inl (by rw[q];exact q')
        · exact .inr q'
      · exact .inr q
    · rw[if_neg k0]
      by_cases l0:l=0
      · subst l0
        rw[if_pos rfl]
        rcases u.ap 0 k b (Ne.symm n) with q | q
        · rcases u.ap j k b (Ne.symm k1) with q' | q'
          · exact .inr (by rw[q];exact q')
          · exact .inl q'
        · exact .inl q
      · rw[if_neg l0];exact u.ap k l b n
def three(A B C:Hp):iL:=fun i=>match i with | 0=>A | 1=>B | 2=>C | _=>iN
def uo(H A B:Hp):Hp:=fun b=>match A b,B b with | none,none=>H b | _,_=>none
theorem d8.gather(u:d8 H p)(k:Nat)(hk:k≠0)(hk1:k≠1):d8 H (three (uo H (p 1) (p k)) (p 1) (p k))/\bP (p 0) (uo H (p 1) (p k)):=by
  have v:∀ b,uo H (p 1) (p k) b=match p 1 b,p k b with | none,none=>H b | _,_=>none:=fun _=>rfl
  refine⟨⟨fun b o=>?_,fun i j b n=>?_⟩,fun b o e=>?_⟩
  · constructor
    · intro e
      cases e1:p 1 b with
      | some o1=>
        have:=(u.mem b o1).mpr ⟨1,e1⟩
        rw[e] at this;cases this
        exact⟨1,e1⟩
      | none=>
        cases e2:p k b with
        | some o1=>
          have:=(u.mem b o1).mpr ⟨k,e2⟩
          rw[e] at this;cases this
          exact⟨2,e2⟩
        | none=>exact⟨0,by show uo H (p 1) (p k) b=_;rw[v,e1,e2];exact e⟩
    · rintro ⟨i,e⟩
      match i,e with
      | 0,e=>
        have e:uo H (p 1) (p k) b=some o:=e
        rw[v] at e
        split at e
        · exact e
        · cases e
      | 1,e=>exact (u.mem b o).mpr ⟨1,e⟩
      | 2,e=>exact (u.mem b o).mpr ⟨k,e⟩
      | _+3,e=>cases (show (none:Option HO)=some o from e)
  · have VS:uo H (p 1) (p k) b=none\/p 1 b=none:=by
      rw[v];cases e1:p 1 b with
      | none=>exact .inr rfl
      | some _=>exact .inl rfl
    have Wg:uo H (p 1) (p k) b=none\/p k b=none:=by
      rw[v];cases e1:p 1 b with
      | some _=>exact .inl rfl
      | none=>
        cases e2:p k b with
        | none=>exact .inr rfl
        | some _=>exact .inl rfl
    have h12:=u.ap 1 k b (Ne.symm hk1)
    match i,j,n with
    | 0,0,n=>exact absurd rfl n
    | 0,1,_=>exact VS
    | 0,2,_=>exact Wg
    | 0,_+3,_=>exact .inr rfl
    | 1,0,_=>exact VS.symm
    | 1,1,n=>exact absurd rfl n
    | 1,2,_=>exact h12
    | 1,_+3,_=>exact .inr rfl
    | 2,0,_=>exact Wg.symm
    | 2,1,_=>exact h12.symm
    | 2,2,n=>exact absurd rfl n
    | 2,_+3,_=>exact .inr rfl
    | _+3,_,_=>exact .inl rfl
  · have e1:p 1 b=none:=u.other e (by decide)
    have e2:p k b=none:=u.other e hk
    rw[v,e1,e2]
    exact (u.mem b o).mpr ⟨0,e⟩
def dP(p:iL)(H:Hp):Hp:=fun b=>match p 0 b with | some _=>none | none=>H b
theorem gN(u:d8 H p){b:Addr}{o:HO}:dP p H b=some o ↔ ∃ i,i≠0/\p i b=some o:=by
  unfold dP
  constructor
  · intro e
    split at e
    · cases e
    · rename_i q
      obtain⟨i,hi⟩:=(u.mem b o).mp e
      refine⟨i,fun z=>?_,hi⟩
      subst z;rw[q] at hi;cases hi
  · rintro ⟨i,hi,e⟩
    rw[u.other e (Ne.symm hi)]
    exact (u.mem b o).mpr ⟨i,e⟩
theorem d8.two(u:d8 H p):d8 H (three (p 0) (dP p H) iN):=by
  refine⟨fun b o=>?_,fun i j b n=>?_⟩
  · constructor
    · intro e
      obtain⟨i,hi⟩:=(u.mem b o).mp e
      by_cases h:i=0
      · subst h;exact⟨0,hi⟩
      · exact⟨1,(gN u).mpr ⟨i,h,hi⟩⟩
    · rintro ⟨i,e⟩
      match i,e with
      | 0,e=>exact (u.mem b o).mpr ⟨0,e⟩
      | 1,e=>
        obtain⟨i,_,hi⟩:=(gN u).mp (show dP p H b=some o from e)
        exact (u.mem b o).mpr ⟨i,hi⟩
      | 2,e=>cases (show (none:Option HO)=some o from e)
      | _+3,e=>cases (show (none:Option HO)=some o from e)
  · have VS:p 0 b=none\/dP p H b=none:=by
      unfold dP
      cases e:p 0 b with
      | none=>exact .inl rfl
      | some _=>exact .inr rfl
    match i,j,n with
    | 0,0,n=>exact absurd rfl n
    | 0,1,_=>exact VS
    | 0,2,_=>exact .inr rfl
    | 0,_+3,_=>exact .inr rfl
    | 1,0,_=>exact VS.symm
    | 1,1,n=>exact absurd rfl n
    | 1,2,_=>exact .inr rfl
    | 1,_+3,_=>exact .inr rfl
    | 2,_,_=>exact .inl rfl
    | _+3,_,_=>exact .inl rfl
theorem d8.back(u:d8 H p){q:iL}(v:d8 H' q)(h1:q 1=dP p H):d8 H' (a9 p 0 (uo H' (q 1) iN))/\bP (q 0) (uo H' (q 1) iN):=by
  have val:∀ b,uo H' (q 1) iN b=match q 1 b with | none=>H' b | some _=>none:=fun b=>by
    show (match q 1 b,iN b with | none,none=>H' b | _,_=>none)=_
    cases q 1 b <;> rfl
  refine⟨⟨fun b o=>?_,fun i j b n=>?_⟩,fun b o e=>?_⟩
  · constructor
    · intro e
      cases e1:q 1 b with
      | none=>exact⟨0,by rw[az,val,e1];exact e⟩
      | some o1=>
        have:=(v.mem b o1).mpr ⟨1,e1⟩
        rw[e] at this;cases this
        rw[h1] at e1
        obtain⟨i,hi,e2⟩:=(gN u).mp e1
        exact⟨i,by rw[aj hi];exact e2⟩
    · rintro ⟨i,e⟩
      by_cases hi:i=0
      · subst hi
        rw[az,val] at e
        split at e
        · exact e
        · cases e
      · rw[aj hi] at e
        exact (v.mem b o).mpr ⟨1,by rw[h1];exact (gN u).mpr ⟨i,hi,e⟩⟩
  · have key:∀ k,k≠0->uo H' (q 1) iN b=none\/p k b=none:=fun k hk=>by
      rw[val]
      cases e:p k b with
      | none=>exact .inr rfl
      | some o=>exact .inl (by rw[h1,(gN u).mpr ⟨k,hk,e⟩])
    by_cases hi:i=0
    · subst hi
      have hj:j≠0:=Ne.symm n
      rw[az,aj hj];exact key j hj
    · by_cases hj:j=0
      · subst hj
        rw[az,aj hi];exact (key i hi).symm
      · rw[aj hi,aj hj];exact u.ap i j b n
  · rw[val,v.other e (by decide)]
    exact (v.mem b o).mpr ⟨0,e⟩
end
def lA(K:PySem.W.Frag)(G:Hp):List (Key×Tv)->List (Key×V)->Prop:=Paired fun x y=>x.1=y.1/\Rep K G x.2 y.2
theorem lA.up{K:PySem.W.Frag}{G G':Hp}{d:List (Key×Tv)}{ds:List (Key×V)}(h:lA K G d ds)(e:bP G G'):lA K G' d ds:=by
  unfold lA at h ⊢
  induction h with
  | nil=>exact .nil
  | cons f _ ih=>exact .cons ⟨f.1,f.2.up e⟩ ih
theorem lA.keys{K:PySem.W.Frag}{G:Hp}{d:List (Key×Tv)}{ds:List (Key×V)}(h:lA K G d ds):ds.map (·.1)=d.map (·.1):=by
  unfold lA at h
  induction h with
  | nil=>rfl
  | cons f _ ih=>rw[List.map_cons,List.map_cons,ih,f.1]
theorem lA.vals{K:PySem.W.Frag}{G:Hp}{d:List (Key×Tv)}{ds:List (Key×V)}(h:lA K G d ds):aw K G (d.map (·.2)) (ds.map (·.2)):=by
  unfold lA at h
  induction h with
  | nil=>exact .nil
  | cons f _ ih=>exact .cons f.2 ih
theorem zip_unzip{α β:Type}:∀ l:List (α×β),(l.map (·.1)).zip (l.map (·.2))=l
  | []=>rfl
  | _::l=>by rw[List.map_cons,List.map_cons,List.zip_cons_cons,zip_unzip l]
theorem lA.dic{K:PySem.W.Frag}{G:Hp}{d:List (Key×Tv)}{ds:List (Key×V)}{a:Addr}(h:lA K G d ds)(e:G a=some (.dK ds)):Rep K G (.dic (d.map (·.1)) (d.map (·.2))) (.ref a):=
  oi.mpr ⟨a,ds.map (·.2),rfl,by rw[← h.keys,zip_unzip];exact e,by simp,h.vals⟩
theorem lA.of:∀ {K:PySem.W.Frag} {G:Hp} {ks:List Key} {l:List Tv} {xs:List V},ks.length=l.length->aw K G l xs->lA K G (ks.zip l) (ks.zip xs)
  | _,_,[],l,xs,_,_=>by rw[List.zip_nil_left,List.zip_nil_left];exact .nil
  | _,_,k::ks,[],xs,n,_=>by cases n
  | _,_,k::ks,t::l,xs,n,h=>by
    obtain⟨v,r,rfl,a,b⟩:=ax.mp h
    rw[List.zip_cons_cons,List.zip_cons_cons]
    exact .cons ⟨rfl,a⟩ (lA.of (by simpa using n) b)
inductive Sl where
  | un | va (t:Tv) | ow (D:Addr) (l:List Tv) | od (D:Addr) (d:List (Key×Tv)) | oo (x dx C:Addr) (fs:List Str) (l:List Tv)
abbrev En:=List Sl
def Sl.frz:Sl->Tv
  | .un=>.non
  | .va t=>t
  | .ow _ l=>.lst l
  | .od _ d=>.dic (d.map (·.1)) (d.map (·.2))
  | .oo _ _ C fs l=>.obj C fs l
def Sl.mine:Sl->Bool
  | .ow _ _=>true
  | .od _ _=>true
  | .oo _ _ _ _ _=>true
  | _=>false
def xh(D:Addr)(o:HO):Hp:=upd iN D o
theorem oa{D:Addr}{o:HO}:xh D o D=some o:=aH
def i8(x dx C:Addr)(g:List (Str×V)):Hp:=upd (upd iN dx (.own x)) x (.ins C dx g)
theorem hX{x dx C:Addr}{g:List (Str×V)}:i8 x dx C g x=some (.ins C dx g):=aH
theorem uc{x dx C:Addr}{g:List (Str×V)}(n:dx≠x):i8 x dx C g dx=some (.own x):=by unfold i8;rw[aI n];exact aH
def rY(K:PySem.W.Frag)(G O:Hp)(o:Option V):Sl->Prop
  | .un=>O=iN
  | .va t=>O=iN/\∃ v,o=some v/\Rep K G t v
  | .ow D l=>∃ xs,o=some (.ref D)/\O=xh D (.lst xs)/\aw K G l xs
  | .od D d=>∃ ds,o=some (.ref D)/\O=xh D (.dK ds)/\lA K G d ds
  | .oo x dx C fs l=>∃ xs,o=some (.ref x)/\O=i8 x dx C (fs.zip xs)/\dx≠x/\fs.length=l.length/\aw K G l xs
structure ER(K:PySem.W.Frag)(p:iL)(H:Hp)(σ:St)(ρ:En):Prop where
  gK:d8 H p
  len:σ.length=ρ.length
  slot:∀ i s,ρ[i]?=some s->rY K (p 0) (p (i+2)) (σ[i]?).join s
  out:∀ i,ρ.length<=i->p (i+2)=iN
structure da(p p':iL):Prop where
  same:bP (p 0) (p' 0)
  fr:p' 1=p 1
section
variable {K:PySem.W.Frag} {p p' QS:iL} {H H' G G' O:Hp} {σ σ':St} {ρ ρ':En} {i:Nat} {t:Tv} {v:V} {o:Option V} {s:Sl} {D:Addr} {l:List Tv}
theorem da.refl:da p p:=⟨bP.refl _,rfl⟩
theorem da.trans(a:da p p')(b:da p' QS):da p QS:=⟨a.same.trans b.same,b.fr.trans a.fr⟩
theorem rY.up(e:bP G G')(h:rY K G O o s):rY K G' O o s:=by
  cases s with
  | un=>exact h
  | va t=>obtain⟨a,v,b,c⟩:=h;exact⟨a,v,b,c.up e⟩
  | ow D l=>obtain⟨xs,a,b,c⟩:=h;exact⟨xs,a,b,c.up e⟩
  | od D d=>obtain⟨xs,a,b,c⟩:=h;exact⟨xs,a,b,c.up e⟩
  | oo x dx C fs l=>obtain⟨xs,a,b,n,f,c⟩:=h;exact⟨xs,a,b,n,f,c.up e⟩
theorem ER.grow(h:ER K p H σ ρ)(e:bP (p 0) G')(u:d8 H' (a9 p 0 G')):ER K (a9 p 0 G') H' σ ρ where
  gK:=u
  len:=h.len
  slot:=fun i s q=>by
    rw[az,aj (by omega)]
    exact (h.slot i s q).up e
  out:=fun i hi=>by rw[aj (by omega)];exact h.out i hi
theorem jv(e:bP (p 0) G'):da p (a9 p 0 G'):=⟨by rw[az];exact e,aj (by decide)⟩
theorem ER.alloc(h:ER K p H σ ρ){a:Addr}(n:H a=none)(o:HO):ER K (a9 p 0 (upd (p 0) a o)) (upd H a o) σ ρ/\bP (p 0) (upd (p 0) a o):=by
  have s:bP (p 0) (upd (p 0) a o):=fun b o' e=>by rw[aI (aU e (h.gK.fresh n 0))];exact e
  exact⟨h.grow s (h.gK.alloc n 0 o),s⟩
theorem ER.get(h:ER K p H σ ρ)(e:ρ[i]?=some (.va t)):∃ v,σ[i]?=some (some v)/\Rep K (p 0) t v:=by
  obtain⟨_,v,q,r⟩:=h.slot i _ e
  refine⟨v,?_,r⟩
  cases z:σ[i]? with
  | none=>rw[z] at q;cases q
  | some o=>rw[z] at q;exact congrArg some (show o=some v from q)
theorem ER.own(h:ER K p H σ ρ)(e:ρ[i]?=some (.ow D l)):∃ xs,σ[i]?=some (some (.ref D))/\H D=some (.lst xs)/\p (i+2)=xh D (.lst xs)/\aw K (p 0) l xs:=by
  obtain⟨xs,q,b,r⟩:=h.slot i _ e
  refine⟨xs,?_,(h.gK.mem _ _).mpr ⟨i+2,by rw[b];exact oa⟩,b,r⟩
  cases z:σ[i]? with
  | none=>rw[z] at q;cases q
  | some o=>rw[z] at q;exact congrArg some (show o=some (.ref D) from q)
theorem ER.ownD{d:List (Key×Tv)}(h:ER K p H σ ρ)(e:ρ[i]?=some (.od D d)):∃ ds,σ[i]?=some (some (.ref D))/\H D=some (.dK ds)/\p (i+2)=xh D (.dK ds)/\lA K (p 0) d ds:=by
  obtain⟨xs,q,b,r⟩:=h.slot i _ e
  refine⟨xs,?_,(h.gK.mem _ _).mpr ⟨i+2,by rw[b];exact oa⟩,b,r⟩
  cases z:σ[i]? with
  | none=>rw[z] at q;cases q
  | some o=>rw[z] at q;exact congrArg some (show o=some (.ref D) from q)
theorem ER.ownO{x dx C:Addr}{fs:List Str}(h:ER K p H σ ρ)(e:ρ[i]?=some (.oo x dx C fs l)):∃ xs,σ[i]?=some (some (.ref x))/\H x=some (.ins C dx (fs.zip xs))/\H dx=some (.own x)/\p (i+2)=i8 x dx C (fs.zip xs)/\dx≠x/\fs.length=l.length/\aw K (p 0) l xs:=by
  obtain⟨xs,q,b,n,f,r⟩:=h.slot i _ e
  refine⟨xs,?_,(h.gK.mem _ _).mpr ⟨i+2,by rw[b];exact hX⟩,(h.gK.mem _ _).mpr ⟨i+2,by rw[b];exact uc n⟩,b,n,f,r⟩
  cases z:σ[i]? with
  | none=>rw[z] at q;cases q
  | some o=>rw[z] at q;exact congrArg some (show o=some (.ref x) from q)
theorem dM(j:Nat):da p (mv p (j+2)):=⟨by rw[fO (by omega)];exact bP.gK,lK (by decide) (by omega)⟩
theorem ER.mvd(h:ER K p H σ ρ)(i:Nat):d8 H (mv p (i+2))/\∀ j s,j≠i->ρ[j]?=some s->rY K (mv p (i+2) 0) (mv p (i+2) (j+2)) (σ[j]?).join s:=by
  refine⟨h.gK.mv (by omega),fun j s n e=>?_⟩
  rw[lK (k:=j+2) (by omega) (by omega)]
  exact (h.slot j s e).up (dM i).same
theorem ER.set(h:ER K p H σ ρ)(i:Nat)(r:Rep K (p 0) t v):ER K (mv p (i+2)) H (σ.set i (some v)) (ρ.set i (.va t)):=by
  obtain⟨u,sl⟩:=h.mvd i
  refine⟨u,by rw[List.length_set,List.length_set];exact h.len,fun j s e=>?_,fun j hj=>?_⟩
  · by_cases q:j=i
    · subst q
      have hj:j<ρ.length:=by
        have:=(List.getElem?_eq_some_iff.mp e).1
        rw[List.length_set] at this;exact this
      rw[List.getElem?_set_self hj] at e
      cases e
      rw[List.getElem?_set_self (by rw[h.len];exact hj),tT]
      exact⟨rfl,v,rfl,r.up (dM j).same⟩
    · rw[List.getElem?_set_ne (Ne.symm q)] at e
      rw[List.getElem?_set_ne (Ne.symm q)]
      exact sl j s q e
  · rw[List.length_set] at hj
    by_cases q:j=i
    · rw[q,tT]
    · rw[lK (by omega) (by omega)];exact h.out j hj
theorem ER.setNew(h:ER K p H σ ρ){xs:List V}(hi:i<ρ.length)(n:H D=none)(r:aw K (p 0) l xs):
    ER K (a9 (mv p (i+2)) (i+2) (xh D (.lst xs))) (upd H D (.lst xs)) (σ.set i (some (.ref D))) (ρ.set i (.ow D l))/\da p (a9 (mv p (i+2)) (i+2) (xh D (.lst xs))):=by
  obtain⟨u,sl⟩:=h.mvd i
  have u2:=u.alloc n (i+2) (.lst xs)
  rw[tT] at u2
  have e0:a9 (mv p (i+2)) (i+2) (xh D (.lst xs)) 0=mv p (i+2) 0:=aj (by omega)
  refine⟨⟨u2,by rw[List.length_set,List.length_set];exact h.len,fun j s e=>?_,fun j hj=>?_⟩,⟨by rw[e0];exact (dM i).same,by rw[aj (by omega)];exact (dM i).fr⟩⟩
  · rw[e0]
    by_cases q:j=i
    · subst q
      rw[List.getElem?_set_self hi] at e
      cases e
      rw[List.getElem?_set_self (by rw[h.len];exact hi),az]
      exact⟨xs,rfl,rfl,r.up (dM j).same⟩
    · rw[List.getElem?_set_ne (Ne.symm q)] at e
      rw[List.getElem?_set_ne (Ne.symm q),aj (by omega)]
      exact sl j s q e
  · rw[List.length_set] at hj
    rw[aj (by omega),lK (by omega) (by omega)];exact h.out j hj
theorem ER.putOwn(h:ER K p H σ ρ){xs:List V}{l':List Tv}(e:ρ[i]?=some (.ow D l))(r:aw K (p 0) l' xs):
    ER K (a9 p (i+2) (xh D (.lst xs))) (upd H D (.lst xs)) σ (ρ.set i (.ow D l'))/\da p (a9 p (i+2) (xh D (.lst xs))):=by
  obtain⟨ys,e1,e2,e3,_⟩:=h.own e
  have hD:p (i+2) D=some (.lst ys):=by rw[e3];exact oa
  have u:=h.gK.put (i:=i+2) (a:=D) (fun j hj=>h.gK.other hD hj) (.lst xs)
  have eo:upd (p (i+2)) D (.lst xs)=xh D (.lst xs):=by rw[e3];exact iK
  rw[eo] at u
  have e0:a9 p (i+2) (xh D (.lst xs)) 0=p 0:=aj (by omega)
  have hi:i<ρ.length:=(List.getElem?_eq_some_iff.mp e).1
  refine⟨⟨u,by rw[List.length_set];exact h.len,fun j s q=>?_,fun j hj=>?_⟩,⟨by rw[e0];exact bP.refl _,aj (by omega)⟩⟩
  · rw[e0]
    by_cases z:j=i
    · subst z
      rw[List.getElem?_set_self hi] at q
      cases q
      rw[e1,az]
      exact⟨xs,rfl,rfl,r⟩
    · rw[List.getElem?_set_ne (Ne.symm z)] at q
      rw[aj (by omega)]
      exact h.slot j s q
  · rw[List.length_set] at hj
    rw[aj (by omega)];exact h.out j hj
def MW(i:Nat)(ρ:En):En:=match ρ[i]? with | some (.ow D l)=>ρ.set i (.va (.lst l)) | some (.od D d)=>ρ.set i (.va (.dic (d.map (·.1)) (d.map (·.2)))) | some (.oo _ _ C fs l)=>ρ.set i (.va (.obj C fs l)) | _=>ρ
theorem ER.frz(h:ER K p H σ ρ)(i:Nat):∃ p',ER K p' H σ (MW i ρ)/\da p p':=by
  have go:∀ {D:Addr} {t:Tv} {s:Sl},ρ[i]?=some s->σ[i]?=some (some (.ref D))->Rep K (mv p (i+2) 0) t (.ref D)->∃ p',ER K p' H σ (ρ.set i (.va t))/\da p p':=fun {D t s} e e1 r'=>by
    obtain⟨u,sl⟩:=h.mvd i
    have hi:i<ρ.length:=(List.getElem?_eq_some_iff.mp e).1
    refine⟨mv p (i+2),⟨u,by rw[List.length_set];exact h.len,fun j s q=>?_,fun j hj=>?_⟩,dM i⟩
    · by_cases z:j=i
      · subst z
        rw[List.getElem?_set_self hi] at q
        cases q
        rw[e1,tT]
        exact⟨rfl,_,rfl,r'⟩
      · rw[List.getElem?_set_ne (Ne.symm z)] at q
        exact sl j s z q
    · rw[List.length_set] at hj
      by_cases z:j=i
      · rw[z,tT]
      · rw[lK (by omega) (by omega)];exact h.out j hj
  unfold MW
  split
  · rename_i D l e
    obtain⟨xs,e1,e2,e3,r⟩:=h.own e
    exact go e e1 (ba.mpr ⟨D,xs,rfl,by
      rw[fO (by omega)]
      unfold qW
      have hD:p (i+2) D=some (.lst xs):=by rw[e3];exact oa
      rw[h.gK.other hD (by omega)];exact hD,r.up (dM i).same⟩)
  · rename_i D d e
    obtain⟨xs,e1,e2,e3,r⟩:=h.ownD e
    exact go e e1 ((r.up (dM i).same).dic (by
      rw[fO (by omega)]
      unfold qW
      have hD:p (i+2) D=some (.dK xs):=by rw[e3];exact oa
      rw[h.gK.other hD (by omega)];exact hD))
  · rename_i x dx C fs l e
    obtain⟨xs,e1,e2,NV,e3,n,f,r⟩:=h.ownO e
    have hx:p (i+2) x=some (.ins C dx (fs.zip xs)):=by rw[e3];exact hX
    have hd:p (i+2) dx=some (.own x):=by rw[e3];exact uc n
    refine go e e1 ?_
    unfold Rep
    refine⟨x,dx,xs,rfl,?_,?_,f,r.up (dM i).same⟩
    · rw[fO (by omega)];unfold qW;rw[h.gK.other hx (by omega)];exact hx
    · rw[fO (by omega)];unfold qW;rw[h.gK.other hd (by omega)];exact hd
  · exact⟨p,h,.refl⟩
theorem ER.less(h:ER K p H σ ρ')(hl:ρ.length=ρ'.length)(hs:∀ (j:Nat) (s:Sl),ρ[j]?=some s->(s=.un/\∀ s',ρ'[j]?=some s'->s'.mine=false)\/ρ'[j]?=some s):ER K p H σ ρ:=by
  refine⟨h.gK,h.len.trans hl.symm,fun j s e=>?_,fun j hj=>h.out j (by omega)⟩
  rcases hs j s e with ⟨rfl,n⟩ | q
  · have hj:j<ρ'.length:=by rw[← hl];exact (List.getElem?_eq_some_iff.mp e).1
    have q:=h.slot j _ (List.getElem?_eq_getElem hj)
    cases z:ρ'[j] with
    | un=>rw[z] at q;exact q
    | va t=>rw[z] at q;exact q.1
    | ow D l=>cases n (.ow D l) (by rw[List.getElem?_eq_getElem hj,z])
    | od D d=>cases n (.od D d) (by rw[List.getElem?_eq_getElem hj,z])
    | oo x dx C fs l=>cases n (.oo x dx C fs l) (by rw[List.getElem?_eq_getElem hj,z])
  · exact h.slot j s q
end
end L2
namespace L2
open PySem PySem.Spec PyProof.Rows
inductive yh(α:Type) where
  | ok (a:α) | er (c:Addr)
abbrev Mv(α:Type):=En->(yh α->En->Prop)->Prop
inductive Fl where
  | nx | rt (r:Sl) | bk | ct | er (c:Addr) | rk (t:Tv)
abbrev Sv:=En->(Fl->En->Prop)->Prop
abbrev Ct:=List Tv->(yh Sl->Prop)->Prop
def V0{α β:Type}(k:α->Mv β)(P:yh β->En->Prop):yh α->En->Prop:=fun a ρ1=>match a with | .ok x=>k x ρ1 P | .er c=>P (.er c) ρ1
def bo{α β:Type}(m:Mv α)(k:α->Mv β):Mv β:=fun ρ P=>m ρ (V0 k P)
def ag(i:Nat):Mv Tv:=fun ρ P=>match ρ[i]? with | some (.va t)=>P (.ok t) ρ | _=>False
def vC(t:Tv):Mv Tv:=fun ρ P=>P (.ok t) ρ
def ck(W:Tv->Tv->(Tv->Prop)->Prop)(a b:Mv Tv):Mv Tv:=bo a fun x=>bo b fun y ρ P=>W x y fun t=>P (.ok t) ρ
def ko(W:Tv->(Tv->Prop)->Prop)(a:Mv Tv):Mv Tv:=bo a fun x ρ P=>W x fun t=>P (.ok t) ρ
def fF:List (Mv Tv)->Mv (List Tv)
  | []=>fun ρ P=>P (.ok []) ρ
  | m::ms=>bo m fun x=>bo (fF ms) fun xs ρ P=>P (.ok (x::xs)) ρ
def fG(ms:List (Mv Tv)):Mv Tv:=bo (fF ms) fun xs ρ P=>P (.ok (.tup xs)) ρ
def cY(ms:List (Mv Tv)):Mv Tv:=bo (fF ms) fun xs ρ P=>P (.ok (.lst xs)) ρ
def rh(W:List Tv->(Tv->Prop)->Prop)(ms:List (Mv Tv)):Mv Tv:=bo (fF ms) fun xs ρ P=>W xs fun t=>P (.ok t) ρ
def E8(ρ:En)(P:yh Tv->En->Prop):yh Sl->Prop:=fun a=>match a with | .ok (.va t)=>P (.ok t) ρ | .ok (.ow _ l)=>P (.ok (.lst l)) ρ | .ok (.od _ d)=>P (.ok (.dic (d.map (·.1)) (d.map (·.2)))) ρ | .ok (.oo _ _ C fs l)=>P (.ok (.obj C fs l)) ρ | .ok .un=>False | .er c=>P (.er c) ρ
def bB(C:Ct)(ms:List (Mv Tv)):Mv Tv:=bo (fF ms) fun xs ρ P=>C xs (E8 ρ P)
def T4{α:Type}(c:Mv Bool)(a b:Mv α):Mv α:=bo c fun x=>if x then a else b
def j'(W:Tv->(Bool->Prop)->Prop)(m:Mv Tv):Mv Bool:=bo m fun x ρ P=>W x fun t=>P (.ok t) ρ
def Qh(a b:Mv Bool):Mv Bool:=bo a fun x=>if x then b else fun ρ P=>P (.ok false) ρ
def Ma(a b:Mv Bool):Mv Bool:=bo a fun x=>if x then fun ρ P=>P (.ok true) ρ else b
def Dh(a:Mv Bool):Mv Bool:=bo a fun x ρ P=>P (.ok (!x)) ρ
def OU:Mv Bool:=fun ρ P=>P (.ok true) ρ
def LW(a b:Mv Tv):Mv Tv:=bo a fun x=>match x with | .bl c=>(if c=true then b else fun ρ P=>P (.ok (.bl false)) ρ) | _=>fun _ _=>False
def K1(m:Mv Tv):Mv (List Tv):=bo m fun x=>match x with | .tup l=>fun ρ P=>P (.ok l) ρ | .lst l=>fun ρ P=>P (.ok l) ρ | .scr l=>fun ρ P=>P (.ok l) ρ | _=>fun _ _=>False
def zg(lo:Int)(n:Nat):List Tv:=(List.range n).map fun (k:Nat)=>Tv.int (lo+k)
def EO(m:Mv Tv):Mv (List Tv):=bo (fF [m]) fun x=>match x with | [.int j]=>fun ρ P=>(-(2 ^ 62)<=j/\j<2 ^ 62)/\P (.ok (zg 0 j.toNat)) ρ | _=>fun _ _=>False
def BL(l:List Tv):List Tv:=l.mapIdx fun i t=>.tup [.int i,t]
def Mf(m:Mv Tv):Mv (List Tv):=bo (fF [m]) fun x=>match x with | [.tup l]=>fun ρ P=>P (.ok (BL l)) ρ | _=>fun _ _=>False
abbrev Gv:=Tv->En->Option En
def gV(i:Nat):Gv:=fun t ρ=>some (ρ.set i (.va t))
def Hv:List Nat->List Tv->En->En
  | i::is,t::ts,ρ=>Hv is ts (ρ.set i (.va t))
  | _,_,ρ=>ρ
def gT(is:List Nat):Gv:=fun t ρ=>match t with | .tup l=>if l.length=is.length then some (Hv is l ρ) else none | _=>none
def mx(g:Gv)(c:Mv Bool)(e:Mv Tv)(ρ0:En):List Tv->List Tv->(List Tv->Prop)->Prop
  | [],acc,P=>P acc
  | x::xs,acc,P=>∃ ρ,g x ρ0=some ρ/\c ρ fun b ρ1=>ρ1=ρ/\match b with
    | .ok true=>e ρ fun r ρ2=>ρ2=ρ/\match r with | .ok y=>mx g c e ρ0 xs (acc++[y]) P | .er _=>False
    | .ok false=>mx g c e ρ0 xs acc P
    | .er _=>False
def t8(nt:Nat)(js:List Nat)(ρ:En):En:=List.replicate nt .un++js.map fun j=>match ρ[j]? with | some (.va t)=>.va t | _=>.un
def BC(nt:Nat)(js:List Nat)(it:Mv (List Tv))(g:Gv)(c:Mv Bool)(e:Mv Tv):Mv Tv:=
  bo it fun xs ρ P=>xs.length<sizeLine/\mx g c e (t8 nt js ρ) xs [] fun ys=>P (.ok (.lst ys)) ρ
def dc:Sv:=fun ρ P=>P .nx ρ
def U_(b:Sv)(P:Fl->En->Prop):Fl->En->Prop:=fun f ρ1=>match f with | .nx=>b ρ1 P | .rt r=>P (.rt r) ρ1 | .bk=>P .bk ρ1 | .ct=>P .ct ρ1 | .er c=>P (.er c) ρ1 | .rk t=>P (.rk t) ρ1
def aE(a b:Sv):Sv:=fun ρ P=>a ρ (U_ b P)
def doK{α:Type}(k:α->Sv)(P:Fl->En->Prop):yh α->En->Prop:=fun a ρ1=>match a with | .ok x=>k x ρ1 P | .er c=>P (.er c) ρ1
def F'{α:Type}(m:Mv α)(k:α->Sv):Sv:=fun ρ P=>m ρ (doK k P)
def bM(i:Nat)(m:Mv Tv):Sv:=F' m fun t ρ P=>P .nx (ρ.set i (.va t))
def Tg(g:Gv)(m:Mv Tv):Sv:=F' m fun t ρ P=>∃ ρ',g t ρ=some ρ'/\P .nx ρ'
def QL(i j:Nat)(a b:Mv Tv):Sv:=F' (fF [a,b]) fun ts ρ P=>match ts with | [x,y]=>P .nx ((ρ.set i (.va x)).set j (.va y)) | _=>False
def B6(m:Mv Tv):Sv:=F' m fun _ ρ P=>P .nx ρ
def gk(m:Mv Tv):Sv:=F' m fun t ρ P=>P (.rt (.va t)) ρ
def f_(c:Mv Bool)(a b:Sv):Sv:=F' c fun x=>if x then a else b
def EA(i:Nat)(ms:List (Mv Tv)):Sv:=F' (fF ms) fun xs ρ P=>∀ D,P .nx (ρ.set i (.ow D xs))
def Ke(i:Nat)(m:Mv Tv):Sv:=fun ρ P=>match ρ[i]? with
  | some (.ow _ _)=>F' m (fun t ρ P=>match ρ[i]? with | some (.ow D l)=>l.length<sizeLine/\P .nx (ρ.set i (.ow D (l++[t]))) | _=>False) ρ P
  | _=>False
def Gr(i:Nat)(s:Sv):Sv:=fun ρ P=>s (MW i ρ) P
def F9(K:En->Prop)(P:Fl->En->Prop):Fl->En->Prop:=fun f ρ2=>match f with | .nx=>K ρ2 | .ct=>K ρ2 | .bk=>P .nx ρ2 | .rt r=>P (.rt r) ρ2 | .er c=>P (.er c) ρ2 | .rk t=>P (.rk t) ρ2
def FP(g:Gv)(b:Sv):List Tv->Sv
  | []=>fun ρ P=>P .nx ρ
  | x::xs=>fun ρ P=>∃ ρ',g x ρ=some ρ'/\b ρ' (F9 (fun ρ2=>FP g b xs ρ2 P) P)
def FT(it:Mv (List Tv))(g:Gv)(b:Sv):Sv:=F' it fun xs=>FP g b xs
def Ab(c:Mv Bool)(b:Sv):Sv:=fun ρ P=>∃ W:Nat->En->Prop,(∃ m,W m ρ)/\∀ m ρ,W m ρ->c ρ fun a ρ1=>match a with
  | .ok x=>(if x=true then fun ρ1=>b ρ1 (F9 (fun ρ2=>∃ m',m'<m/\W m' ρ2) P) else fun ρ1=>P .nx ρ1) ρ1
  | .er c=>P (.er c) ρ1
def oq(C:Addr)(ms:List (Mv Tv)):Sv:=F' (fF ms) fun _ ρ P=>P (.er C) ρ
def bg(P:yh Sl->Prop):Fl->En->Prop:=fun f _=>match f with | .rt r=>P (.ok r) | .nx=>P (.ok (.va .non)) | .er c=>P (.er c) | .bk=>False | .ct=>False | .rk _=>False
def fu(n:Nat)(b:Sv):Ct:=fun ts P=>b (ts.map Sl.va++List.replicate (n-ts.length) Sl.un) (bg P)
section
variable {K:PySem.W.Frag} {E:St->XK}
def tA{α β:Type}(K:PySem.W.Frag)(E:St->XK)(R:Hp->α->β->Prop)(m:Mv α)(p:iL)(ρ:En)(σ:St)(Q:β->Hp->Prop):Prop:=
  ∃ P,m ρ P/\(∀ a ρ',P (.ok a) ρ'->∀ v p' H',da p p'->ER K p' H' σ ρ'->R (p' 0) a v->Q v H')/\(∀ c ρ',P (.er c) ρ'->∀ p' H',da p p'->ER K p' H' σ ρ'->E σ (.ref c) none H')
def tG{α β:Type}(K:PySem.W.Frag)(E:St->XK)(R:Hp->α->β->Prop)(m:Mv α)(σ:St)(H:Hp)(Q:β->Hp->Prop):Prop:=∃ p ρ,ER K p H σ ρ/\tA K E R m p ρ σ Q
abbrev RB:Hp->Bool->Bool->Prop:=fun _ a b=>b=a
def tV(K:PySem.W.Frag)(E:St->XK)(m:Mv Tv):TE:=tG K E (Rep K) m
def PP(K:PySem.W.Frag)(E:St->XK)(m:Mv (List Tv)):TA:=tG K E (aw K) m
def xn(K:PySem.W.Frag)(E:St->XK)(m:Mv Bool):TT:=tG K E RB m
def lh(K:PySem.W.Frag)(E:St->XK)(ms:List (Mv Tv)):TA:=fun σ H Q=>PP K E (fF ms) σ H fun vs H'=>vs.length=ms.length->Q vs H'
theorem tA.mono{α β:Type}{R:Hp->α->β->Prop}{m:Mv α}{p:iL}{ρ:En}{σ:St}{Q Q':β->Hp->Prop}(h:tA K E R m p ρ σ Q)(k:∀ v H,Q v H->Q' v H):tA K E R m p ρ σ Q':=
  let ⟨P,a,b,c⟩:=h;⟨P,a,fun x ρ' q v p' H' g e r=>k _ _ (b x ρ' q v p' H' g e r),c⟩
theorem tA.bind{α β γ δ:Type}{R1:Hp->α->β->Prop}{R2:Hp->γ->δ->Prop}{m:Mv α}{k:α->Mv γ}{p:iL}{ρ:En}{σ:St}{Q:δ->Hp->Prop}(h:tA K E R2 (bo m k) p ρ σ Q):
    tA K E R1 m p ρ σ (fun v H1=>∃ x p1 ρ1,da p p1/\ER K p1 H1 σ ρ1/\R1 (p1 0) x v/\tA K E R2 (k x) p1 ρ1 σ Q):=by
  obtain⟨P,a,b,c⟩:=h
  refine⟨_,a,fun x ρ' q v p' H' g e r=>⟨x,p',ρ',g,e,r,P,q,fun y ρ2 q2 v2 p2 H2 g2=>b y ρ2 q2 v2 p2 H2 (g.trans g2),fun y ρ2 q2 p2 H2 g2=>c y ρ2 q2 p2 H2 (g.trans g2)⟩,fun x ρ' q p' H' g e=>c x ρ' q p' H' g e⟩
theorem tA.pure{α β:Type}{R:Hp->α->β->Prop}{x:α}{p:iL}{ρ:En}{σ:St}{H:Hp}{v:β}{Q:β->Hp->Prop}(h:tA K E R (fun ρ P=>P (.ok x) ρ) p ρ σ Q)(e:ER K p H σ ρ)(r:R (p 0) x v):Q v H:=
  let ⟨_,a,b,_⟩:=h;b x ρ a v p H .refl e r
end
section
variable {X:Cx} {K:PySem.W.Frag} {E:St->XK}
theorem PE.imp{e:Expr}{t t':TE}(h:PE X e t)(k:∀ σ H Q,t' σ H Q->t σ H Q):PE X e t':=fun pins s σ H Q I q=>h pins s σ H Q I (k σ H Q q)
theorem PT.imp{e:Expr}{t t':TT}(h:PT X e t)(k:∀ σ H Q,t' σ H Q->t σ H Q):PT X e t':=fun pins s σ H Q I q=>h pins s σ H Q I (k σ H Q q)
theorem PW.imp{e:Expr}{t t':TT}(h:PW X e t)(k:∀ σ H Q,t' σ H Q->t σ H Q):PW X e t':=fun w pins s σ H Q I q=>h w pins s σ H Q I (k σ H Q q)
theorem PA.imp{e:List Expr}{t t':TA}(h:PA X e t)(k:∀ σ H Q,t' σ H Q->t σ H Q):PA X e t':=fun pos pins s σ H Q I q=>h pos pins s σ H Q I (k σ H Q q)
theorem PS.imp{e:Stmt}{t t':TS}(h:PS X e t)(k:∀ D σ H,t' D σ H->t D σ H):PS X e t':=fun pins s σ H D I q=>h pins s σ H D I (k D σ H q)
theorem ju.imp{e:List Stmt}{t t':TS}(h:ju X e t)(k:∀ D σ H,t' D σ H->t D σ H):ju X e t':=fun pins s σ H D I q=>h pins s σ H D I (k D σ H q)
theorem PI.imp{tg e:Expr}{t t':TI}(h:PI X tg e t)(k:∀ σ H R,t' σ H R->t σ H R):PI X tg e t':=fun pins s σ H R I q=>h pins s σ H R I (k σ H R q)
theorem rA.imp{e:List Expr}{t t':TT}(h:rA X e t)(k:∀ σ H Q,t' σ H Q->t σ H Q):rA X e t':=fun pins s σ H Q I q=>h pins s σ H Q I (k σ H Q q)
theorem v_var{i:Nat}{x:Str}{pos:Pos}(hN:X.N[i]?=some x)(hv:Hw X.env.scope x)(hd:(x==("__debug__":Str))=false:=by decide)(qF:(x==("__classdict__":Str))=false:=by decide):PE X (.Name x pos) (tV K E (ag i)):=
  (aW hN hv hd qF).imp fun σ H Q ⟨p,ρ,er,P,a,b,_⟩=>by
    unfold ag at a
    split at a
    · rename_i t e
      obtain⟨v,h1,h2⟩:=er.get e
      exact⟨v,h1,b t ρ a v p H .refl er h2⟩
    · exact a.elim
theorem qI{e:Expr}{t:Tv}{v:V}(h:PE X e (tC v))(r:∀ G,Rep K G t v):PE X e (tV K E (vC t)):=
  h.imp fun σ H Q ⟨p,ρ,er,P,a,b,_⟩=>b t ρ a v p H .refl er (r _)
theorem au{i:Int}{j:Nat}{pos:Pos}:PE X (.Constant (.int i) j pos) (tV K E (vC (.int i))):=qI mO fun _=>ao.mpr rfl
theorem JR{b:Bool}{j:Nat}{pos:Pos}:PE X (.Constant (.bool b) j pos) (tV K E (vC (.bl b))):=qI Jp fun _=>aG.mpr rfl
theorem Bd{j:Nat}{pos:Pos}:PE X (.Constant .none j pos) (tV K E (vC .non)):=qI LN fun _=>d7.mpr rfl
theorem aq{x:Str}{j:Nat}{pos:Pos}:PE X (.Constant (.str x) j pos) (tV K E (vC (.str x))):=qI fR fun _=>aC.mpr rfl
theorem Ac{x:Str}{v:V}{u:Value}{t:Tv}{pos:Pos}(hg:Gl X x)(hm:X.mg x=some u)(r:RelV v u)(hr:∀ G,Rep K G t v)(hd:(x==("__debug__":Str))=false:=by decide):PE X (.Name x pos) (tV K E (vC t)):=qI (jP hg hm r hd) hr
theorem V5{x:Str}{T:String}{pos:Pos}(hg:Gl X x)(hm:X.mg x=none)(hv:bootBuiltins x=some (.type T))(hn:x≠"__name__":=by decide)(hd:(x==("__debug__":Str))=false:=by decide):PE X (.Name x pos) (tV K E (vC (.ty T))):=qI (Ih (v:=.ty T) hg hm hv rfl hn hd) fun _=>Hx.mpr rfl
def rV(K:PySem.W.Frag)(W:Tv->Tv->(Tv->Prop)->Prop):R2:=fun x y H Q=>∃ p a b P,d8 H p/\Rep K (p 0) a x/\Rep K (p 0) b y/\W a b P/\∀ t,P t->∀ v G' H',bP (p 0) G'->d8 H' (a9 p 0 G')->Rep K G' t v->Q v H'
def Kw(K:PySem.W.Frag)(W:List Tv->(Tv->Prop)->Prop):List V->Hp->VK->Prop:=fun xs H Q=>∃ p l P,d8 H p/\aw K (p 0) l xs/\W l P/\∀ t,P t->∀ v G' H',bP (p 0) G'->d8 H' (a9 p 0 G')->Rep K G' t v->Q v H'
theorem zI{W:(Tv->Prop)->Prop}{p:iL}{ρ:En}{σ:St}{H:Hp}{Q:VK}(er:ER K p H σ ρ)(h:tA K E (Rep K) (fun ρ P=>W fun t=>P (.ok t) ρ) p ρ σ Q):∃ P,W P/\∀ t,P t->∀ v G' H',bP (p 0) G'->d8 H' (a9 p 0 G')->Rep K G' t v->Q v H':=by
  obtain⟨P,a,b,_⟩:=h
  exact⟨_,a,fun t q v G' H' s u r=>b t ρ q v _ H' (jv s) (er.grow s u) (by rw[az];exact r)⟩
theorem BS{W:Tv->Tv->(Tv->Prop)->Prop}{ma mb:Mv Tv}:∀ σ H Q,tV K E (ck W ma mb) σ H Q->VP (rV K W) (tV K E ma) (tV K E mb) σ H Q:=fun σ H Q ⟨p,ρ,er,h⟩=>
  ⟨p,ρ,er,h.bind.mono fun v H1 ⟨x,p1,ρ1,g1,bK,r1,h1⟩=>⟨p1,ρ1,bK,h1.bind.mono fun u H2 ⟨y,p2,ρ2,g2,er2,r2,h2⟩=>
    let ⟨P,a,b⟩:=zI er2 h2;⟨p2,x,y,P,er2.gK,r1.up g2.same,r2,a,b⟩⟩⟩
theorem bI{W:Tv->Tv->(Tv->Prop)->Prop}{op:Operator}{a b:Expr}{ma mb:Mv Tv}{pos:Pos}(ho:gJ X (binaryOp op) (rV K W))(ha:PE X a (tV K E ma))(hb:PE X b (tV K E mb)):PE X (.BinOp a op b pos) (tV K E (ck W ma mb)):=(zQ ho ha hb).imp BS
theorem wV{W:Tv->Tv->(Tv->Prop)->Prop}{op:CmpOp}{a b:Expr}{ma mb:Mv Tv}{pos:Pos}(ho:gJ X (compareOp op) (rV K W))(ha:PE X a (tV K E ma))(hb:PE X b (tV K E mb))(hm:behindInMarks op b=false):PE X (.Compare a [op] [b] pos) (tV K E (ck W ma mb)):=(Ik ho ha hb hm).imp BS
theorem d9{W:Tv->Tv->(Tv->Prop)->Prop}{a b:Expr}{ma mb:Mv Tv}{pos:Pos}(ho:Jl X (rV K W))(ha:PE X a (tV K E ma))(hb:PE X b (tV K E mb))(hs:Iz b):PE X (.Subscript a b pos) (tV K E (ck W ma mb)):=(VG ho ha hb hs).imp BS
def wBl(W:Tv->Tv->(Tv->Prop)->Prop):Tv->Tv->(Bool->Prop)->Prop:=fun x y k=>W x y fun t=>match t with | .bl b=>k b | _=>False
def eK(W:Tv->Tv->(Tv->Prop)->Prop)(a b:Mv Tv):Mv Bool:=bo a fun x=>bo b fun y ρ P=>wBl W x y fun t=>P (.ok t) ρ
theorem aZ{W:Tv->Tv->(Tv->Prop)->Prop}{op:CmpOp}{a b:Expr}{ma mb:Mv Tv}{pos:Pos}(ho:gJ X (compareOp op) (rV K W))(ha:PE X a (tV K E ma))(hb:PE X b (tV K E mb))(hm:behindInMarks op b=false):PT X (.Compare a [op] [b] pos) (xn K E (eK W ma mb)):=
  (qG ho ha hb hm).imp fun σ H Q ⟨p,ρ,er,h⟩=>⟨p,ρ,er,h.bind.mono fun v H1 ⟨x,p1,ρ1,g1,bK,r1,h1⟩=>⟨p1,ρ1,bK,h1.bind.mono fun u H2 ⟨y,p2,ρ2,g2,er2,r2,P,a,b,_⟩=>
    ⟨p2,x,y,_,er2.gK,r1.up g2.same,r2,a,fun t q v G' H' s u r=>by
      cases t with
      | bl k=>exact⟨k,aG.mp r,b k ρ2 q k _ H' (jv s) (er2.grow s u) rfl⟩
      | _=>exact q.elim⟩⟩⟩
def pf:Tv->(Bool->Prop)->Prop
  | .non,k=>k false
  | .bl b,k=>k b
  | .int i,k=>k (i != 0)
  | .str y,k=>y.length<=sizeLine/\k ((y.length:Int) != 0)
  | .tup l,k=>k (!l.isEmpty)
  | .lst l,k=>k (!l.isEmpty)
  | .scr l,k=>k (!l.isEmpty)
  | _,_=>False
theorem aw.emp{G:Hp}{l:List Tv}{xs:List V}(h:aw K G l xs):xs.isEmpty=l.isEmpty:=by
  have:=h.len
  cases l <;> cases xs <;> simp at this ⊢
theorem QP{x:Tv}{v:V}{p:iL}{H:Hp}{k:Bool->Prop}(u:d8 H p)(r:Rep K (p 0) x v)(h:pf x k):∃ b,SI K v H b/\k b:=by
  cases x with
  | non=>rw[d7.mp r];exact⟨_,rfl,h⟩
  | bl b=>rw[aG.mp r];exact⟨_,rfl,h⟩
  | int i=>rw[ao.mp r];exact⟨_,rfl,h⟩
  | str y=>rw[aC.mp r];exact⟨_,⟨h.1,rfl⟩,h.2⟩
  | tup l=>
    obtain⟨a,xs,rfl,s,q⟩:=cb r
    exact⟨_,.inr (.inl ⟨xs,(u.sub 0).seqT s,rfl⟩),by rw[q.emp];exact h⟩
  | lst l=>
    obtain⟨a,xs,rfl,s,q⟩:=ba.mp r
    exact⟨_,.inl ⟨xs,fW.of (u.sub 0 _ _ s),rfl⟩,by rw[q.emp];exact h⟩
  | scr l=>
    obtain⟨a,xs,rfl,s,q⟩:=qA.mp r
    exact⟨_,.inl ⟨xs,(u.sub 0).seq s,rfl⟩,by rw[q.emp];exact h⟩
  | _=>exact h.elim
theorem ic{a:Expr}{m:Mv Tv}(hK:X.K=K)(ha:PE X a (tV K E m))(he:∀ whole,isTrue a X.env whole=(do let v ← whole;standAt a.pos;holding [v] (truthy v)):=by intro _;rfl):PT X a (xn K E (j' pf m)):=by
  subst hK
  exact (L8 ha he).imp fun σ H Q ⟨p,ρ,er,h⟩=>⟨p,ρ,er,h.bind.mono fun v H1 ⟨x,p1,ρ1,g1,bK,r1,P,a,b,_⟩=>
    let ⟨k,h1,h2⟩:=QP bK.gK r1 a;⟨k,h1,b k ρ1 h2 k p1 H1 .refl bK rfl⟩⟩
theorem p8{a:Expr}{m:Mv Bool}{pos:Pos}(ha:PT X a (xn K E m)):PT X (.UnaryOp .Not a pos) (xn K E (Dh m)):=
  (SQ ha).imp fun σ H Q ⟨p,ρ,er,h⟩=>⟨p,ρ,er,h.bind.mono fun v H1 ⟨x,p1,ρ1,g1,bK,r1,P,a,b,_⟩=>b _ ρ1 a _ p1 H1 .refl bK (congrArg (!·) r1)⟩
theorem OZ{α β:Type}{R:Hp->α->β->Prop}{m:Mv Bool}{a b:Mv α}{σ:St}{H:Hp}{Q:β->Hp->Prop}(h:tG K E R (T4 m a b) σ H Q):xn K E m σ H fun c H1=>if c=true then tG K E R a σ H1 Q else tG K E R b σ H1 Q:=
  let ⟨p,ρ,er,h⟩:=h;⟨p,ρ,er,h.bind.mono fun v H1 ⟨x,p1,ρ1,g1,bK,r1,h1⟩=>by
    have r1:v=x:=r1
    subst r1
    cases v with
    | true=>exact⟨p1,ρ1,bK,h1⟩
    | false=>exact⟨p1,ρ1,bK,h1⟩⟩
theorem zZ{b:Bool}{σ:St}{H:Hp}{Q:Bool->Hp->Prop}(h:xn K E (fun ρ P=>P (.ok b) ρ) σ H Q):Q b H:=let ⟨_,_,er,h⟩:=h;h.pure er rfl
theorem Ic{a:Expr}{m:Mv Bool}{pos:Pos}(ha:PT X a (xn K E m)):PW X (.BoolOp .And [a] pos) (xn K E m):=OE ha
theorem vY{a:Expr}{m:Mv Bool}{pos:Pos}(ha:PT X a (xn K E m)):PW X (.BoolOp .Or [a] pos) (xn K E m):=G9 ha
theorem KW{a b:Expr}{rest:List Expr}{m n:Mv Bool}{pos:Pos}(ha:PT X a (xn K E m))(hb:PW X (.BoolOp .And (b::rest) pos) (xn K E n)):PW X (.BoolOp .And (a::b::rest) pos) (xn K E (Qh m n)):=
  (Qe ha hb).imp fun σ H Q ⟨p,ρ,er,h⟩=>⟨p,ρ,er,h.bind.mono fun v H1 ⟨x,p1,ρ1,g1,bK,r1,h1⟩=>by
    have r1:v=x:=r1
    subst r1
    cases v with
    | true=>exact⟨p1,ρ1,bK,h1⟩
    | false=>exact zZ ⟨p1,ρ1,bK,h1⟩⟩
theorem rL{a b:Expr}{rest:List Expr}{m n:Mv Bool}{pos:Pos}(ha:PT X a (xn K E m))(hb:PW X (.BoolOp .Or (b::rest) pos) (xn K E n)):PW X (.BoolOp .Or (a::b::rest) pos) (xn K E (Ma m n)):=
  (BE ha hb).imp fun σ H Q ⟨p,ρ,er,h⟩=>⟨p,ρ,er,h.bind.mono fun v H1 ⟨x,p1,ρ1,g1,bK,r1,h1⟩=>by
    have r1:v=x:=r1
    subst r1
    cases v with
    | false=>exact⟨p1,ρ1,bK,h1⟩
    | true=>exact zZ ⟨p1,ρ1,bK,h1⟩⟩
theorem Jb{c a b:Expr}{m:Mv Bool}{ma mb:Mv Tv}{pos:Pos}(hc:PT X c (xn K E m))(ha:PE X a (tV K E ma))(hb:PE X b (tV K E mb)):PE X (.IfExp c a b pos) (tV K E (T4 m ma mb)):=(F3 hc ha hb).imp fun _ _ _ h=>OZ h
theorem v_and{a b:Expr}{rest:List Expr}{m n:Mv Tv}{pos:Pos}(ha:PE X a (tV K E m))(hb:PE X (.BoolOp .And (b::rest) pos) (tV K E n)):PE X (.BoolOp .And (a::b::rest) pos) (tV K E (LW m n)):=
  (KG ha hb).imp fun σ H Q ⟨p,ρ,er,h⟩=>⟨p,ρ,er,h.bind.mono fun v H1 ⟨x,p1,ρ1,g1,bK,r1,h1⟩=>by
    cases x with
    | bl c=>
      refine⟨c,aG.mp r1,?_⟩
      cases c with
      | true=>exact⟨p1,ρ1,bK,h1⟩
      | false=>exact h1.pure bK (aG.mpr rfl)
    | _=>obtain⟨_,z,_⟩:=h1;exact z.elim⟩
theorem PL{op:BoolOp}{a:Expr}{m:Mv Tv}{pos:Pos}(ha:PE X a (tV K E m)):PE X (.BoolOp op [a] pos) (tV K E m):=KS ha
theorem ae:PA X [] (lh K E []):=cD.imp fun σ H Q ⟨p,ρ,er,h⟩=>h.pure er aw.nil rfl
theorem ia{e:Expr}{es:List Expr}{m:Mv Tv}{ms:List (Mv Tv)}(ha:PE X e (tV K E m))(hr:PA X es (lh K E ms))(hs:starEach (e::es) X.env=(false,eval e X.env)::starEach es X.env):PA X (e::es) (lh K E (m::ms)):=
  (aV ha hr hs).imp fun σ H Q ⟨p,ρ,er,h⟩=>⟨p,ρ,er,h.bind.mono fun v H1 ⟨x,p1,ρ1,g1,bK,r1,h1⟩=>⟨p1,ρ1,bK,h1.bind.mono fun vs H2 ⟨xs,p2,ρ2,g2,er2,r2,h2⟩ hl=>h2.pure er2 (.cons (r1.up g2.same) r2) (by rw[List.length_cons,List.length_cons,hl])⟩⟩
theorem PP.toA{ms:List (Mv Tv)}{σ:St}{H:Hp}{Q:List V->Hp->Prop}(h:PP K E (fF ms) σ H Q):lh K E ms σ H Q:=let ⟨p,ρ,er,h⟩:=h;⟨p,ρ,er,h.mono fun _ _ q _=>q⟩
theorem PA.toS{es:List Expr}{ms:List (Mv Tv)}(h:PA X es (lh K E ms)):PA X es (PP K E (fF ms)):=h.imp fun _ _ _ q=>PP.toA q
theorem xS{n:Nat}(h:n<=1000):n<=sizeLine:=Nat.le_of_lt (Jy h)
theorem cy{es:List Expr}{ms:List (Mv Tv)}{k:Nat}{pos:Pos}(h:PA X es (lh K E ms))(hz:ms.length<=1000:=by decide):PE X (.Tuple es k pos) (tV K E (fG ms)):=
  (G1 h).imp fun σ H Q ⟨p,ρ,er,h⟩=>⟨p,ρ,er,h.bind.mono fun vs H1 ⟨xs,p1,ρ1,g1,bK,r1,P,a,b,_⟩ hl=>by
    refine⟨by rw[hl];exact xS hz,fun q hq=>?_⟩
    obtain⟨e2,s2⟩:=bK.alloc hq (.tup vs)
    refine b _ ρ1 a _ _ _ (jv s2) e2 (la.mpr ⟨q,vs,rfl,GR.of ?_,?_⟩)
    · rw[az];exact aH
    · rw[az];exact r1.up s2⟩
theorem bj{es:List Expr}{ms:List (Mv Tv)}{pos:Pos}(h:PA X es (lh K E ms))(hz:ms.length<=1000:=by decide):PE X (.List es pos) (tV K E (cY ms)):=
  (MH h).imp fun σ H Q ⟨p,ρ,er,h⟩=>⟨p,ρ,er,h.bind.mono fun vs H1 ⟨xs,p1,ρ1,g1,bK,r1,P,a,b,_⟩ hl=>by
    refine⟨by rw[hl];exact xS hz,fun q hq=>?_⟩
    obtain⟨e2,s2⟩:=bK.alloc hq (.lst vs)
    refine b _ ρ1 a _ _ _ (jv s2) e2 (ba.mpr ⟨q,vs,rfl,?_,?_⟩)
    · rw[az];exact aH
    · rw[az];exact r1.up s2⟩
theorem Iw{W:List Tv->(Tv->Prop)->Prop}{ms:List (Mv Tv)}:∀ σ H Q,tV K E (rh W ms) σ H Q->Zm (Kw K W) (PP K E (fF ms)) σ H Q:=fun σ H Q ⟨p,ρ,er,h⟩=>
  ⟨p,ρ,er,h.bind.mono fun vs H1 ⟨xs,p1,ρ1,g1,bK,r1,h1⟩=>let ⟨P,a,b⟩:=zI bK h1;⟨p1,xs,P,bK.gK,r1,a,b⟩⟩
theorem my{W:List Tv->(Tv->Prop)->Prop}{x:Str}{id:String}{e:Expr}{es:List Expr}{ms:List (Mv Tv)}{p pos:Pos}(hc:dW X (.builtin id) (Kw K W))(hg:Gl X x)(hm:X.mg x=none)(hv:bootBuiltins x=some (.builtin id))(ha:PA X (e::es) (lh K E ms))(hn:x≠"__name__":=by decide)(qc:(x==("__debug__":Str))=false:=by decide)
    (he:starEach (e::es) X.env=(false,eval e X.env)::starEach es X.env:=by rfl) (qz:(backTo pos (starEach es X.env)).any (·.1)=false:=by rfl):PE X (.Call (.Name x p) (e::es) [] pos) (tV K E (rh W ms)):=(fm hc hg hm hv ha.toS hn qc he qz).imp Iw
theorem kI{W:List Tv->(Tv->Prop)->Prop}{x:Str}{T:String}{e:Expr}{es:List Expr}{ms:List (Mv Tv)}{p pos:Pos}(hc:dW X (.type T) (Kw K W))(hg:Gl X x)(hm:X.mg x=none)(hv:bootBuiltins x=some (.type T))(ha:PA X (e::es) (lh K E ms))(hn:x≠"__name__":=by decide)(qc:(x==("__debug__":Str))=false:=by decide)
    (he:starEach (e::es) X.env=(false,eval e X.env)::starEach es X.env:=by rfl) (qz:(backTo pos (starEach es X.env)).any (·.1)=false:=by rfl):PE X (.Call (.Name x p) (e::es) [] pos) (tV K E (rh W ms)):=(Bp hc hg hm hv ha.toS hn qc he qz).imp Iw
def sN(K:PySem.W.Frag)(C:Ct):Sp:=fun vs H Q E=>∃ p ts P,d8 H p/\(∀ j,2<=j->p j=iN)/\aw K (p 0) ts vs/\C ts P /\
  (∀ r,P (.ok r)->∀ v p' H',da p p'->d8 H' p'->(∀ j,3<=j->p' j=iN)->rY K (p' 0) (p' 2) (some v) r->Q v H') /\
  (∀ c,P (.er c)->∀ p' H',da p p'->d8 H' p'->(∀ j,2<=j->p' j=iN)->E (.ref c) none H')
theorem yV{A B C:Hp}:∀ j,3<=j->three A B C j=iN:=fun j h=>by
  match j,h with
  | _+3,_=>rfl
theorem jD{A B:Hp}:∀ j,2<=j->three A B iN j=iN:=fun j h=>by
  match j,h with
  | 2,_=>rfl
  | _+3,_=>rfl
theorem d8.one{H:Hp}{p:iL}(u:d8 H p)(h3:∀ j,3<=j->p j=iN):d8 H (L2.mv p 2)/\da p (L2.mv p 2)/\∀ j,2<=j->L2.mv p 2 j=iN:=
  ⟨u.mv (by decide),dM 0,fun j hj=>by
    by_cases e:j=2
    · rw[e,tT]
    · rw[lK (by omega) e];exact h3 j (by omega)⟩
theorem rY.toall{p:iL}{v:V}{r:Sl}{H:Hp}(u:d8 H p)(h:rY K (p 0) (p 2) (some v) r)(hr:r≠.un):Rep K (mv p 2 0) r.frz v:=by
  have g:=(dM (p:=p) 0).same
  cases r with
  | un=>exact absurd rfl hr
  | va t=>
    obtain⟨_,w,e,q⟩:=h
    cases e
    exact q.up g
  | ow D l=>
    obtain⟨xs,e,b,q⟩:=h
    cases e
    have hD:p 2 D=some (.lst xs):=by rw[b];exact oa
    refine ba.mpr ⟨D,xs,rfl,?_,q.up g⟩
    rw[fO (by decide)]
    unfold qW
    rw[u.other hD (by decide)]
    exact hD
  | od D d=>
    obtain⟨xs,e,b,q⟩:=h
    cases e
    have hD:p 2 D=some (.dK xs):=by rw[b];exact oa
    refine (q.up g).dic ?_
    rw[fO (by decide)]
    unfold qW
    rw[u.other hD (by decide)]
    exact hD
  | oo x dx C fs l=>
    obtain⟨xs,e,b,n,f,q⟩:=h
    cases e
    have hx:p 2 x=some (.ins C dx (fs.zip xs)):=by rw[b];exact hX
    have hd:p 2 dx=some (.own x):=by rw[b];exact uc n
    show Rep K _ (.obj C fs l) _
    unfold Rep
    refine⟨x,dx,xs,rfl,?_,?_,f,q.up g⟩
    · rw[fO (by decide)];unfold qW;rw[u.other hx (by decide)];exact hx
    · rw[fO (by decide)];unfold qW;rw[u.other hd (by decide)];exact hd
theorem aT{C:Ct}{CX:wQ}{k:Nat}{f:Addr}{fd:FuncData}{ps:List Str}{x:Str}{p pos:Pos}{e:Expr}{es:List Expr}{ms:List (Mv Tv)}(hK:X.K=K)(F:aQ X.prog X.w X.K X.mg X.base CX k f fd ps (sN K C))(hr:eZ k X.A)(hg:Gl X x)(hm:X.mg x=some (.ref f))(hk:PySem.W.keepIn X.K (.ref f)=true)(hb:Binds X.K fd ps [])(hx:gA CX X E)
    (ha:PA X (e::es) (lh K E ms)) (qc:(x==("__debug__":Str))=false:=by decide) (he:starEach (e::es) X.env=(false,eval e X.env)::starEach es X.env:=by rfl) (qz:(backTo pos (starEach es X.env)).any (·.1)=false:=by rfl) :
    PE X (.Call (.Name x p) (e::es) [] pos) (tV K E (bB C ms)):=
  (lH F hr hg hm hk hb .nil hx ha.toS qc he qz).imp fun σ H Q ⟨p,ρ,er,h⟩=>⟨p,ρ,er,h.bind.mono fun vs H1 ⟨xs,p1,ρ1,g1,bK,r1,P,a,b,c⟩=>by
    rw[List.append_nil]
    refine⟨three (p1 0) (dP p1 H1) iN,xs,_,bK.gK.two,jD,r1,a,fun r q v p' H' g u h3 s=>?_,fun c0 q p' H' g u h2=>?_⟩
    · have hr:r≠.un:=fun z=>by subst z;exact q
      have q:P (.ok r.frz) ρ1:=by
        cases r with
        | un=>exact q.elim
        | va t=>exact q
        | ow D l=>exact q
        | od D d=>exact q
        | oo x dx C fs l=>exact q
      obtain⟨u2,g2,h2⟩:=u.one h3
      obtain⟨u3,s3⟩:=bK.gK.back u2 ((g2.fr.trans g.fr:mv p' 2 1=dP p1 H1))
      have s4:bP (p1 0) _:=g.same.trans (g2.same.trans s3)
      exact b r.frz ρ1 q v _ H' (jv s4) (bK.grow s4 u3) (by rw[az];exact (s.toall u hr).up s3)
    · obtain⟨u3,s3⟩:=bK.gK.back u (g.fr:p' 1=dP p1 H1)
      have s4:bP (p1 0) _:=g.same.trans s3
      exact c c0 ρ1 q _ H' (jv s4) (bK.grow s4 u3)⟩
theorem zK{P:Program}{w:World}{X:Cx}:gA (iP P w) X (fun _=>E0):=fun _ _ _ _ _ _ _ h=>by
  obtain⟨_,_,_,_,_,_,_,_,z⟩:=h
  exact z.elim
def MT(K:PySem.W.Frag)(J:It)(p:iL)(ts:List Tv):Prop:=∀ p' H',bP (p 0) (p' 0)->d8 H' p' ->
  (∀ (i:Nat) t,ts[i]?=some t->J.go i H'/\∀ x H2,J.Vx i H' x H2->∃ G2,bP (p' 0) G2/\d8 H2 (a9 p' 0 G2)/\Rep K G2 t x)/\J.stop ts.length H'
def iV(K:PySem.W.Frag)(E:St->XK)(m:Mv (List Tv)):TI:=fun σ H R=>∃ p ρ,ER K p H σ ρ/\∃ P,m ρ P/\(∀ ts ρ',P (.ok ts) ρ'->∀ J p' H',da p p'->ER K p' H' σ ρ'->MT K J p' ts->R J H')/\(∀ c ρ',P (.er c) ρ'->∀ p' H',da p p'->ER K p' H' σ ρ'->E σ (.ref c) none H')
theorem MN{H:Hp}{p:iL}(u:d8 H p):d8 H (a9 p 0 (p 0)):=by rw[JD];exact u
theorem El{a:Addr}{xs:List V}{p:iL}{ts:List Tv}(s:fW K (p 0) a xs)(r:aw K (p 0) ts xs):MT K (ZV K a) p ts:=fun p' H' e u=>by
  have s':fW K H' a xs:=(e.trans (u.sub 0)).seq s
  refine⟨fun i t ht=>?_,⟨xs,s',by rw[r.len];exact Nat.le_refl _⟩⟩
  obtain⟨v,hv,q⟩:=r.get ht
  refine⟨⟨xs,v,s',hv⟩,fun x H2 ⟨y1,y2⟩=>⟨p' 0,bP.refl _,by rw[y1];exact MN u,?_⟩⟩
  have:=y2 xs s'
  rw[hv] at this
  cases this
  exact q.up e
theorem Nk{a:Addr}{xs:List V}{p:iL}{ts:List Tv}(s:kn K (p 0) a xs)(r:aw K (p 0) ts xs):MT K (YV K a) p ts:=fun p' H' e u=>by
  have s':kn K H' a xs:=(e.trans (u.sub 0)).seqT s
  refine⟨fun i t ht=>?_,⟨xs,s',by rw[r.len];exact Nat.le_refl _⟩⟩
  obtain⟨v,hv,q⟩:=r.get ht
  refine⟨⟨xs,v,s',hv⟩,fun x H2 ⟨y1,y2⟩=>⟨p' 0,bP.refl _,by rw[y1];exact MN u,?_⟩⟩
  have:=y2 xs s'
  rw[hv] at this
  cases this
  exact q.up e
def YN(K:PySem.W.Frag)(tl:TE):TI:=fun σ H R=>tl σ H fun x H1=>∃ a,x=.ref a/\(((∃ xs,fW K H1 a xs)/\R (ZV K a) H1)\/((∃ xs,kn K H1 a xs)/\R (YV K a) H1))
theorem TC{tg l:Expr}{tl:TE}(hl:PE X l tl):PI X tg l (YN X.K tl):=by
  intro pins s σ H R I h
  refine eM (hl pins s σ H _ I h) fun v s1 ⟨x,H1,I1,r1,q1⟩=>?_
  obtain⟨a,e,q⟩:=q1
  subst e
  cases r1
  rcases q with ⟨⟨xs,hq⟩,q⟩ | ⟨⟨xs,hq⟩,q⟩
  · obtain⟨aS,rv,p,hz⟩:=I1.list hq
    refine wpAny_pyIter_list p.isList ?_
    refine⟨s1.heap.objs.size,[s1.heap.objs.size],_,_,H1,rfl,I1.kept (t':=s1.toks) fun b o e=>Heap.get?_push_of_some _ e,JP a _,⟨_,Heap.get?_push_size _ rfl,rfl,rfl⟩,fun b hb=>?_,q⟩
    have e:b=s1.heap.objs.size:=by simpa using hb
    subst e
    exact I1.fpOk (Nat.le_refl _) (I1.cQ.fresh (Nat.le_refl _))
  · obtain⟨aS,rv,p,hz⟩:=I1.tuple hq
    refine wpAny_pyIter_tuple (show s1.heap.IsTuple a aS.toArray from p) ?_
    refine⟨s1.heap.objs.size,[s1.heap.objs.size],_,_,H1,rfl,I1.kept (t':=s1.toks) fun b o e=>Heap.get?_push_of_some _ e,GV a _,⟨_,Heap.get?_push_size _ rfl,rfl,rfl⟩,fun b hb=>?_,q⟩
    have e:b=s1.heap.objs.size:=by simpa using hb
    subst e
    exact I1.fpOk (Nat.le_refl _) (I1.cQ.fresh (Nat.le_refl _))
theorem tA.toI{α:Type}{R1:Hp->α->V->Prop}{m:Mv α}{k:α->Mv (List Tv)}{p:iL}{ρ:En}{σ:St}{H:Hp}{R:It->Hp->Prop}(h:∃ P,bo m k ρ P/\(∀ ts ρ',P (.ok ts) ρ'->∀ J p' H',da p p'->ER K p' H' σ ρ'->MT K J p' ts->R J H')/\(∀ c ρ',P (.er c) ρ'->∀ p' H',da p p'->ER K p' H' σ ρ'->E σ (.ref c) none H')):
    tA K E R1 m p ρ σ (fun v H1=>∃ x p1 ρ1,da p p1/\ER K p1 H1 σ ρ1/\R1 (p1 0) x v/\∃ P,k x ρ1 P/\(∀ ts ρ',P (.ok ts) ρ'->∀ J p' H',da p1 p'->ER K p' H' σ ρ'->MT K J p' ts->R J H')/\(∀ c ρ',P (.er c) ρ'->∀ p' H',da p1 p'->ER K p' H' σ ρ'->E σ (.ref c) none H')):=by
  obtain⟨P,a,b,c⟩:=h
  refine⟨_,a,fun x ρ' q v p' H' g e r=>⟨x,p',ρ',g,e,r,P,q,fun y ρ2 q2 J p2 H2 g2=>b y ρ2 q2 J p2 H2 (g.trans g2),fun y ρ2 q2 p2 H2 g2=>c y ρ2 q2 p2 H2 (g.trans g2)⟩,fun x ρ' q p' H' g e=>c x ρ' q p' H' g e⟩
theorem tA.toIs{α:Type}{R1:Hp->α->List V->Prop}{m:Mv α}{k:α->Mv (List Tv)}{p:iL}{ρ:En}{σ:St}{H:Hp}{R:It->Hp->Prop}(h:∃ P,bo m k ρ P/\(∀ ts ρ',P (.ok ts) ρ'->∀ J p' H',da p p'->ER K p' H' σ ρ'->MT K J p' ts->R J H')/\(∀ c ρ',P (.er c) ρ'->∀ p' H',da p p'->ER K p' H' σ ρ'->E σ (.ref c) none H')):
    tA K E R1 m p ρ σ (fun v H1=>∃ x p1 ρ1,da p p1/\ER K p1 H1 σ ρ1/\R1 (p1 0) x v/\∃ P,k x ρ1 P/\(∀ ts ρ',P (.ok ts) ρ'->∀ J p' H',da p1 p'->ER K p' H' σ ρ'->MT K J p' ts->R J H')/\(∀ c ρ',P (.er c) ρ'->∀ p' H',da p1 p'->ER K p' H' σ ρ'->E σ (.ref c) none H')):=by
  obtain⟨P,a,b,c⟩:=h
  refine⟨_,a,fun x ρ' q v p' H' g e r=>⟨x,p',ρ',g,e,r,P,q,fun y ρ2 q2 J p2 H2 g2=>b y ρ2 q2 J p2 H2 (g.trans g2),fun y ρ2 q2 p2 H2 g2=>c y ρ2 q2 p2 H2 (g.trans g2)⟩,fun x ρ' q p' H' g e=>c x ρ' q p' H' g e⟩
theorem vX{tg l:Expr}{m:Mv Tv}(hK:X.K=K)(hl:PE X l (tV K E m)):PI X tg l (iV K E (K1 m)):=by
  subst hK
  refine (TC hl).imp fun σ H R ⟨p,ρ,er,h⟩=>⟨p,ρ,er,(tA.toI (H:=H) h).mono fun v H1 ⟨x,p1,ρ1,g1,bK,r1,P,a,b,_⟩=>?_⟩
  cases x with
  | tup l=>
    obtain⟨q,xs,rfl,s,r⟩:=cb r1
    exact⟨q,rfl,.inr ⟨⟨xs,(bK.gK.sub 0).seqT s⟩,b l ρ1 a _ p1 H1 .refl bK (Nk s r)⟩⟩
  | lst l=>
    obtain⟨q,xs,rfl,s,r⟩:=ba.mp r1
    exact⟨q,rfl,.inl ⟨⟨xs,fW.of (bK.gK.sub 0 _ _ s)⟩,b l ρ1 a _ p1 H1 .refl bK (El (fW.of s) r)⟩⟩
  | scr l=>
    obtain⟨q,xs,rfl,s,r⟩:=qA.mp r1
    exact⟨q,rfl,.inl ⟨⟨xs,(bK.gK.sub 0).seq s⟩,b l ρ1 a _ p1 H1 .refl bK (El s r)⟩⟩
  | _=>exact a.elim
theorem OV{lo:Int}{n:Nat}{p:iL}:MT K (Xa lo n) p (zg lo n):=fun p' H' e u=>by
  refine⟨fun i t ht=>?_,by show n<=(zg lo n).length;unfold zg;simp⟩
  unfold zg at ht
  rw[List.getElem?_map] at ht
  obtain⟨k,hk,rfl⟩:=Option.map_eq_some_iff.mp ht
  obtain⟨hi,rfl⟩:=List.getElem?_eq_some_iff.mp hk
  rw[List.length_range] at hi
  refine⟨hi,fun x H2 ⟨y1,y2⟩=>⟨p' 0,bP.refl _,by rw[y1];exact MN u,?_⟩⟩
  rw[y2,List.getElem_range]
  exact ao.mpr rfl
theorem tu{tg a:Expr}{m:Mv Tv}{p pos:Pos}(hg:Gl X "range")(hm:X.mg "range"=none)(ha:PA X [a] (lh K E [m]))(hs:starEach [a] X.env=[(false,eval a X.env)]:=by rfl):PI X tg (.Call (.Name "range" p) [a] [] pos) (iV K E (EO m)):=by
  refine (J8 hg hm ha.toS hs).imp fun σ H R ⟨p,ρ,er,h⟩=>⟨p,ρ,er,(tA.toIs (H:=H) h).mono fun vs H1 ⟨xs,p1,ρ1,g1,bK,r1,P,a,b,_⟩=>?_⟩
  match xs,a with
  | [.int j],a=>
    obtain⟨⟨h1,h2⟩,q⟩:=a
    obtain⟨v,r,rfl,a1,a2⟩:=ax.mp r1
    rw[ao.mp a1,aP.mp a2]
    exact⟨j,rfl,h1,h2,b _ ρ1 q _ p1 H1 .refl bK OV⟩
theorem JX{H:Hp}{p:iL}{a:Addr}{x y:V}{s t:Tv}(u:d8 H p)(n:H a=none)(r1:Rep K (p 0) s x)(r2:Rep K (p 0) t y):∃ G2,bP (p 0) G2/\d8 (upd H a (.tup [x,y])) (a9 p 0 G2)/\Rep K G2 (.tup [s,t]) (.ref a):=by
  have s0:bP (p 0) (upd (p 0) a (.tup [x,y])):=fun b o' e=>by rw[aI (aU e (u.fresh n 0))];exact e
  exact⟨_,s0,u.alloc n 0 _,la.mpr ⟨a,_,rfl,GR.of aH,.cons (r1.up s0) (.cons (r2.up s0) .nil)⟩⟩
theorem Ly{l:List Tv}{i:Nat}{t:Tv}(h:(BL l)[i]?=some t):∃ s,l[i]?=some s/\t=.tup [.int i,s]:=by
  unfold BL at h
  rw[List.getElem?_mapIdx] at h
  obtain⟨s,hs,rfl⟩:=Option.map_eq_some_iff.mp h
  exact⟨s,hs,rfl⟩
theorem M3{l:List Tv}:(BL l).length=l.length:=by unfold BL;simp
end
end L2
namespace L2
open PySem PySem.Spec PyProof.Rows
section
variable {X:Cx} {K:PySem.W.Frag} {E:St->XK}
def Gc(K:PySem.W.Frag)(g:TG)(f:Gv):Prop:=∀ p H σ ρ t v ρ' Q,ER K p H σ ρ->Rep K (p 0) t v->f t ρ=some ρ'->(∀ σ' p',da p p'->ER K p' H σ' ρ'->Q σ' H)->g v σ H Q
theorem gD(i:Nat):Gc K (FG i) (gV i):=fun p H σ ρ t v ρ' Q er r e k=>by
  cases e
  exact k _ _ (dM i) (er.set i r)
def vi:List Nat->Oo
  | []=>WR
  | i::is=>PX (FG i) (vi is)
theorem Ea:∀ (is:List Nat) {p:iL} {H:Hp} {σ:St} {ρ:En} {ts:List Tv} {vs:List V} {Q:St->Hp->Prop},ER K p H σ ρ->aw K (p 0) ts vs->ts.length=is.length->(∀ σ' p',da p p'->ER K p' H σ' (Hv is ts ρ)->Q σ' H)->vi is vs σ H Q
  | [],p,H,σ,ρ,ts,vs,Q,er,r,hl,k=>by
    cases ts with
    | nil=>exact⟨aP.mp r,k σ p .refl er⟩
    | cons _ _=>cases hl
  | i::is,p,H,σ,ρ,ts,vs,Q,er,r,hl,k=>by
    cases ts with
    | nil=>cases hl
    | cons t ts=>
      obtain⟨v,rest,rfl,a,b⟩:=ax.mp r
      refine⟨v,rest,rfl,Ea is (er.set i a) (b.up (dM i).same) (by simpa using hl) fun σ' p' g e=>k σ' p' ((dM i).trans g) e⟩
theorem Hj{is:List Nat}{n:Nat}(hn:n=is.length):Gc K (Qb K n (vi is)) (gT is):=fun p H σ ρ t v ρ' Q er r e k=>by
  unfold gT at e
  cases t with
  | tup l=>
    dsimp only at e
    split at e
    · rename_i hl
      cases e
      obtain⟨a,xs,rfl,s,q⟩:=cb r
      exact⟨a,xs,rfl,(er.gK.sub 0).seqT s,by rw[q.len,hl,hn],Ea is er q hl k⟩
    · cases e
  | _=>cases e
theorem Cy:sg X [] (vi []):=NY
theorem nh{i:Nat}{is:List Nat}{x:Str}{pos:Pos}{es:List Expr}(hN:X.N.Nodup)(hi:X.N[i]?=some x)(hx:Loc X.env.scope x)(hf:X.fn x=true\/X.env.scope.names.lookup x=some .local)(h2:sg X es (vi is))
    (hs:(assignEach (.Name x pos::es) X.env).map (·.2)=assign (.Name x pos) X.env::(assignEach es X.env).map (·.2):=by rfl):sg X (.Name x pos::es) (vi (i::is)):=K4 (gh hN hi hx hf) h2 hs
theorem LR{nt:Nat}{js:List Nat}{ρ:En}:(t8 nt js ρ).length=nt+js.length:=by unfold t8;simp
theorem x'{nt:Nat}{js:List Nat}{ρ:En}{i:Nat}{s:Sl}(h:(t8 nt js ρ)[i]?=some s):s.mine=false:=by
  unfold t8 at h
  by_cases hi:i<nt
  · rw[List.getElem?_append_left (by simpa using hi),List.getElem?_replicate,if_pos hi] at h
    cases h;rfl
  · rw[List.getElem?_append_right (by simpa using hi),List.getElem?_map] at h
    obtain⟨j,_,h⟩:=Option.map_eq_some_iff.mp h
    split at h <;> (cases h;rfl)
theorem ER.captd{p:iL}{H:Hp}{σ:St}{ρ:En}{F:Hp}(h:ER K p H σ ρ){q:iL}{H':Hp}(u:d8 H' q)(h2:∀ j,2<=j->q j=iN)(s:bP (p 0) (q 0))(ts:List Str)(fs:List (Str×Nat)):
    ER K q H' (ts.map (fun _=>(none:Option V))++fs.map fun f=>(σ[f.2]?).join) (t8 ts.length (fs.map (·.2)) ρ):=by
  refine⟨u,by rw[LR];simp,fun i s' e=>?_,fun i _=>h2 _ (by omega)⟩
  rw[h2 (i+2) (by omega)]
  unfold t8 at e
  by_cases hi:i<ts.length
  · rw[List.getElem?_append_left (by simpa using hi),List.getElem?_replicate,if_pos hi] at e
    cases e
    rfl
  · rw[List.getElem?_append_right (by simpa using hi),List.getElem?_map,List.length_replicate,List.getElem?_map,Option.map_map] at e
    obtain⟨f,hf,e⟩:=Option.map_eq_some_iff.mp e
    rw[List.getElem?_append_right (by simpa using hi),List.getElem?_map,List.length_map,hf]
    have e:(match ρ[f.2]? with | some (.va t)=>Sl.va t | _=>.un)=s':=e
    split at e
    · rename_i t q'
      subst e
      obtain⟨v,hv,r⟩:=h.get q'
      exact⟨rfl,v,by show (σ[f.2]?).join=some v;rw[hv];rfl,r.up s⟩
    · subst e;rfl
def Cv(g:Gv)(nt:Nat):Prop:=∀ t ρ ρ',g t ρ=some ρ'->ρ'.length=ρ.length/\∀ j s,nt<=j->ρ[j]?=some s->ρ'[j]?=some s
theorem gL{i nt:Nat}(h:i<nt):Cv (gV i) nt:=fun t ρ ρ' e=>by
  cases e
  exact⟨List.length_set ..,fun j s hj q=>by rw[List.getElem?_set_ne (by omega)];exact q⟩
theorem Ti{ρ:En}{i:Nat}{t:Tv}(h:∀ (j:Nat) (s:Sl),ρ[j]?=some s->s.mine=false):∀ (j:Nat) (s:Sl),(ρ.set i (.va t))[j]?=some s->s.mine=false:=fun j s e=>by
  by_cases q:j=i
  · subst q
    by_cases hj:j<ρ.length
    · rw[List.getElem?_set_self hj] at e;cases e;rfl
    · rw[List.getElem?_eq_none (by rw[List.length_set];omega)] at e;cases e
  · rw[List.getElem?_set_ne (Ne.symm q)] at e;exact h j s e
def OM(g:Gv):Prop:=∀ t ρ ρ',g t ρ=some ρ'->(∀ (j:Nat) (s:Sl),ρ[j]?=some s->s.mine=false)->∀ (j:Nat) (s:Sl),ρ'[j]?=some s->s.mine=false
theorem i4{i:Nat}:OM (gV i):=fun t ρ ρ' e h=>by cases e;exact Ti h
theorem Kc{ts:List Str}{fs:List (Str×Nat)}{g:TG}{f:Gv}{c:Mv Bool}{e:Mv Tv}{p1:iL}{H1:Hp}{σ:St}{ρ1:En}{J:It}{l:List Tv}{D:Addr}{Pc:List Tv->Prop}{Fi:Hp->Prop}(hg:Gc K g f)(hk:Cv f ts.length)(ho:OM f)
    (bK:ER K p1 H1 σ ρ1) (hj:MT K J p1 l) (hD:H1 D=none) (hz:l.length<sizeLine) (hw:mx f c e (t8 ts.length (fs.map (·.2)) ρ1) l [] Pc)
    (fin:∀ acc ys G' H',Pc acc->aw K G' acc ys->bP (p1 0) G'->d8 (TX D H') (a9 p1 0 G')->H'=upd (TX D H') D (.lst ys)->Fi H') :
    ∃ W:Nat->Nat->St->Hp->Prop,(∃ m,W 0 m (ts.map (fun _=>none)++fs.map fun p=>(σ[p.2]?).join) (upd H1 D (.lst [])))/\∀ i m σ' H',W i m σ' H' ->
      (J.stop i H'/\Fi H')\/(J.go i H'/\∀ x H2,J.Vx i H' x H2->g x σ' H2 fun σ2 H3=>xn K (fun _=>E0) c σ2 H3 fun b H4=>if b=true then tV K (fun _=>E0) e σ2 H4 fun y H5=>∃ ys,H5 D=some (.lst ys)/\ys.length<sizeLine/\∃ m',m'<m/\W (i+1) m' σ2 (upd H5 D (.lst (ys++[y])))
        else ∃ m',m'<m/\W (i+1) m' σ2 H4):=by
  have u1:=bK.gK
  have nR:dP p1 H1 D=none:=by
    unfold dP
    cases q:p1 0 D with
    | none=>exact hD
    | some _=>rfl
  have two:∀ ys,d8 (upd H1 D (.lst ys)) (three (p1 0) (upd (dP p1 H1) D (.lst ys)) iN):=fun ys=>by
    have:=u1.two.put (i:=1) (a:=D) (fun j _=>u1.two.fresh hD j) (.lst ys)
    have e:a9 (three (p1 0) (dP p1 H1) iN) 1 (upd (three (p1 0) (dP p1 H1) iN 1) D (.lst ys))=three (p1 0) (upd (dP p1 H1) D (.lst ys)) iN:=by
      funext j
      match j with
      | 0=>rfl
      | 1=>rfl
      | 2=>rfl
      | _+3=>rfl
    rw[e] at this
    exact this
  refine⟨fun i m σ' H'=>m=l.length-i/\i<=l.length/\∃ q ys acc,bP (p1 0) (q 0)/\q 1=upd (dP p1 H1) D (.lst ys)/\ER K q H' σ' (t8 ts.length (fs.map (·.2)) ρ1)/\aw K (q 0) acc ys/\ys.length<=i/\mx f c e (t8 ts.length (fs.map (·.2)) ρ1) (l.drop i) acc Pc,
    ⟨l.length,by simp,Nat.zero_le _,three (p1 0) (upd (dP p1 H1) D (.lst [])) iN,[],[],bP.refl _,rfl,bK.captd (F:=iN) (two []) jD (bP.refl _) ts fs,.nil,Nat.le_refl _,by simpa using hw⟩,?_⟩
  rintro i m σ' H' ⟨rfl,hi,q,ys,acc,s0,q1,eq,ra,hl,w⟩
  obtain⟨jg,js⟩:=hj q H' s0 eq.gK
  have hqD:q 1 D=some (.lst ys):=by rw[q1];exact aH
  by_cases Ga:i<l.length
  · rw[List.drop_eq_getElem_cons Ga] at w
    obtain⟨ρ2,eg,w⟩:=w
    obtain⟨go,yl⟩:=jg i l[i] (List.getElem?_eq_getElem Ga)
    refine .inr ⟨go,fun x H2 y=>?_⟩
    obtain⟨G2,s2,u2,r2⟩:=yl x H2 y
    have e2:=eq.grow s2 u2
    refine hg _ H2 σ' _ l[i] x ρ2 _ e2 (by rw[az];exact r2) eg fun σ2 q3 g3 e3=>?_
    have g03:da q q3:=(jv s2).trans g3
    have back:∀ {q':iL} {TQ:Hp},ER K q' TQ σ2 ρ2->ER K q' TQ σ2 (t8 ts.length (fs.map (·.2)) ρ1):=fun {q' TQ} h=>by
      obtain⟨k1,k2⟩:=hk _ _ _ eg
      refine h.less k1.symm fun j s e=>?_
      by_cases hj:j<ts.length
      · refine .inl ⟨?_,ho _ _ _ eg (fun j s=>x') j⟩
        unfold t8 at e
        rw[List.getElem?_append_left (by simpa using hj),List.getElem?_replicate,if_pos hj] at e
        exact (Option.some.inj e).symm
      · exact .inr (k2 j s (by omega) e)
    refine⟨q3,ρ2,e3,_,w,fun bv ρ4 qb v q4 H4 g4 e4 rv=>?_,fun _ _ qb _ _ _ _=>qb.2.elim⟩
    obtain⟨rfl,qb⟩:=qb
    have rv:v=bv:=rv
    subst rv
    have Xf:=g03.trans g4
    cases v with
    | false=>exact⟨l.length-(i+1),by omega,rfl,Ga,q4,ys,acc,s0.trans Xf.same,by rw[Xf.fr,q1],back e4,ra.up Xf.same,by omega,qb⟩
    | true=>
      refine⟨q4,_,e4,_,qb,fun yv ρ5 qe v q5 H5 g5 e5 r5=>?_,fun _ _ qe _ _ _ _=>qe.2.elim⟩
      obtain⟨rfl,qe⟩:=qe
      have YO:=Xf.trans g5
      have f5:q5 1=upd (dP p1 H1) D (.lst ys):=by rw[YO.fr,q1]
      have h5D:q5 1 D=some (.lst ys):=by rw[f5];exact aH
      have u5:=e5.gK.put (i:=1) (a:=D) (fun j hj=>e5.gK.other h5D hj) (.lst (ys++[v]))
      rw[f5,iK] at u5
      refine⟨ys,(e5.gK.mem _ _).mpr ⟨1,h5D⟩,by omega,l.length-(i+1),by omega,rfl,Ga,a9 q5 1 (upd (dP p1 H1) D (.lst (ys++[v]))),ys++[v],acc++[yv],by rw[aj (by decide)];exact s0.trans YO.same,az,?_,by rw[aj (by decide)];exact (ra.up YO.same).app (.cons r5 .nil),by rw[List.length_append,List.length_singleton];omega,qe⟩
      have e6:=back e5
      exact⟨u5,e6.len,fun j s e=>by rw[aj (by decide),aj (by omega)];exact e6.slot j s e,fun j hj=>by rw[aj (by omega)];exact e6.out j hj⟩
  · have ei:i=l.length:=by omega
    subst ei
    refine .inl ⟨js,?_⟩
    rw[List.drop_length] at w
    have w:Pc acc:=w
    have qn:∀ j,2<=j->q j=iN:=fun j hj=>by
      obtain⟨k,rfl⟩:∃ k,j=k+2:=⟨j-2,by omega⟩
      by_cases hk:k<(t8 ts.length (fs.map (·.2)) ρ1).length
      · have:=eq.slot k _ (List.getElem?_eq_getElem hk)
        cases z:(t8 ts.length (fs.map (·.2)) ρ1)[k] with
        | un=>rw[z] at this;exact this
        | va t=>rw[z] at this;exact this.1
        | ow D l=>cases x' (s:=.ow D l) (by rw[← z];exact List.getElem?_eq_getElem hk)
        | od D d=>cases x' (s:=.od D d) (by rw[← z];exact List.getElem?_eq_getElem hk)
        | oo x dx C fs l=>cases x' (s:=.oo x dx C fs l) (by rw[← z];exact List.getElem?_eq_getElem hk)
      · exact eq.out k (by omega)
    have n0D:q 0 D=none:=eq.gK.other hqD (by decide)
    refine fin acc ys (q 0) H' w ra s0 ⟨fun b o=>?_,fun i j b n=>?_⟩ ?_
    · constructor
      · intro e
        have hb:b≠D:=fun z=>by rw[z,L5] at e;cases e
        rw[C0 hb] at e
        obtain⟨k,e⟩:=(eq.gK.mem b o).mp e
        by_cases k0:k=0
        · subst k0;exact⟨0,by rw[az];exact e⟩
        by_cases k1:k=1
        · subst k1
          rw[q1,aI hb] at e
          obtain⟨k,hk,e⟩:=(gN u1).mp e
          exact⟨k,by rw[aj hk];exact e⟩
        · rw[qn k (by omega)] at e;cases e
      · rintro ⟨k,e⟩
        by_cases k0:k=0
        · subst k0
          rw[az] at e
          rw[C0 (aU e n0D)]
          exact (eq.gK.mem b o).mpr ⟨0,e⟩
        · rw[aj k0] at e
          have hb:b≠D:=aU e (u1.fresh hD k)
          rw[C0 hb]
          refine (eq.gK.mem b o).mpr ⟨1,?_⟩
          rw[q1,aI hb]
          exact (gN u1).mpr ⟨k,k0,e⟩
    · have key:∀ k,k≠0->q 0 b=none\/p1 k b=none:=fun k hk=>by
        cases e:p1 k b with
        | none=>exact .inr rfl
        | some o=>
          have hb:b≠D:=aU e (u1.fresh hD k)
          have:q 1 b=some o:=by rw[q1,aI hb];exact (gN u1).mpr ⟨k,hk,e⟩
          exact .inl (eq.gK.other this (by decide))
      by_cases hi0:i=0
      · subst hi0
        have Vk:j≠0:=Ne.symm n
        rw[az,aj Vk];exact key j Vk
      · by_cases Vk:j=0
        · subst Vk
          rw[az,aj hi0];exact (key i hi0).symm
        · rw[aj hi0,aj Vk];exact u1.ap i j b n
    · funext b
      by_cases hb:b=D
      · rw[hb,aH];exact (eq.gK.mem _ _).mpr ⟨1,hqD⟩
      · rw[aI hb,C0 hb]
theorem JN{nt:Nat}{ts:List Str}{fs:List (Str×Nat)}{it:Mv (List Tv)}{g:TG}{f:Gv}{c:Mv Bool}{e:Mv Tv}(hn:ts.length=nt)(hg:Gc K g f)(hk:Cv f nt)(ho:OM f):
    ∀ σ H Q,tV K E (BC nt (fs.map (·.2)) it f c e) σ H Q->PN (iV K E it) (fun σ=>ts.map (fun _=>none)++fs.map fun p=>(σ[p.2]?).join) g (xn K (fun _=>E0) c) (tV K (fun _=>E0) e) σ H Q:=by
  subst hn
  rintro σ H Q ⟨p,ρ,er,P,a,b,cc⟩
  refine⟨p,ρ,er,_,a,fun l ρ1 q J p1 H1 g1 bK hj D hD=>?_,fun c0 ρ1 q p1 H1 g1 bK=>cc c0 ρ1 q p1 H1 g1 bK⟩
  refine Kc hg hk ho bK hj hD q.1 q.2 fun acc ys G' H' w ra s0 u eH=>?_
  have e1:=bK.grow s0 u
  obtain⟨e2,s2⟩:=e1.alloc (a:=D) L5 (.lst ys)
  rw[← eH,az,JO] at e2
  rw[az] at s2
  exact b _ ρ1 w _ _ H' (g1.trans (jv (s0.trans s2))) e2 (ba.mpr ⟨D,ys,rfl,by rw[az];exact aH,by rw[az];exact ra.up s2⟩)
theorem pL{elt tg iter:Expr}{ifs:List Expr}{scope:Scope}{pos:Pos}{ts:List Str}{fs:List (Str×Nat)}{g:TG}{nt:Nat}{it:Mv (List Tv)}{f:Gv}{c:Mv Bool}{e:Mv Tv}
    (hc:X.calm=true) (hF:Mr X scope (ts++fs.map (·.1)) (fun σ=>ts.map (fun _=>none)++fs.map fun p=>(σ[p.2]?).join)) (OW:∀ y∈scope.names,y.2=.free->X.env.kindOf y.1=some .cell\/X.env.kindOf y.1=some .free)
    (se:∀ y∈scope.names,y.2≠.cell) (tW:scope.kind=.function) (Ha:∀ y∈scope.names,y.2=.local->scope.names.lookup y.1=some .local) (WU:∀ y,scope.names.lookup y=some .free->(y,NameKind.free)∈scope.names)
    (hn:ts.length=nt) (hg:Gc K g f) (hk:Cv f nt) (ho:OM f)
    (hi:PI X tg iter (iV K E it)) (U8:∀ cl C s H fp pins,PG (fw X (ts++fs.map (·.1)) scope cl C s H fp pins) tg g) (ht:∀ cl C s H fp pins,rA (fw X (ts++fs.map (·.1)) scope cl C s H fp pins) ifs (xn K (fun _=>E0) c)) (he:∀ cl C s H fp pins,PE (fw X (ts++fs.map (·.1)) scope cl C s H fp pins) elt (tV K (fun _=>E0) e))
    (hs:∀ x,foldedSetIterable iter X.env x=pure x:=by intro _;rfl):PE X (.ListComp elt [⟨tg,iter,ifs,0⟩] scope pos) (tV K E (BC nt (fs.map (·.2)) it f c e)):=
  (Ox hc hF OW se tW Ha WU hi U8 ht he hs).imp (JN hn hg hk ho)
theorem nW:rA X [] (xn K E OU):=Nq.imp fun _ _ _ h=>zZ h
theorem OH{c:Expr}{m:Mv Bool}(h:PT X c (xn K E m)):rA X [c] (xn K E m):=OL h
structure J2(K:PySem.W.Frag)(E:St->XK)(D:Ends)(P:Fl->En->Prop)(p:iL):Prop where
  nx:∀ ρ',P .nx ρ'->∀ σ' p' H',da p p'->ER K p' H' σ' ρ'->D.nx σ' H'
  rt:∀ r ρ',P (.rt r) ρ'->∀ v p' H',da p p'->d8 H' p'->(∀ j,3<=j->p' j=iN)->rY K (p' 0) (p' 2) (some v) r->D.rt v H'
  bk:∀ ρ',P .bk ρ'->∀ σ' p' H',da p p'->ER K p' H' σ' ρ'->D.bk σ' H'
  ct:∀ ρ',P .ct ρ'->∀ σ' p' H',da p p'->ER K p' H' σ' ρ'->D.ct σ' H'
  er:∀ c ρ',P (.er c) ρ'->∀ σ' p' H',da p p'->ER K p' H' σ' ρ'->E σ' (.ref c) none H'
  rk:∀ t ρ',P (.rk t) ρ'->∀ v σ' p' H',da p p'->ER K p' H' σ' ρ'->Rep K (p' 0) t v->D.rt v H'
def tS(K:PySem.W.Frag)(E:St->XK)(b:Sv):TS:=fun D σ H=>∃ p ρ P,ER K p H σ ρ/\b ρ P/\J2 K E D P p
theorem J2.grow{D:Ends}{P:Fl->En->Prop}{p p1:iL}(h:J2 K E D P p)(g:da p p1):J2 K E D P p1:=
  ⟨fun ρ q σ p' H' g'=>h.nx ρ q σ p' H' (g.trans g'),fun r ρ q v p' H' g'=>h.rt r ρ q v p' H' (g.trans g'),fun ρ q σ p' H' g'=>h.bk ρ q σ p' H' (g.trans g'),fun ρ q σ p' H' g'=>h.ct ρ q σ p' H' (g.trans g'),fun c ρ q σ p' H' g'=>h.er c ρ q σ p' H' (g.trans g'),fun t ρ q v σ p' H' g'=>h.rk t ρ q v σ p' H' (g.trans g')⟩
theorem gC{α β:Type}{R:Hp->α->β->Prop}{m:Mv α}{k:α->Sv}{D:Ends}{σ:St}{H:Hp}{p:iL}{ρ:En}{P:Fl->En->Prop}(a:F' m k ρ P)(h:J2 K E D P p):
    tA K E R m p ρ σ (fun v H1=>∃ x p1 ρ1,da p p1/\ER K p1 H1 σ ρ1/\R (p1 0) x v/\k x ρ1 P/\J2 K E D P p1):=
  ⟨_,a,fun x ρ' q v p' H' g e r=>⟨x,p',ρ',g,e,r,q,h.grow g⟩,fun c ρ' q p' H' g e=>h.er c ρ' q σ p' H' g e⟩
theorem cg:ju X [] (tS K E dc):=ou.imp fun D σ H ⟨p,ρ,P,er,a,h⟩=>h.nx ρ a σ p H .refl er
theorem ah{st:Stmt}{rest:List Stmt}{a b:Sv}(h1:PS X st (tS K E a))(h2:ju X rest (tS K E b)):ju X (st::rest) (tS K E (aE a b)):=
  (cF h1 h2).imp fun D σ H ⟨p,ρ,P,er,a,h⟩=>⟨p,ρ,_,er,a,⟨fun ρ' q σ' p' H' g e=>⟨p',ρ',P,e,q,h.grow g⟩,h.rt,h.bk,h.ct,h.er,h.rk⟩⟩
theorem av{st:Stmt}{a:Sv}(h1:PS X st (tS K E a)):ju X [st] (tS K E a):=cz h1
theorem mz{e:Expr}{m:Mv Tv}{pos:Pos}(he:PE X e (tV K E m))(hs:swapsWith e none pos.line X.env=pure false:=by rfl):PS X (.Expr e pos) (tS K E (B6 m)):=
  (uH he hs).imp fun D σ H ⟨p,ρ,P,er,a,h⟩=>⟨p,ρ,er,(gC (H:=H) a h).mono fun v H1 ⟨x,p1,ρ1,g1,bK,r1,q,h1⟩=>h1.nx ρ1 q σ p1 H1 .refl bK⟩
theorem set_tail{i:Nat}{m:Mv Tv}:∀ D σ H,tS K E (bM i m) D σ H->P4 (tV K E m) (FG i) D σ H:=fun D σ H ⟨p,ρ,P,er,a,h⟩=>
  ⟨p,ρ,er,(gC (H:=H) a h).mono fun v H1 ⟨x,p1,ρ1,g1,bK,r1,q,h1⟩=>h1.nx _ q _ _ H1 (dM i) (bK.set i r1)⟩
theorem aD{i:Nat}{x:Str}{e:Expr}{m:Mv Tv}{pos pos':Pos}(hN:X.N.Nodup)(hi:X.N[i]?=some x)(hx:Loc X.env.scope x)(he:PE X e (tV K E m))(hs:swapsWith e (some (.Name x pos')) pos.line X.env=pure false:=by rfl)(hf:X.fn x=true\/X.env.scope.names.lookup x=some .local:=by first | exact .inl rfl | exact .inr rfl | assumption):
    PS X (.Assign [.Name x pos'] e pos) (tS K E (bM i m)):=(nY hN hi hx he hs hf).imp set_tail
theorem MB{tg e:Expr}{g:TG}{f:Gv}{m:Mv Tv}{pos:Pos}(he:PE X e (tV K E m))(U8:PG X tg g)(hg:Gc K g f)(hs:swapsWithSole [tg] e pos.line X.env=pure false:=by rfl)(hw:swappedStores [tg] e X.env=pure none:=by rfl)
    (h1:(assignEach [tg] X.env).map (·.2)=[assign tg X.env]:=by rfl):PS X (.Assign [tg] e pos) (tS K E (Tg f m)):=
  (SK he U8 hs hw h1).imp fun D σ H ⟨p,ρ,P,er,a,h⟩=>⟨p,ρ,er,(gC (H:=H) a h).mono fun v H1 ⟨x,p1,ρ1,g1,bK,r1,q,h1⟩=>by
    obtain⟨ρ',e,q⟩:=q
    exact hg p1 H1 σ ρ1 x v ρ' _ bK r1 e fun σ' p' g' e'=>h1.nx ρ' q σ' p' H1 g' e'⟩
theorem Mi{i j:Nat}{x y:Str}{a b:Expr}{m n:Mv Tv}{px py pt pos:Pos}{kt k2 pt2}(hc:X.calm=true)(hN:X.N.Nodup)(hi:X.N[i]?=some x)(hj:X.N[j]?=some y)(Yg:i≠j)
    (hx:X.env.scope.names.lookup x=some .local) (hy:X.env.scope.names.lookup y=some .local) (ha:PA X [a,b] (lh K E [m,n]))
    (hw:swappedStores [.Tuple [.Name x px,.Name y py] kt pt] (.Tuple [a,b] k2 pt2) X.env=pure (some [x,y]))
    (hs:swapsWithSole [.Tuple [.Name x px,.Name y py] kt pt] (.Tuple [a,b] k2 pt2) pos.line X.env=pure false:=by rfl) :
    PS X (.Assign [.Tuple [.Name x px,.Name y py] kt pt] (.Tuple [a,b] k2 pt2) pos) (tS K E (QL i j m n)):=
  (RJ hc hN hi hj Yg hx hy ha.toS hw hs).imp fun D σ H ⟨p,ρ,P,er,a,h⟩=>⟨p,ρ,er,(gC (H:=H) a h).mono fun vs H1 ⟨xs,p1,ρ1,g1,bK,r1,q,h1⟩=>by
    match xs,q with
    | [s,t],q=>
      obtain⟨v,r,rfl,a1,a2⟩:=ax.mp r1
      obtain⟨v',r',rfl,a3,a4⟩:=ax.mp a2
      rw[aP.mp a4]
      refine⟨v,v',rfl,h1.nx _ q _ _ H1 ((dM i).trans (dM j)) ((bK.set i a1).set j (a3.up (dM i).same))⟩⟩
theorem B2{H:Hp}{p:iL}{t:Tv}{v:V}(u:d8 H p)(r:Rep K (p 0) t v):∃ p',da p p'/\d8 H p'/\(∀ j,3<=j->p' j=iN)/\rY K (p' 0) (p' 2) (some v) (.va t):=by
  have u2:=u.mv (j:=2) (by decide)
  have hb:=u2.gather 2 (by decide) (by decide)
  rw[tT,lK (k:=1) (by decide) (by decide)] at hb
  have s2:bP (p 0) (uo H (p 1) iN):=(dM (p:=p) 0).same.trans hb.2
  exact⟨three (uo H (p 1) iN) (p 1) iN,⟨s2,rfl⟩,hb.1,yV,rfl,v,rfl,r.up s2⟩
theorem a_{e:Expr}{m:Mv Tv}{pos:Pos}(he:PE X e (tV K E m)):PS X (.Return (some e) pos) (tS K E (gk m)):=
  (lJ he).imp fun D σ H ⟨p,ρ,P,er,a,h⟩=>⟨p,ρ,er,(gC (H:=H) a h).mono fun v H1 ⟨x,p1,ρ1,g1,bK,r1,q,h1⟩=>
    let ⟨p',g',u',h3,s'⟩:=B2 bK.gK r1;h1.rt _ ρ1 q v p' H1 g' u' h3 s'⟩
def ib(m:Mv Tv):Sv:=F' m fun t ρ P=>P (.rk t) ρ
theorem dj{e:Expr}{m:Mv Tv}{pos:Pos}(he:PE X e (tV K E m)):PS X (.Return (some e) pos) (tS K E (ib m)):=
  (lJ he).imp fun D σ H ⟨p,ρ,P,er,a,h⟩=>⟨p,ρ,er,(gC (H:=H) a h).mono fun v H1 ⟨x,p1,ρ1,g1,bK,r1,q,h1⟩=>h1.rk _ ρ1 q v σ p1 H1 .refl bK r1⟩
theorem cM{c:Expr}{a b:List Stmt}{m:Mv Bool}{sa sb:Sv}{pos:Pos}(hc:PT X c (xn K E m))(ha:ju X a (tS K E sa))(hb:ju X b (tS K E sb)):PS X (.If c a b pos) (tS K E (f_ m sa sb)):=
  (Ag hc ha hb).imp fun D σ H ⟨p,ρ,P,er,a,h⟩=>⟨p,ρ,er,(gC (H:=H) a h).mono fun v H1 ⟨x,p1,ρ1,g1,bK,r1,q,h1⟩=>by
    have r1:v=x:=r1
    subst r1
    cases v with
    | true=>exact⟨p1,ρ1,P,bK,q,h1⟩
    | false=>exact⟨p1,ρ1,P,bK,q,h1⟩⟩
theorem xW{i:Nat}{x:Str}{es:List Expr}{ms:List (Mv Tv)}{pos pos' lp:Pos}(hN:X.N.Nodup)(hi:X.N[i]?=some x)(hx:Loc X.env.scope x)(he:PA X es (lh K E ms))(hz:ms.length<=1000:=by decide)(hs:swapsWith (.List es lp) (some (.Name x pos')) pos.line X.env=pure false:=by rfl)(hf:X.fn x=true\/X.env.scope.names.lookup x=some .local:=by first | exact .inl rfl | exact .inr rfl | assumption):
    PS X (.Assign [.Name x pos'] (.List es lp) pos) (tS K E (EA i ms)):=fun pins s σ H D I ⟨p,ρ,P,er,a,h⟩=>by
  refine nY hN hi hx (MH he) hs hf pins s σ H D I ⟨p,ρ,er,(gC (H:=H) a h).mono fun vs H1 ⟨xs,p1,ρ1,g1,bK,r1,q,h1⟩ hlen=>?_⟩
  refine⟨by rw[hlen];exact xS hz,fun Da hD=>?_⟩
  have hl:i<ρ1.length:=by
    have h0:i<X.N.length:=(List.getElem?_eq_some_iff.mp hi).1
    rw[← bK.len,I.len];exact h0
  obtain⟨e2,g2⟩:=bK.setNew hl hD r1
  exact h1.nx _ (q Da) _ _ _ g2 e2
theorem CT{i:Nat}{x:Str}{e:Expr}{m:Mv Tv}{xp ap cp pos:Pos}(hK:X.K=K)(hN:X.N[i]?=some x)(hv:Hw X.env.scope x)(he:PE X e (tV K E m))(wX:starEach [e] X.env=[(false,eval e X.env)]:=by rfl)
    (nI:attributeBase (.Name x xp) "append" X.env (eval (.Name x xp) X.env)=eval (.Name x xp) X.env:=by rfl)
    (GL:((backTo cp (starEach [e] X.env)).all (fun x=>!x.1)&&(backToKw cp (keywordEach [] X.env)).all (fun x=>x.1.isSome)&&decide (([e]:List Expr).length+([]:List Keyword).length+(if ([]:List Keyword).isEmpty then 0 else 1)<30))=true:=by rfl)
    (pW:(ap.endLine==cp.line)=true:=by rfl) (hsw:swapsWith (.Call (.Attribute (.Name x xp) "append" ap) [e] [] cp) none pos.line X.env=pure false:=by rfl) (hd:(x==("__debug__":Str))=false:=by decide) (qF:(x==("__classdict__":Str))=false:=by decide) :
    PS X (.Expr (.Call (.Attribute (.Name x xp) "append" ap) [e] [] cp) pos) (tS K E (Ke i m)):=by
  subst hK
  refine (uH (KY PySem.F.plainAttrs_list PySem.F.slot_list_append PySem.F.type_list_append Bw (aW hN hv hd qF) (aV he cD wX) nI GL pW wX rfl) hsw).imp fun D σ H ⟨p,ρ,P,er,a,h⟩=>?_
  unfold Ke at a
  split at a
  · rename_i Da l e
    obtain⟨xs,e1,e2,e3,r⟩:=er.own e
    refine⟨.ref Da,e1,.inl ⟨rfl,xs,fW.of e2⟩,p,ρ,er,(gC (H:=H) a h).mono fun v H1 ⟨t,p1,ρ1,g1,bK,r1,q,h1⟩=>?_⟩
    split at q
    · rename_i Db l' e'
      obtain⟨ys,f1,f2,f3,rr⟩:=bK.own e'
      rw[e1] at f1
      cases f1
      obtain⟨e5,g5⟩:=bK.putOwn e' (rr.app (.cons r1 .nil))
      exact⟨Da,ys,v,rfl,rfl,f2,by rw[rr.len];exact q.1,h1.nx _ q.2 σ _ _ g5 e5⟩
    · exact q.elim
  · exact a.elim
theorem we{st:Stmt}{b:Sv}(i:Nat)(h:PS X st (tS K E b)):PS X st (tS K E (Gr i b)):=h.imp fun D σ H ⟨p,ρ,P,er,a,h⟩=>
  let ⟨p',e',g'⟩:=er.frz i;⟨p',_,P,e',a,h.grow g'⟩
theorem sI{tg iter:Expr}{body:List Stmt}{pos:Pos}{it:Mv (List Tv)}{g:TG}{f:Gv}{b:Sv}(hp:PassesOwn (model X.prog X.w) X.A X.env X.xe)(hc:X.calm=true)(hi:PI X tg iter (iV K E it))(U8:PG X tg g)(hg:Gc K g f)(hb:ju X body (tS K E b))
    (hs:∀ x,foldedSetIterable iter X.env x=pure x:=by intro _;rfl):PS X (.For tg iter body [] pos) (tS K E (FT it f b)):=
  (SA hp hc hi U8 hb hs).imp fun D σ H ⟨p,ρ,P,er,a,h⟩=>by
    refine⟨p,ρ,er,_,a,fun l ρ1 q J p1 H1 g1 bK hj=>?_,fun c0 ρ1 q p1 H1 g1 bK=>h.er c0 ρ1 q σ p1 H1 g1 bK⟩
    refine⟨fun i m σ' H'=>m=l.length-i/\i<=l.length/\∃ p' ρ',da p1 p'/\ER K p' H' σ' ρ'/\FP f b (l.drop i) ρ' P,⟨l.length,by simp,Nat.zero_le _,p1,ρ1,.refl,bK,by have q:FP f b l ρ1 P:=q;simpa using q⟩,?_⟩
    rintro i m σ' H' ⟨rfl,hi,p',ρ',g',e',w⟩
    obtain⟨jg,js⟩:=hj p' H' g'.same e'.gK
    by_cases Ga:i<l.length
    · rw[List.drop_eq_getElem_cons Ga] at w
      obtain⟨ρ2,eg,w⟩:=w
      obtain⟨go,yl⟩:=jg i l[i] (List.getElem?_eq_getElem Ga)
      refine .inr ⟨go,fun σ'' TQ=>∃ QS ρ'',da p1 QS/\ER K QS TQ σ'' ρ''/\FP f b (l.drop (i+1)) ρ'' P,fun σ'' TQ ⟨QS,ρ'',a,b,c⟩=>⟨l.length-(i+1),by omega,rfl,Ga,QS,ρ'',a,b,c⟩,fun x H2 y=>?_⟩
      obtain⟨G2,s2,u2,r2⟩:=yl x H2 y
      have e2:=e'.grow s2 u2
      refine hg _ H2 σ' _ l[i] x ρ2 _ e2 (by rw[az];exact r2) eg fun σ2 q3 g3 e3=>?_
      have Yl:=g'.trans ((jv s2).trans g3)
      have h3:=h.grow (g1.trans Yl)
      exact⟨q3,ρ2,_,e3,w,⟨fun ρ4 q4 σ4 p4 H4 g4 e4=>⟨p4,ρ4,Yl.trans g4,e4,q4⟩,h3.rt,fun ρ4 q4 σ4 p4 H4 g4 e4=>h3.nx ρ4 q4 σ4 p4 H4 g4 e4,fun ρ4 q4 σ4 p4 H4 g4 e4=>⟨p4,ρ4,Yl.trans g4,e4,q4⟩,h3.er,h3.rk⟩⟩
    · have ei:i=l.length:=by omega
      subst ei
      rw[List.drop_length] at w
      exact .inl ⟨js,(h.grow (g1.trans g')).nx ρ' w σ' p' H' .refl e'⟩
theorem uq{c:Expr}{body:List Stmt}{pos:Pos}{m:Mv Bool}{b:Sv}(hp:PassesOwn (model X.prog X.w) X.A X.env X.xe)(hc:PT X c (xn K E m))(hb:ju X body (tS K E b)):PS X (.While c body [] pos) (tS K E (Ab m b)):=
  (Fx hp hc hb).imp fun D σ H ⟨p,ρ,P,er,⟨W,⟨m0,w0⟩,turn⟩,h⟩=>by
    refine⟨fun n σ' H'=>∃ p' ρ',da p p'/\ER K p' H' σ' ρ'/\W n ρ',⟨m0,p,ρ,.refl,er,w0⟩,?_⟩
    rintro n σ' H' ⟨p',ρ',g',e',w⟩
    refine⟨p',ρ',e',_,turn n ρ' w,fun x ρ1 q v p1 H1 g1 e1 r1=>?_,fun c0 ρ1 q p1 H1 g1 e1=>(h.grow g').er c0 ρ1 q σ' p1 H1 g1 e1⟩
    have r1:v=x:=r1
    subst r1
    have Y2:=g'.trans g1
    have h1:=h.grow Y2
    cases v with
    | true=>
      exact⟨fun σ2 H2=>∃ p2 ρ2,da p p2/\ER K p2 H2 σ2 ρ2/\∃ m',m'<n/\W m' ρ2,fun σ2 H2 ⟨p2,ρ2,a,b,m',c,d⟩=>⟨m',c,p2,ρ2,a,b,d⟩,
        p1,ρ1,_,e1,q,⟨fun ρ4 q4 σ4 p4 H4 g4 e4=>⟨p4,ρ4,Y2.trans g4,e4,q4⟩,h1.rt,fun ρ4 q4 σ4 p4 H4 g4 e4=>h1.nx ρ4 q4 σ4 p4 H4 g4 e4,fun ρ4 q4 σ4 p4 H4 g4 e4=>⟨p4,ρ4,Y2.trans g4,e4,q4⟩,h1.er,h1.rk⟩⟩
    | false=>exact h1.nx ρ1 q σ' p1 H1 .refl e1
theorem j6{C:Addr}{x:Str}{np gw pos:Pos}{e:Expr}{es:List Expr}{ms:List (Mv Tv)}(hc:X.calm=true)(hR:Gs X E)(q:PySem.W.excIn X.K C PY "ValueError.__new__"=true)(hg:Gl X x)(hm:X.mg x=some (.ref C))(ha:PA X (e::es) (lh K E ms))(hz:ms.length<=1000:=by decide)
    (qc:(x==("__debug__":Str))=false:=by decide) (he:starEach (e::es) X.env=(false,eval e X.env)::starEach es X.env:=by rfl) (qz:(backTo gw (starEach es X.env)).any (·.1)=false:=by rfl) :
    PS X (.Raise (some (.Call (.Name x np) (e::es) [] gw)) none pos) (tS K E (oq C ms)):=
  (yq hc hR q hg hm ha qc he qz).imp fun D σ H ⟨p,ρ,P,er,a,h⟩=>⟨p,ρ,er,(gC (H:=H) a h).mono fun vs H1 ⟨xs,p1,ρ1,g1,bK,r1,q,h1⟩ hlen=>by
    exact⟨by rw[hlen];exact xS hz,h1.er C ρ1 q σ p1 H1 .refl bK⟩⟩
theorem M8{p:iL}{H:Hp}{N:List Str}{ts:List Tv}{vs:List V}(u:d8 H p)(h2:∀ j,2<=j->p j=iN)(r:aw K (p 0) ts vs)(hl:ts.length<=N.length):ER K p H (start N vs) (ts.map Sl.va++List.replicate (N.length-ts.length) Sl.un):=by
  have Vg:=r.len
  refine⟨u,?_,fun i s e=>?_,fun i _=>h2 _ (by omega)⟩
  · unfold start
    rw[List.length_append,List.length_map,List.length_replicate,List.length_append,List.length_map,List.length_replicate,Vg]
  · rw[h2 (i+2) (by omega)]
    by_cases hi:i<ts.length
    · rw[List.getElem?_append_left (by simpa using hi),List.getElem?_map] at e
      obtain⟨t,ht,rfl⟩:=Option.map_eq_some_iff.mp e
      obtain⟨v,hv,q⟩:=r.get ht
      refine⟨rfl,v,?_,q⟩
      unfold start
      rw[List.getElem?_append_left (by simpa [Vg] using hi),List.getElem?_map,hv]
      rfl
    · rw[List.getElem?_append_right (by simpa using hi),List.getElem?_replicate] at e
      split at e
      · cases e;rfl
      · cases e
theorem i7{P:Program}{w:World}{mg:Str->Option Value}{base:Heap}{x qual:Str}{st:Stmt}{f:Addr}{fd:FuncData}{N ps:List Str}{k:Nat}{C:Ct}(F:sk K x qual st f fd)(S:aA N ps (ak st))(b:Sv)(hl:∀ ts Q,C ts Q->ts.length=ps.length)(hC:∀ ts Q,C ts Q->fu N.length b ts Q)
    (hb:∀ (c9:Value) (A:Around) (outer:List Env) (s:Shared) (H:Hp) (E:XK),eZ k (A.deeper (envOfC qual (ak st) s.heap.objs.size f c9))->ju (nG (iP P w) P w K mg base N qual (ak st) f c9 A outer s H E) (gE st) (tS K (fun _=>E) b)) :
    aQ P w K mg base (iP P w) (k+1) f fd ps (sN K C):=by
  have hps:ps.length<=N.length:=by have:=congrArg List.length S.pre;rw[List.length_take] at this;omega
  refine F.okX S (fun vs H Q E ⟨p,ts,P,u,h2,r,c,_⟩=>by rw[r.len];exact hl ts _ c) fun c9 A outer s H vs Q E hr ⟨p,ts,P',u,h2,r,c,cQ,her⟩=>⟨_,hb c9 A outer s H E hr,?_⟩
  have Yx:=hl ts _ c
  refine⟨p,_,_,M8 u h2 r (by omega),hC ts _ c,⟨fun ρ' q σ' p' H' g e=>?_,fun r' ρ' q v p' H' g u' h3 s'=>cQ r' q v p' H' g u' h3 s',fun ρ' q=>q.elim,fun ρ' q=>q.elim,fun c0 ρ' q σ' p' H' g e=>?_,fun t ρ' q=>q.elim⟩⟩
  · obtain⟨p2,g2,u2,h3,s2⟩:=B2 (K:=K) (t:=.non) (v:=.non) e.gK (d7.mpr rfl)
    exact cQ _ q _ p2 H' (g.trans g2) u2 h3 s2
  · obtain⟨p2,g2,u2,h3,s2⟩:=B2 (K:=K) (t:=.non) (v:=.non) e.gK (d7.mpr rfl)
    exact her c0 q p2 H' (g.trans g2) u2 fun j hj=>by
      by_cases e:j=2
      · subst e;exact s2.1
      · exact h3 j (by omega)
end
end L2
namespace L2
open PySem PySem.Spec PyProof.Rows
theorem gJ.imp{X:Cx}{f:Value->Value->Sem Value}{r r':R2}(h:gJ X f r)(k:∀ x y H Q,r' x y H Q->r x y H Q):gJ X f r':=fun pins s σ H x y v u Q I rx ry q=>h pins s σ H x y v u Q I rx ry (k _ _ _ _ q)
theorem Jl.imp{X:Cx}{r r':R2}(h:Jl X r)(k:∀ x y H Q,r' x y H Q->r x y H Q):Jl X r':=fun a b pins s σ H x y v u Q I rx ry q hs=>h a b pins s σ H x y v u Q I rx ry (k _ _ _ _ q) hs
theorem dW.imp{X:Cx}{f:Value}{r r':List V->Hp->VK->Prop}(h:dW X f r)(k:∀ x H Q,r' x H Q->r x H Q):dW X f r':=fun pins s σ H xs us Q I rv q=>h pins s σ H xs us Q I rv (k _ _ _ q)
section
variable {X:Cx} {K:PySem.W.Frag}
theorem aX{p:iL}{H:Hp}{Q:VK}{P:Tv->Prop}{t:Tv}{v:V}(u:d8 H p)(q:P t)(k:∀ t,P t->∀ v G' H',bP (p 0) G'->d8 H' (a9 p 0 G')->Rep K G' t v->Q v H')(r:Rep K (p 0) t v):Q v H:=k t q v (p 0) H (bP.refl _) (MN u) r
theorem wz{p:iL}{H:Hp}{Q:VK}{P:Tv->Prop}{t:Tv}{a:Addr}{o:HO}(u:d8 H p)(q:P t)(k:∀ t,P t->∀ v G' H',bP (p 0) G'->d8 H' (a9 p 0 G')->Rep K G' t v->Q v H')(n:H a=none)(r:bP (p 0) (upd (p 0) a o)->Rep K (upd (p 0) a o) t (.ref a)):Q (.ref a) (upd H a o):=by
  have s0:bP (p 0) (upd (p 0) a o):=fun b o' e=>by rw[aI (aU e (u.fresh n 0))];exact e
  exact k t q _ _ _ s0 (u.alloc n 0 o) (r s0)
theorem Ow(hK:X.K=K):gJ X (binaryOp .Add) (fun x y H Q=>∃ a b xs ys,x=.ref a/\y=.ref b/\kn K H a xs/\kn K H b ys/\xs.length+ys.length<=sizeLine/\(xs=[]->Q (.ref b) H)/\(ys=[]->Q (.ref a) H)/\∀ p,H p=none->Q (.ref p) (upd H p (.tup (xs++ys)))):=by
  subst hK
  intro pins s σ H x y v u Q I rx ry h
  obtain⟨a,b,xs,ys,rfl,rfl,ha,hb,hz,q0,q1,q2⟩:=h
  by_cases hx:xs=[]
  · subst hx
    cases rx
    cases ry
    obtain⟨aS,r1,p1,_⟩:=I.tuple ha
    obtain⟨gy,r2,p2,_⟩:=I.tuple hb
    cases r1
    obtain⟨⟨cls,dd,data,sl⟩,ho,hc,n,hd⟩:=id p1
    obtain⟨⟨cls2,dd2,data2,sl2⟩,ho2,hc2,n2,hd2⟩:=id p2
    simp only at hc hd hc2 hd2
    subst hc hd hc2 hd2
    exact concat_meets ⟨_,ho,rfl⟩ ⟨_,ho2,rfl⟩ noFill_tuple_add seq_tuple_add PySem.F.slot_tuple_add PySem.F.entry_tuple_add (PySem.F.args_tuple_add_2 _ _)
      (tuple_addW0 a b ([]:List Value).toArray gy.toArray n n2 dd dd2 sl sl2 (by simp)) ⟨ho,ho2,⟨.ref b,H,I,rfl,q0 rfl⟩⟩
  · exact Nj pins s σ H _ _ _ _ Q I rx ry ⟨a,b,xs,ys,rfl,rfl,ha,hb,hx,hz,q1,fun _ p hp=>q2 p hp⟩
theorem aw.nil_of{G:Hp}{l:List Tv}(h:aw K G l []):l=[]:=List.eq_nil_of_length_eq_zero h.len.symm
def BM:Nat:=2 ^ 1048576
theorem WB{n k:Nat}(h:n<2 ^ k)(hk:k<=1048576):n<BM:=Nat.lt_of_lt_of_le h (Nat.pow_le_pow_right (by decide) hk)
def fM:Tv->Tv->(Tv->Prop)->Prop
  | .int i,.int j,k=>k (.int (i+j))
  | .str i,.str j,k=>i.length+j.length<=sizeLine/\k (.str (i++j))
  | .tup a,.tup b,k=>a.length+b.length<=sizeLine/\k (.tup (a++b))
  | .lst a,.lst b,k=>a.length+b.length<=sizeLine/\k (.lst (a++b))
  | _,_,_=>False
theorem cn(hK:X.K=K):gJ X (binaryOp .Add) (rV K fM):=by
  refine (Q9.or (Hg.or ((Ow hK).or MG))).imp fun x y H Q ⟨p,a,b,P,u,ra,rb,w,k⟩=>?_
  match a,b,w with
  | .int i,.int j,w=>exact .inl ⟨i,j,ao.mp ra,ao.mp rb,aX u w k (ao.mpr rfl)⟩
  | .str i,.str j,w=>exact .inr (.inl ⟨i,j,aC.mp ra,aC.mp rb,w.1,aX u w.2 k (aC.mpr rfl)⟩)
  | .tup l,.tup m,w=>
    obtain⟨c,xs,rfl,s1,q1⟩:=cb ra
    obtain⟨d,ys,rfl,s2,q2⟩:=cb rb
    refine .inr (.inr (.inl ⟨c,d,xs,ys,rfl,rfl,(u.sub 0).seqT s1,(u.sub 0).seqT s2,by rw[q1.len,q2.len];exact w.1,fun e=>?_,fun e=>?_,fun a n=>wz u w.2 k n fun s0=>la.mpr ⟨a,_,rfl,GR.of aH,(q1.app q2).up s0⟩⟩))
    · subst e
      have e:=q1.nil_of
      subst e
      exact aX u w.2 k rb
    · subst e
      have e:=q2.nil_of
      subst e
      refine aX u w.2 k (t:=.tup (l++[])) ?_
      rw[List.append_nil]
      exact ra
  | .lst l,.lst m,w=>
    obtain⟨c,xs,rfl,s1,q1⟩:=ba.mp ra
    obtain⟨d,ys,rfl,s2,q2⟩:=ba.mp rb
    refine .inr (.inr (.inr ⟨c,d,xs,ys,rfl,rfl,u.sub 0 _ _ s1,u.sub 0 _ _ s2,by rw[q1.len,q2.len];exact w.1,fun a n=>wz u w.2 k n fun s0=>ba.mpr ⟨a,_,rfl,aH,(q1.app q2).up s0⟩⟩))
def GA:Tv->Tv->(Tv->Prop)->Prop
  | .int i,.int j,k=>k (.int (i-j))
  | _,_,_=>False
theorem Bm:gJ X (binaryOp .Sub) (rV K GA):=Rm.imp fun x y H Q ⟨p,a,b,P,u,ra,rb,w,k⟩=>by
  match a,b,w with
  | .int i,.int j,w=>exact⟨i,j,ao.mp ra,ao.mp rb,aX u w k (ao.mpr rfl)⟩
def sV:Tv->Tv->(Tv->Prop)->Prop
  | .int i,.int j,k=>(i.natAbs<BM/\j.natAbs<BM)/\k (.int (i*j))
  | .lst l,.int j,k=>(-(2 ^ 63)<=j/\j<2 ^ 63/\l.length*j.toNat<=sizeLine)/\k (.lst (List.replicate j.toNat l).flatten)
  | _,_,_=>False
theorem mm:gJ X (binaryOp .Mult) (rV K sV):=(Jf.or RS).imp fun x y H Q ⟨p,a,b,P,u,ra,rb,w,k⟩=>by
  match a,b,w with
  | .int i,.int j,w=>exact .inl ⟨i,j,ao.mp ra,ao.mp rb,⟨1048576,by decide,w.1.1,w.1.2⟩,aX u w.2 k (ao.mpr rfl)⟩
  | .lst l,.int j,w=>
    obtain⟨c,xs,rfl,s1,q1⟩:=ba.mp ra
    exact .inr ⟨c,j,xs,rfl,ao.mp rb,u.sub 0 _ _ s1,w.1.1,w.1.2.1,by rw[q1.len];exact w.1.2.2,fun a n=>wz u w.2 k n fun s0=>ba.mpr ⟨a,_,rfl,aH,(q1.rep _).up s0⟩⟩
def gU(j:Int):Tv->(Tv->Prop)->Prop
  | .int i,k=>k (.int (i / j))
  | _,_=>False
def eN(j:Int):Tv->(Tv->Prop)->Prop
  | .int i,k=>k (.int (i % j))
  | _,_=>False
def PV:Tv->Tv->(Tv->Prop)->Prop
  | .int i,.int j,k=>(0<j/\j<1073741824)/\k (.int (i / j))
  | _,_,_=>False
theorem Tp:gJ X (binaryOp .FloorDiv) (rV K PV):=Nr.imp fun x y H Q ⟨p,a,b,P,u,ra,rb,w,k⟩=>by
  match a,b,w with
  | .int i,.int j,w=>exact⟨i,j,ao.mp ra,ao.mp rb,w.1,aX u w.2 k (ao.mpr rfl)⟩
def Bl:Tv->Tv->(Tv->Prop)->Prop
  | .int i,.int j,k=>(j≠0/\j.natAbs.log2<9000)/\k (.int (i.fdiv j))
  | _,_,_=>False
theorem yo:gJ X (binaryOp .FloorDiv) (rV K Bl):=pS.imp fun x y H Q ⟨p,a,b,P,u,ra,rb,w,k⟩=>by
  match a,b,w with
  | .int i,.int j,w=>exact⟨i,j,ao.mp ra,ao.mp rb,w.1,aX u w.2 k (ao.mpr rfl)⟩
def Je:Tv->Tv->(Tv->Prop)->Prop
  | .int i,.int j,k=>0<j/\k (.int (i % j))
  | _,_,_=>False
theorem Gx:gJ X (binaryOp .Mod) (rV K Je):=SD.imp fun x y H Q ⟨p,a,b,P,u,ra,rb,w,k⟩=>by
  match a,b,w with
  | .int i,.int j,w=>exact⟨i,j,ao.mp ra,ao.mp rb,w.1,aX u w.2 k (ao.mpr rfl)⟩
def TB:Tv->Tv->(Tv->Prop)->Prop
  | .int i,.int j,k=>(0<=j/\j<=1000000/\i.natAbs<2 ^ 64)/\k (.int (i ^ j.toNat))
  | _,_,_=>False
theorem Ph:gJ X (binaryOp .Pow) (rV K TB):=TF.imp fun x y H Q ⟨p,a,b,P,u,ra,rb,w,k⟩=>by
  match a,b,w with
  | .int i,.int j,w=>exact⟨i,j,ao.mp ra,ao.mp rb,w.1,aX u w.2 k (ao.mpr rfl)⟩
theorem ef{E:St->XK}{a:Expr}{m:Mv Tv}{j:Int}{n:Nat}{cp pos:Pos}(ha:PE X a (tV K E m))(hj:0<j/\j<1073741824:=by decide):PE X (.BinOp a .FloorDiv (.Constant (.int j) n cp) pos) (tV K E (ko (gU j) m)):=
  (bI (W:=PV) Tp ha au).imp fun σ H Q ⟨p,ρ,er,P,a,b,c⟩=>⟨p,ρ,er,P,by
    refine cast ?_ a
    show m ρ _=m ρ _
    congr 1
    funext r ρ1
    cases r with
    | er c=>rfl
    | ok x=>
      cases x with
      | int i=>exact propext ⟨fun h=>⟨hj,h⟩,fun h=>h.2⟩
      | _=>rfl,b,c⟩
theorem cN{E:St->XK}{a:Expr}{m:Mv Tv}{j:Int}{n:Nat}{cp pos:Pos}(ha:PE X a (tV K E m))(hj:0<j:=by decide):PE X (.BinOp a .Mod (.Constant (.int j) n cp) pos) (tV K E (ko (eN j) m)):=
  (bI (W:=Je) Gx ha au).imp fun σ H Q ⟨p,ρ,er,P,a,b,c⟩=>⟨p,ρ,er,P,by
    refine cast ?_ a
    show m ρ _=m ρ _
    congr 1
    funext r ρ1
    cases r with
    | er c=>rfl
    | ok x=>
      cases x with
      | int i=>exact propext ⟨fun h=>⟨hj,h⟩,fun h=>h.2⟩
      | _=>rfl,b,c⟩
def T1:Tv->Tv->(Tv->Prop)->Prop
  | .int i,.int j,k=>k (.bl (decide (i<j)))
  | _,_,_=>False
def Xn:Tv->Tv->(Tv->Prop)->Prop
  | .int i,.int j,k=>k (.bl (decide (i<=j)))
  | _,_,_=>False
def Wf:Tv->Tv->(Tv->Prop)->Prop
  | .int i,.int j,k=>k (.bl (decide (j<i)))
  | _,_,_=>False
def wGe:Tv->Tv->(Tv->Prop)->Prop
  | .int i,.int j,k=>k (.bl (decide (j<=i)))
  | _,_,_=>False
theorem Ml:gJ X (compareOp .Lt) (rV K T1):=Mq.imp fun x y H Q ⟨p,a,b,P,u,ra,rb,w,k⟩=>by
  match a,b,w with
  | .int i,.int j,w=>exact⟨i,j,ao.mp ra,ao.mp rb,aX u w k (aG.mpr rfl)⟩
theorem RF:gJ X (compareOp .LtE) (rV K Xn):=UQ.imp fun x y H Q ⟨p,a,b,P,u,ra,rb,w,k⟩=>by
  match a,b,w with
  | .int i,.int j,w=>exact⟨i,j,ao.mp ra,ao.mp rb,aX u w k (aG.mpr rfl)⟩
theorem Nd:gJ X (compareOp .Gt) (rV K Wf):=WW.imp fun x y H Q ⟨p,a,b,P,u,ra,rb,w,k⟩=>by
  match a,b,w with
  | .int i,.int j,w=>exact⟨i,j,ao.mp ra,ao.mp rb,aX u w k (aG.mpr rfl)⟩
theorem YZ:gJ X (compareOp .GtE) (rV K wGe):=VO.imp fun x y H Q ⟨p,a,b,P,u,ra,rb,w,k⟩=>by
  match a,b,w with
  | .int i,.int j,w=>exact⟨i,j,ao.mp ra,ao.mp rb,aX u w k (aG.mpr rfl)⟩
def F6:Tv->Bool
  | .non=>true
  | _=>false
theorem BP{G:Hp}{t:Tv}{v:V}(r:Rep K G t v):decide (v=.non)=F6 t:=by
  cases t with
  | non=>rw[d7.mp r];rfl
  | bl b=>rw[aG.mp r];rfl
  | int b=>rw[ao.mp r];rfl
  | str b=>rw[aC.mp r];rfl
  | ty b=>rw[Hx.mp r];rfl
  | cls b=>rw[DA.mp r];rfl
  | tup l=>obtain⟨a,xs,rfl,_⟩:=cb r;rfl
  | lst l=>obtain⟨a,xs,rfl,_⟩:=ba.mp r;rfl
  | scr l=>obtain⟨a,xs,rfl,_⟩:=qA.mp r;rfl
  | obj C fs l=>unfold Rep at r;obtain⟨a,dx,xs,rfl,_⟩:=r;rfl
  | dic ks l=>obtain⟨a,xs,rfl,_⟩:=oi.mp r;rfl
def Y':Tv->Tv->(Tv->Prop)->Prop
  | x,.non,k=>k (.bl (F6 x))
  | .bl a,.bl b,k=>k (.bl (a==b))
  | _,_,_=>False
def UB:Tv->Tv->(Tv->Prop)->Prop
  | x,.non,k=>k (.bl (!F6 x))
  | .bl a,.bl b,k=>k (.bl (a != b))
  | _,_,_=>False
theorem U5:gJ X (compareOp .Is) (rV K Y'):=(Qa.or Sb).imp fun x y H Q ⟨p,a,b,P,u,ra,rb,w,k⟩=>by
  cases b with
  | non=>exact .inl ⟨d7.mp rb,aX u (show P (.bl (F6 a)) by cases a <;> exact w) k (aG.mpr (by rw[BP ra]))⟩
  | bl b=>
    cases a with
    | bl a=>exact .inr ⟨a,b,aG.mp ra,aG.mp rb,aX u (show P (.bl (a==b)) from w) k (aG.mpr rfl)⟩
    | _=>exact w.elim
  | _=>cases a <;> exact w.elim
theorem T_:gJ X (compareOp .IsNot) (rV K UB):=(O5.or JS).imp fun x y H Q ⟨p,a,b,P,u,ra,rb,w,k⟩=>by
  cases b with
  | non=>exact .inl ⟨d7.mp rb,aX u (show P (.bl (!F6 a)) by cases a <;> exact w) k (aG.mpr (by rw[BP ra]))⟩
  | bl b=>
    cases a with
    | bl a=>exact .inr ⟨a,b,aG.mp ra,aG.mp rb,aX u (show P (.bl (a != b)) from w) k (aG.mpr rfl)⟩
    | _=>exact w.elim
  | _=>cases a <;> exact w.elim
def lC:Tv->Bool
  | .non=>true
  | .bl _=>true
  | .int _=>true
  | .str _=>true
  | _=>false
def ZP:Tv->Tv->Bool
  | .non,.non=>true
  | .bl a,.bl b=>a==b
  | .bl a,.int b=>(if a then 1 else 0)==b
  | .int a,.bl b=>a==(if b then 1 else 0)
  | .int a,.int b=>a==b
  | .str a,.str b=>a==b
  | _,_=>false
def Ek:List Tv->List Tv->Bool
  | [],[]=>true
  | a::l,b::m=>ZP a b&&Ek l m
  | _,_=>false
theorem O9{G:Hp}{t:Tv}{v:V}(f:lC t=true)(r:Rep K G t v):gI v=true:=by
  cases t with
  | non=>rw[d7.mp r];rfl
  | bl b=>rw[aG.mp r];rfl
  | int b=>rw[ao.mp r];rfl
  | str b=>rw[aC.mp r];rfl
  | _=>cases f
theorem Rv{G:Hp}{s t:Tv}{u v:V}(fs:lC s=true)(ft:lC t=true)(r:Rep K G s u)(q:Rep K G t v):Ba u v=ZP s t:=by
  cases s with
  | non=>
    rw[d7.mp r]
    cases t with
    | non=>rw[d7.mp q];rfl
    | bl b=>rw[aG.mp q];rfl
    | int b=>rw[ao.mp q];rfl
    | str b=>rw[aC.mp q];rfl
    | _=>cases ft
  | bl a=>
    rw[aG.mp r]
    cases t with
    | non=>rw[d7.mp q];rfl
    | bl b=>rw[aG.mp q];rfl
    | int b=>rw[ao.mp q];rfl
    | str b=>rw[aC.mp q];rfl
    | _=>cases ft
  | int a=>
    rw[ao.mp r]
    cases t with
    | non=>rw[d7.mp q];rfl
    | bl b=>rw[aG.mp q];rfl
    | int b=>rw[ao.mp q];rfl
    | str b=>rw[aC.mp q];rfl
    | _=>cases ft
  | str a=>
    rw[aC.mp r]
    cases t with
    | non=>rw[d7.mp q];rfl
    | bl b=>rw[aG.mp q];rfl
    | int b=>rw[ao.mp q];rfl
    | str b=>rw[aC.mp q];rfl
    | _=>cases ft
  | _=>cases fs
theorem je{G:Hp}:∀ {l:List Tv} {xs:List V},l.all lC=true->aw K G l xs->xs.all gI=true
  | [],xs,_,r=>by rw[aP.mp r];rfl
  | t::l,xs,f,r=>by
    obtain⟨v,q,rfl,a,b⟩:=ax.mp r
    rw[List.all_cons,Bool.and_eq_true] at f
    rw[List.all_cons,O9 f.1 a,je f.2 b];rfl
theorem u7{G:Hp}:∀ {l m:List Tv} {xs ys:List V},l.all lC=true->m.all lC=true->aw K G l xs->aw K G m ys->u_ xs ys=Ek l m
  | [],[],xs,ys,_,_,r,q=>by rw[aP.mp r,aP.mp q];rfl
  | [],t::m,xs,ys,_,_,r,q=>by
    obtain⟨v,q,rfl,a,b⟩:=ax.mp q
    rw[aP.mp r];rfl
  | t::l,[],xs,ys,_,_,r,q=>by
    obtain⟨v,r,rfl,a,b⟩:=ax.mp r
    rw[aP.mp q];rfl
  | t::l,s::m,xs,ys,f,g,r,q=>by
    obtain⟨v,r',rfl,a,b⟩:=ax.mp r
    obtain⟨w,q',rfl,c,d⟩:=ax.mp q
    rw[List.all_cons,Bool.and_eq_true] at f g
    show (Ba v w&&u_ r' q')=(ZP t s&&Ek l m)
    rw[Rv f.1 g.1 a c,u7 f.2 g.2 b d]
mutual
def An:Nat->Tv->Bool
  | _,.non=>true
  | _,.bl _=>true
  | _,.int _=>true
  | _,.str _=>true
  | n+1,.tup l=>jo n l
  | n+1,.lst l=>jo n l
  | _,_=>false
def jo:Nat->List Tv->Bool
  | _,[]=>true
  | n,t::l=>An n t&&jo n l
end
mutual
theorem Mj{G:Hp}:∀ (n:Nat) (t:Tv) (u v:V),An n t=true->Rep K G t u->Rep K G t v->Alike K G n u v
  | n,.non,u,v,h,r,q=>by rw[d7.mp r,d7.mp q];exact Alike.flat rfl rfl rfl
  | n,.bl b,u,v,h,r,q=>by rw[aG.mp r,aG.mp q];exact Alike.flat rfl rfl (beq_self_eq_true b)
  | n,.int b,u,v,h,r,q=>by rw[ao.mp r,ao.mp q];exact Alike.int b
  | n,.str b,u,v,h,r,q=>by rw[aC.mp r,aC.mp q];exact Alike.str b
  | n,.ty _,u,v,h,r,q=>by cases n <;> (unfold An at h;cases h)
  | n,.cls _,u,v,h,r,q=>by cases n <;> (unfold An at h;cases h)
  | n,.scr _,u,v,h,r,q=>by cases n <;> (unfold An at h;cases h)
  | n,.obj _ _ _,u,v,h,r,q=>by cases n <;> (unfold An at h;cases h)
  | n,.dic _ _,u,v,h,r,q=>by cases n <;> (unfold An at h;cases h)
  | 0,.tup l,u,v,h,r,q=>by unfold An at h;cases h
  | 0,.lst l,u,v,h,r,q=>by unfold An at h;cases h
  | n+1,.tup l,u,v,h,r,q=>by
    unfold An at h
    obtain⟨a,xs,rfl,s1,q1⟩:=cb r
    obtain⟨b,ys,rfl,s2,q2⟩:=cb q
    exact Alike.tup s1 s2 (i6 n l xs ys h q1 q2)
  | n+1,.lst l,u,v,h,r,q=>by
    unfold An at h
    obtain⟨a,xs,rfl,s1,q1⟩:=ba.mp r
    obtain⟨b,ys,rfl,s2,q2⟩:=ba.mp q
    exact Alike.lst (fW.of s1) (fW.of s2) (i6 n l xs ys h q1 q2)
theorem i6{G:Hp}:∀ (n:Nat) (l:List Tv) (xs ys:List V),jo n l=true->aw K G l xs->aw K G l ys->Paired (Alike K G n) xs ys
  | n,[],xs,ys,h,r,q=>by rw[aP.mp r,aP.mp q];exact .nil
  | n,t::l,xs,ys,h,r,q=>by
    unfold jo at h
    rw[Bool.and_eq_true] at h
    obtain⟨v,r',rfl,a,b⟩:=ax.mp r
    obtain⟨w,q',rfl,c,d⟩:=ax.mp q
    exact .cons (Mj n t v w h.1 a c) (i6 n l r' q' h.2 b d)
end
def xG:Tv->Tv->(Tv->Prop)->Prop
  | .int i,.int j,k=>k (.bl (decide (i=j)))
  | .str i,.str j,k=>k (.bl (decide (i=j)))
  | .bl i,.bl j,k=>k (.bl (decide (i=j)))
  | .tup a,.tup b,k=>(a.all lC=true/\b.all lC=true/\k (.bl (Ek a b)))\/(a=b/\jo 40 a=true/\k (.bl true))\/(b=[]/\k (.bl a.isEmpty))
  | .lst a,.lst b,k=>(a.all lC=true/\b.all lC=true/\k (.bl (Ek a b)))\/(a=b/\jo 40 a=true/\k (.bl true))\/(b=[]/\k (.bl a.isEmpty))
  | _,_,_=>False
def Pe:Tv->Tv->(Tv->Prop)->Prop
  | .int i,.int j,k=>k (.bl (!decide (i=j)))
  | .str i,.str j,k=>k (.bl (!decide (i=j)))
  | .bl i,.bl j,k=>k (.bl (!decide (i=j)))
  | .tup a,.tup b,k=>(a.all lC=true/\b.all lC=true/\k (.bl (!Ek a b)))\/(a=b/\jo 40 a=true/\k (.bl false))\/(b=[]/\k (.bl (!a.isEmpty)))
  | .lst a,.lst b,k=>(a.all lC=true/\b.all lC=true/\k (.bl (!Ek a b)))\/(a=b/\jo 40 a=true/\k (.bl false))\/(b=[]/\k (.bl (!a.isEmpty)))
  | _,_,_=>False
theorem EV{i j:Int}:decide (V.int i=V.int j)=decide (i=j):=by rw[Bool.eq_iff_iff];simp
theorem ET{i j:Str}:decide (V.str i=V.str j)=decide (i=j):=by rw[Bool.eq_iff_iff];simp
theorem Iu{i j:Bool}:decide (V.bl i=V.bl j)=decide (i=j):=by rw[Bool.eq_iff_iff];simp
theorem Nl{X:Cx}{K:PySem.W.Frag}(hK:X.K=K)(hu:X.A.units<cLine):gJ X (compareOp .NotEq) (fun x y H Q=>∃ p q xs,x=.ref p/\y=.ref q/\fW K H p xs/\fW K H q []/\Q (.bl (!xs.isEmpty)) H):=by
  subst hK
  intro pins s σ H x y v u Q I rx ry h
  obtain⟨p,q,xs,rfl,rfl,hx,hy,hq⟩:=h
  cases rx
  cases ry
  obtain⟨aS,r,pl,hz⟩:=I.list hx
  obtain⟨gy,r2,pl2,hz2⟩:=I.list hy
  cases r2
  cases r with
  | nil=>
    refine SeqAt.RcNeAt.lists (e:=fun _=>true) pl.isList pl2.isList rfl hu (fun j h1 h2=>absurd h2 (Nat.not_lt_zero j)) _ _ _ _ ?_
    exact⟨.bl false,H,I,rfl,hq⟩
  | cons a b=>
    refine SeqAt.RcNeAt.lists_lengths pl.isList pl2.isList rfl hu _ _ _ _ ?_
    exact⟨.bl true,H,I,rfl,hq⟩
theorem k9(hK:X.K=K)(hu:X.A.units+64<cLine):gJ X (compareOp .Eq) (rV K xG):=by
  have h0:X.A.units<cLine:=by omega
  have hT:gJ X (compareOp .Eq) (fun x y H Q=>∃ p q xs ys,x=.ref p/\y=.ref q/\kn K H p xs/\kn K H q ys/\xs.all gI=true/\ys.all gI=true/\Q (.bl (u_ xs ys)) H):=by subst hK;exact Oe h0
  refine (Lh.or (hT.or ((Nh hK h0).or ((SB hK hu).or ((NW hK h0).or (OX hK h0)))))).imp fun x y H Q ⟨p,a,b,P,u,ra,rb,w,k⟩=>?_
  have up:=fun {t:Tv} {v:V} (r:Rep K (p 0) t v)=>r
  match a,b,w with
  | .int i,.int j,w=>rw[ao.mp ra,ao.mp rb];exact .inl ⟨rfl,aX u w k (aG.mpr (by rw[EV]))⟩
  | .str i,.str j,w=>rw[aC.mp ra,aC.mp rb];exact .inl ⟨rfl,aX u w k (aG.mpr (by rw[ET]))⟩
  | .bl i,.bl j,w=>rw[aG.mp ra,aG.mp rb];exact .inl ⟨rfl,aX u w k (aG.mpr (by rw[Iu]))⟩
  | .tup l,.tup m,w=>
    obtain⟨c,xs,rfl,s1,q1⟩:=cb ra
    obtain⟨d,ys,rfl,s2,q2⟩:=cb rb
    rcases w with ⟨f,g,w⟩ | ⟨rfl,hh,w⟩ | ⟨rfl,w⟩
    · exact .inr (.inl ⟨c,d,xs,ys,rfl,rfl,(u.sub 0).seqT s1,(u.sub 0).seqT s2,je f q1,je g q2,aX u w k (aG.mpr (by rw[u7 f g q1 q2]))⟩)
    · exact .inr (.inr (.inr (.inl ⟨c,d,xs,ys,rfl,rfl,.inl ⟨(u.sub 0).seqT s1,(u.sub 0).seqT s2⟩,i6 40 l xs ys hh (q1.up (u.sub 0)) (q2.up (u.sub 0)),aX u w k (aG.mpr rfl)⟩)))
    · rw[aP.mp q2] at s2
      exact .inr (.inr (.inr (.inr (.inl ⟨c,d,xs,rfl,rfl,(u.sub 0).seqT s1,(u.sub 0).seqT s2,aX u w k (aG.mpr (by rw[q1.emp]))⟩))))
  | .lst l,.lst m,w=>
    obtain⟨c,xs,rfl,s1,q1⟩:=ba.mp ra
    obtain⟨d,ys,rfl,s2,q2⟩:=ba.mp rb
    have t1:fW K H c xs:=fW.of (u.sub 0 _ _ s1)
    have t2:fW K H d ys:=fW.of (u.sub 0 _ _ s2)
    rcases w with ⟨f,g,w⟩ | ⟨rfl,hh,w⟩ | ⟨rfl,w⟩
    · exact .inr (.inr (.inl ⟨c,d,xs,ys,rfl,rfl,t1,t2,je f q1,je g q2,aX u w k (aG.mpr (by rw[u7 f g q1 q2];rfl))⟩))
    · exact .inr (.inr (.inr (.inl ⟨c,d,xs,ys,rfl,rfl,.inr ⟨t1,t2⟩,i6 40 l xs ys hh (q1.up (u.sub 0)) (q2.up (u.sub 0)),aX u w k (aG.mpr rfl)⟩)))
    · rw[aP.mp q2] at t2
      exact .inr (.inr (.inr (.inr (.inr ⟨c,d,xs,rfl,rfl,t1,t2,aX u w k (aG.mpr (by rw[q1.emp]))⟩))))
theorem Hr(hK:X.K=K)(hu:X.A.units+64<cLine):gJ X (compareOp .NotEq) (rV K Pe):=by
  have h0:X.A.units<cLine:=by omega
  refine (Pk.or ((N2 hK h0).or ((Nv hK h0).or ((Ta hK hu).or ((NR hK h0).or (Nl hK h0)))))).imp fun x y H Q ⟨p,a,b,P,u,ra,rb,w,k⟩=>?_
  match a,b,w with
  | .int i,.int j,w=>rw[ao.mp ra,ao.mp rb];exact .inl ⟨rfl,aX u w k (aG.mpr (by rw[EV]))⟩
  | .str i,.str j,w=>rw[aC.mp ra,aC.mp rb];exact .inl ⟨rfl,aX u w k (aG.mpr (by rw[ET]))⟩
  | .bl i,.bl j,w=>rw[aG.mp ra,aG.mp rb];exact .inl ⟨rfl,aX u w k (aG.mpr (by rw[Iu]))⟩
  | .tup l,.tup m,w=>
    obtain⟨c,xs,rfl,s1,q1⟩:=cb ra
    obtain⟨d,ys,rfl,s2,q2⟩:=cb rb
    rcases w with ⟨f,g,w⟩ | ⟨rfl,hh,w⟩ | ⟨rfl,w⟩
    · exact .inr (.inl ⟨c,d,xs,ys,rfl,rfl,(u.sub 0).seqT s1,(u.sub 0).seqT s2,je f q1,je g q2,aX u w k (aG.mpr (by rw[u7 f g q1 q2]))⟩)
    · exact .inr (.inr (.inr (.inl ⟨c,d,xs,ys,rfl,rfl,.inl ⟨(u.sub 0).seqT s1,(u.sub 0).seqT s2⟩,i6 40 l xs ys hh (q1.up (u.sub 0)) (q2.up (u.sub 0)),aX u w k (aG.mpr rfl)⟩)))
    · rw[aP.mp q2] at s2
      exact .inr (.inr (.inr (.inr (.inl ⟨c,d,xs,rfl,rfl,(u.sub 0).seqT s1,(u.sub 0).seqT s2,aX u w k (aG.mpr (by rw[q1.emp]))⟩))))
  | .lst l,.lst m,w=>
    obtain⟨c,xs,rfl,s1,q1⟩:=ba.mp ra
    obtain⟨d,ys,rfl,s2,q2⟩:=ba.mp rb
    have t1:fW K H c xs:=fW.of (u.sub 0 _ _ s1)
    have t2:fW K H d ys:=fW.of (u.sub 0 _ _ s2)
    rcases w with ⟨f,g,w⟩ | ⟨rfl,hh,w⟩ | ⟨rfl,w⟩
    · exact .inr (.inr (.inl ⟨c,d,xs,ys,rfl,rfl,t1,t2,je f q1,je g q2,aX u w k (aG.mpr (by rw[u7 f g q1 q2];rfl))⟩))
    · exact .inr (.inr (.inr (.inl ⟨c,d,xs,ys,rfl,rfl,.inr ⟨t1,t2⟩,i6 40 l xs ys hh (q1.up (u.sub 0)) (q2.up (u.sub 0)),aX u w k (aG.mpr rfl)⟩)))
    · rw[aP.mp q2] at t2
      exact .inr (.inr (.inr (.inr (.inr ⟨c,d,xs,rfl,rfl,t1,t2,aX u w k (aG.mpr (by rw[q1.emp]))⟩))))
def mF{α:Type}(o:Option α)(k:α->Prop):Prop:=match o with | some t=>k t | none=>False
theorem ug{α:Type}{o:Option α}{k:α->Prop}(h:mF o k):∃ t,o=some t/\k t:=by
  cases o with
  | none=>exact h.elim
  | some t=>exact⟨t,rfl,h⟩
theorem i_{α:Type}{o:Option α}{k:α->Prop}{t:α}(e:o=some t)(h:k t):mF o k:=by subst e;exact h
def lj:Tv->Tv->(Tv->Prop)->Prop
  | .tup l,.int i,k=>mF (vg l i) k
  | .lst l,.int i,k=>mF (vg l i) k
  | .scr l,.int i,k=>mF (vg l i) k
  | .str z,.int i,k=>z.length<=sizeLine/\mF (vg z.cps.toList i) fun c=>k (.str ⟨#[c]⟩)
  | _,_,_=>False
theorem d_(hK:X.K=K):Jl X (rV K lj):=by
  subst hK
  refine QB.imp fun x y H Q ⟨p,a,b,P,u,ra,rb,w,k⟩=>?_
  match a,b,w with
  | .tup l,.int i,w=>
    obtain⟨c,xs,rfl,s1,q1⟩:=cb ra
    obtain⟨t,e,w⟩:=ug w
    obtain⟨v,hv,r⟩:=q1.at e
    exact .inr (.inl ⟨c,xs,i,v,rfl,ao.mp rb,(u.sub 0).seqT s1,hv,aX u w k r⟩)
  | .lst l,.int i,w=>
    obtain⟨c,xs,rfl,s1,q1⟩:=ba.mp ra
    obtain⟨t,e,w⟩:=ug w
    obtain⟨v,hv,r⟩:=q1.at e
    exact .inl ⟨c,xs,i,v,rfl,ao.mp rb,fW.of (u.sub 0 _ _ s1),hv,aX u w k r⟩
  | .scr l,.int i,w=>
    obtain⟨c,xs,rfl,s1,q1⟩:=qA.mp ra
    obtain⟨t,e,w⟩:=ug w
    obtain⟨v,hv,r⟩:=q1.at e
    exact .inl ⟨c,xs,i,v,rfl,ao.mp rb,(u.sub 0).seq s1,hv,aX u w k r⟩
  | .str z,.int i,w=>
    obtain⟨hz,w⟩:=w
    obtain⟨c,e,w⟩:=ug w
    exact .inr (.inr ⟨z,i,c,aC.mp ra,ao.mp rb,hz,e,aX u w k (aC.mpr rfl)⟩)
end
end L2
namespace L2
open PySem PySem.Spec PyProof.Rows
section
variable {X:Cx} {K:PySem.W.Frag}
theorem iR{G:Hp}{t:Tv}{xs:List V}(r:aw K G [t] xs):∃ v,xs=[v]/\Rep K G t v:=by
  obtain⟨v,q,rfl,a,b⟩:=ax.mp r
  rw[aP.mp b]
  exact⟨v,rfl,a⟩
theorem Cj{G:Hp}{s t:Tv}{xs:List V}(r:aw K G [s,t] xs):∃ u v,xs=[u,v]/\Rep K G s u/\Rep K G t v:=by
  obtain⟨v,q,rfl,a,b⟩:=ax.mp r
  obtain⟨w,rfl,c⟩:=iR b
  exact⟨v,w,rfl,a,c⟩
def yR:List Tv->(Tv->Prop)->Prop
  | [.tup l],k=>k (.int l.length)
  | [.lst l],k=>k (.int l.length)
  | [.scr l],k=>k (.int l.length)
  | [.str z],k=>z.length<=sizeLine/\k (.int z.length)
  | _,_=>False
theorem r9(hK:X.K=K):dW X (.builtin "len") (Kw K yR):=by
  refine ((BJ hK).or Cp).imp fun xs H Q ⟨p,l,P,u,r,w,k⟩=>?_
  match l,w with
  | [.tup l],w=>
    obtain⟨v,rfl,rr⟩:=iR r
    obtain⟨c,ys,rfl,s1,q1⟩:=cb rr
    exact .inl ⟨c,ys,rfl,.inr ((u.sub 0).seqT s1),aX u w k (ao.mpr (by rw[q1.len]))⟩
  | [.lst l],w=>
    obtain⟨v,rfl,rr⟩:=iR r
    obtain⟨c,ys,rfl,s1,q1⟩:=ba.mp rr
    exact .inl ⟨c,ys,rfl,.inl (fW.of (u.sub 0 _ _ s1)),aX u w k (ao.mpr (by rw[q1.len]))⟩
  | [.scr l],w=>
    obtain⟨v,rfl,rr⟩:=iR r
    obtain⟨c,ys,rfl,s1,q1⟩:=qA.mp rr
    exact .inl ⟨c,ys,rfl,.inl ((u.sub 0).seq s1),aX u w k (ao.mpr (by rw[q1.len]))⟩
  | [.str z],w=>
    obtain⟨v,rfl,rr⟩:=iR r
    rw[aC.mp rr]
    exact .inr ⟨z,rfl,w.1,aX u w.2 k (ao.mpr rfl)⟩
def ZY(i:Int):Int:=if i<0 then -i else i
def Ub:List Tv->(Tv->Prop)->Prop
  | [.int i],k=>k (.int (ZY i))
  | _,_=>False
theorem UR:dW X (.builtin "abs") (Kw K Ub):=yO.imp fun xs H Q ⟨p,l,P,u,r,w,k⟩=>by
  match l,w with
  | [.int i],w=>
    obtain⟨v,rfl,rr⟩:=iR r
    rw[ao.mp rr]
    exact⟨i,rfl,aX u w k (ao.mpr rfl)⟩
def Ku(b:Bool):Int:=if b then 1 else 0
def Ge:List Tv->(Tv->Prop)->Prop
  | [.int i],k=>k (.int i)
  | [.bl b],k=>k (.int (Ku b))
  | _,_=>False
theorem Bt:dW X (.type "int") (Kw K Ge):=Jz.imp fun xs H Q ⟨p,l,P,u,r,w,k⟩=>by
  match l,w with
  | [.int i],w=>
    obtain⟨v,rfl,rr⟩:=iR r
    rw[ao.mp rr]
    exact .inl ⟨i,rfl,aX u w k (ao.mpr rfl)⟩
  | [.bl b],w=>
    obtain⟨v,rfl,rr⟩:=iR r
    rw[aG.mp rr]
    exact .inr ⟨b,rfl,aX u w k (ao.mpr rfl)⟩
def LJ:List Tv->(Tv->Prop)->Prop
  | [.int i],k=>i.natAbs.log2<1920/\k (.str (toString i))
  | _,_=>False
theorem IB:dW X (.type "str") (Kw K LJ):=DG.imp fun xs H Q ⟨p,l,P,u,r,w,k⟩=>by
  match l,w with
  | [.int i],w=>
    obtain⟨v,rfl,rr⟩:=iR r
    rw[ao.mp rr]
    exact⟨i,rfl,w.1,aX u w.2 k (aC.mpr rfl)⟩
def Hd:List Tv->(Tv->Prop)->Prop
  | [.tup l],k=>k (.tup l)
  | [.lst l],k=>k (.tup l)
  | _,_=>False
theorem BV(hK:X.K=K):dW X (.type "tuple") (Kw K Hd):=by
  subst hK
  refine As.imp fun xs H Q ⟨p,l,P,u,r,w,k⟩=>?_
  match l,w with
  | [.tup l],w=>
    obtain⟨v,rfl,rr⟩:=iR r
    obtain⟨c,ys,rfl,s1,q1⟩:=cb rr
    exact⟨c,ys,rfl,.inr ⟨(u.sub 0).seqT s1,aX u w k rr⟩⟩
  | [.lst l],w=>
    obtain⟨v,rfl,rr⟩:=iR r
    obtain⟨c,ys,rfl,s1,q1⟩:=ba.mp rr
    exact⟨c,ys,rfl,.inl ⟨fW.of (u.sub 0 _ _ s1),fun a n=>wz u w k n fun s0=>la.mpr ⟨a,_,rfl,GR.of aH,q1.up s0⟩⟩⟩
def Ja:List Tv->(Tv->Prop)->Prop
  | [.tup l],k=>k (.lst l)
  | [.lst l],k=>k (.lst l)
  | _,_=>False
theorem HK(hK:X.K=K):dW X (.type "list") (Kw K Ja):=by
  refine (Gk hK).imp fun xs H Q ⟨p,l,P,u,r,w,k⟩=>?_
  match l,w with
  | [.tup l],w=>
    obtain⟨v,rfl,rr⟩:=iR r
    obtain⟨c,ys,rfl,s1,q1⟩:=cb rr
    exact⟨c,ys,rfl,.inr ((u.sub 0).seqT s1),fun a n=>wz u w k n fun s0=>ba.mpr ⟨a,_,rfl,aH,q1.up s0⟩⟩
  | [.lst l],w=>
    obtain⟨v,rfl,rr⟩:=iR r
    obtain⟨c,ys,rfl,s1,q1⟩:=ba.mp rr
    exact⟨c,ys,rfl,.inl (fW.of (u.sub 0 _ _ s1)),fun a n=>wz u w k n fun s0=>ba.mpr ⟨a,_,rfl,aH,q1.up s0⟩⟩
def MA:Tv->Option String
  | .non=>some "NoneType"
  | .bl _=>some "bool"
  | .int _=>some "int"
  | .str _=>some "str"
  | .tup _=>some "tuple"
  | .lst _=>some "list"
  | _=>none
def Z2(k T:String):Bool:=k==T || (k=="bool"&&T=="int") || T=="object"
def Th:List Tv->(Tv->Prop)->Prop
  | [x,.ty T],k=>mF (MA x) fun n=>bif ["int","bool","str","tuple","list"].contains T then k (.bl (Z2 n T)) else False
  | _,_=>False
end
end L2
namespace L2
open PySem PySem.Spec PyProof.Rows
section
variable {X:Cx} {K:PySem.W.Frag} {E:St->XK}
theorem Dj{es:List Expr}{k n:Nat}{t:Oo}{pos:Pos}(hK:X.K=K)(hc:X.calm=true)(h:sg X es t)(hn:(assignEach es X.env).length=n:=by rfl)(wX:(assignEach es X.env).findIdx? (·.1)=none:=by rfl):PG X (.Tuple es k pos) (Qb K n t):=hK ▸ Tf hc h hn wX
def MQ(i:Nat):Mv Tv:=fun ρ P=>match ρ[i]? with | some (.ow _ l)=>P (.ok (.int l.length)) ρ | _=>False
theorem Sq{i:Nat}{x:Str}{xp fp pos:Pos}(hK:X.K=K)(hg:Gl X "len")(hm:X.mg "len"=none)(hN:X.N[i]?=some x)(hv:Hw X.env.scope x)(hd:(x==("__debug__":Str))=false:=by decide)(qF:(x==("__classdict__":Str))=false:=by decide):PE X (.Call (.Name "len" fp) [.Name x xp] [] pos) (tV K E (MQ i)):=by
  refine (fm (BJ hK) hg hm lU (aV (aW hN hv hd qF) cD rfl)).imp fun σ H Q ⟨p,ρ,er,P,a,b,c⟩=>?_
  unfold MQ at a
  split at a
  · rename_i Da l e
    obtain⟨xs,e1,e2,e3,r⟩:=er.own e
    exact⟨.ref Da,e1,Da,xs,rfl,.inl (fW.of e2),b _ ρ a _ p H .refl er (ao.mpr (by rw[r.len]))⟩
  · exact a.elim
def LS(l:List Tv)(lo hi:Option Int):List Tv:=(l.drop (HT.jw l.length 0 lo)).take (HT.jw l.length l.length hi-HT.jw l.length 0 lo)
theorem aw.cut{G:Hp}{l:List Tv}{xs:List V}(h:aw K G l xs)(lo hi:Option Int):aw K G (LS l lo hi) (E1 xs lo hi):=by
  unfold LS E1
  rw[h.len]
  exact (h.drop _).take _
def WV(t:Tv)(lo hi:Option Int)(k:Tv->Prop):Prop:=match t with
  | .tup l=>¬ (HT.jw l.length 0 lo=0/\HT.jw l.length l.length hi=l.length)/\k (.tup (LS l lo hi))
  | .lst l=>k (.lst (LS l lo hi))
  | .str z=>z.length<=sizeLine/\k (.str (Txt.slice z lo hi))
  | _=>False
def rVl(K:PySem.W.Frag):V->Option Int->Option Int->Hp->VK->Prop:=fun x lo hi H Q=>∃ p a P,d8 H p/\Rep K (p 0) a x/\WV a lo hi P/\∀ t,P t->∀ v G' H',bP (p 0) G'->d8 H' (a9 p 0 G')->Rep K G' t v->Q v H'
theorem Kx.imp{r r':V->Option Int->Option Int->Hp->VK->Prop}(h:Kx X r)(k:∀ x lo hi H Q,r' x lo hi H Q->r x lo hi H Q):Kx X r':=fun pins s σ H x v vl vu lo hi sl Q I rx hs pl pu q=>h pins s σ H x v vl vu lo hi sl Q I rx hs pl pu (k _ _ _ _ _ q)
theorem WE(hK:X.K=K):Kx X (rVl K):=by
  subst hK
  refine (TL.or (Oa.or Td)).imp fun x lo hi H Q ⟨p,a,P,u,r,w,k⟩=>?_
  cases a with
  | tup l=>
    obtain⟨c,ys,rfl,s1,q1⟩:=cb r
    exact .inl ⟨c,ys,rfl,(u.sub 0).seqT s1,by rw[q1.len];exact w.1,fun a n=>wz u w.2 k n fun s0=>la.mpr ⟨a,_,rfl,GR.of aH,(q1.cut lo hi).up s0⟩⟩
  | lst l=>
    obtain⟨c,ys,rfl,s1,q1⟩:=ba.mp r
    exact .inr (.inl ⟨c,ys,rfl,fW.of (u.sub 0 _ _ s1),fun a n=>wz u w k n fun s0=>ba.mpr ⟨a,_,rfl,aH,(q1.cut lo hi).up s0⟩⟩)
  | str z=>rw[aC.mp r];exact .inr (.inr ⟨z,rfl,w.1,aX u w.2 k (aC.mpr rfl)⟩)
  | _=>exact w.elim
def vInt{α:Type}(x:Tv)(k:Int->Mv α):Mv α:=match x with | .int i=>k i | _=>fun _ _=>False
def Pb(a lo:Mv Tv):Mv Tv:=bo a fun x=>bo lo fun l=>vInt l fun i ρ P=>WV x (some i) none fun t=>P (.ok t) ρ
def Le(a hi:Mv Tv):Mv Tv:=bo a fun x=>bo hi fun h=>vInt h fun j ρ P=>WV x none (some j) fun t=>P (.ok t) ρ
theorem RR{e lo:Expr}{m n:Mv Tv}{p2 pos:Pos}(hK:X.K=K)(he:PE X e (tV K E m))(hl:PE X lo (tV K E n)):PE X (.Subscript e (.Slice (some lo) none none p2) pos) (tV K E (Pb m n)):=
  (EI (WE hK) he (Iv hl) IR).imp fun σ H Q ⟨p,ρ,er,h⟩=>⟨p,ρ,er,h.bind.mono fun v H1 ⟨x,p1,ρ1,g1,bK,r1,h1⟩=>⟨p1,ρ1,bK,h1.bind.mono fun u H2 ⟨y,p2,ρ2,g2,er2,r2,h2⟩=>by
    cases y with
    | int i=>
      obtain⟨P,a,b⟩:=zI (W:=WV x (some i) none) er2 h2
      exact⟨i,ao.mp r2,p2,x,P,er2.gK,r1.up g2.same,a,b⟩
    | _=>obtain⟨_,z,_⟩:=h2;exact z.elim⟩⟩
theorem MM{e hi:Expr}{m n:Mv Tv}{p2 pos:Pos}(hK:X.K=K)(he:PE X e (tV K E m))(hl:PE X hi (tV K E n)):PE X (.Subscript e (.Slice none (some hi) none p2) pos) (tV K E (Le m n)):=
  (EI (WE hK) he IR (Iv hl)).imp fun σ H Q ⟨p,ρ,er,h⟩=>⟨p,ρ,er,h.bind.mono fun v H1 ⟨x,p1,ρ1,g1,bK,r1,h1⟩=>⟨p1,ρ1,bK,h1.bind.mono fun u H2 ⟨y,p2,ρ2,g2,er2,r2,h2⟩=>by
    cases y with
    | int i=>
      obtain⟨P,a,b⟩:=zI (W:=WV x none (some i)) er2 h2
      exact⟨i,ao.mp r2,p2,x,P,er2.gK,r1.up g2.same,a,b⟩
    | _=>obtain⟨_,z,_⟩:=h2;exact z.elim⟩⟩
end
section
variable {X:Cx} {K:PySem.W.Frag}
theorem NZ:∀ k∈["NoneType","bool","int","str","tuple","list"],∀ T∈["int","bool","str","tuple","list"],PySem.W.kitOne K (.type k) (.type T)=some (Z2 k T):=by
  intro k hk T hT
  simp only [List.mem_cons,List.not_mem_nil,or_false] at hk hT
  rcases hk with rfl | rfl | rfl | rfl | rfl | rfl <;> rcases hT with rfl | rfl | rfl | rfl | rfl <;> rfl
theorem K2{x:Tv}{n:String}(h:MA x=some n):n∈["NoneType","bool","int","str","tuple","list"]:=by
  cases x <;> first | (cases h;decide) | cases h
theorem SJ{pins:List (Addr×Obj)}{σ:St}{H:Hp}{s:Shared}{p:iL}{x:Tv}{n:String}{v:V}{u:Value}{c:Value}{b:Bool}{A:Around}{Q:Value->Shared->Prop}{E:Value->Shared->Prop}(I:Inv X pins σ H s)(un:d8 H p)(r:Rep X.K (p 0) x v)(rx:RelV v u)(hn:MA x=some n)(e:PySem.W.kitOne X.K (.type n) c=some b)(h:∀ tk,Q (.bool b) { s with toks:=tk }):
    wpAny (model X.prog X.w) A (call (.builtin "isinstance") [u,c]) Q E s:=by
  cases x with
  | non=>cases hn;rw[d7.mp r] at rx;exact jH I rx .non e h
  | bl b=>cases hn;rw[aG.mp r] at rx;exact jH I rx (.bl b) e h
  | int b=>cases hn;rw[ao.mp r] at rx;exact jH I rx (.int b) e h
  | str b=>cases hn;rw[aC.mp r] at rx;exact jH I rx (.str b) e h
  | tup l=>
    cases hn
    obtain⟨a,xs,rfl,s1,q1⟩:=cb r
    cases (show u=Value.ref a from rx)
    obtain⟨aS,rv,⟨o,h1,h2,_⟩,hz⟩:=I.tuple ((un.sub 0).seqT s1)
    exact PySem.W.kia_one PySem.W.kitx_tuple I.kIn ⟨o,h1,h2⟩ e (fun z=>nomatch z) h
  | lst l=>
    cases hn
    obtain⟨a,xs,rfl,s1,q1⟩:=ba.mp r
    exact jH I rx (.lst (un.sub 0 _ _ s1)) e h
  | _=>cases hn
theorem Pl(hK:X.K=K):dW X (.builtin "isinstance") (Kw K Th):=by
  subst hK
  intro pins s σ H xs us Q I rv ⟨p,l,P,u,r,w,k⟩
  match l,w with
  | [x,.ty T],w=>
    obtain⟨n,hn,w⟩:=ug w
    obtain⟨a,b,rfl,r1,r2⟩:=Cj r
    obtain⟨ua,ub,rfl,q1,q2⟩:=bf.two rv
    rw[Hx.mp r2] at q2
    cases (show ub=Value.type T from q2)
    cases hT:(["int","bool","str","tuple","list"].contains T) with
    | false=>rw[hT] at w;exact w.elim
    | true=>
      rw[hT] at w
      exact SJ I u r1 q1 hn (NZ n (K2 hn) T (List.contains_iff_mem.mp hT)) fun tk=>⟨.bl _,H,I.tok tk,rfl,aX u (show P (.bl (Z2 n T)) from w) k (aG.mpr rfl)⟩
end
section
variable {X:Cx} {K:PySem.W.Frag} {E:St->XK} {es:List Expr} {m:Mv Tv} {ms:List (Mv Tv)}
theorem JM{a:BoolOp}{b:List Expr}{c:Pos}(ha:PE X (.BoolOp a b c) (tV K E m))(hr:PA X es (lh K E ms)):PA X ((.BoolOp a b c)::es) (lh K E (m::ms)):=ia ha hr rfl
theorem bQ{a b:Expr}{o:Operator}{c:Pos}(ha:PE X (.BinOp a o b c) (tV K E m))(hr:PA X es (lh K E ms)):PA X ((.BinOp a o b c)::es) (lh K E (m::ms)):=ia ha hr rfl
theorem yF{a b d:Expr}{c:Pos}(ha:PE X (.IfExp a b d c) (tV K E m))(hr:PA X es (lh K E ms)):PA X ((.IfExp a b d c)::es) (lh K E (m::ms)):=ia ha hr rfl
theorem pT{a:Expr}{b:List Comprehension}{d:Scope}{c:Pos}(ha:PE X (.ListComp a b d c) (tV K E m))(hr:PA X es (lh K E ms)):PA X ((.ListComp a b d c)::es) (lh K E (m::ms)):=ia ha hr rfl
theorem lY{a:Expr}{o:List CmpOp}{b:List Expr}{c:Pos}(ha:PE X (.Compare a o b c) (tV K E m))(hr:PA X es (lh K E ms)):PA X ((.Compare a o b c)::es) (lh K E (m::ms)):=ia ha hr rfl
theorem aM{a:Expr}{b:List Expr}{d:List Keyword}{c:Pos}(ha:PE X (.Call a b d c) (tV K E m))(hr:PA X es (lh K E ms)):PA X ((.Call a b d c)::es) (lh K E (m::ms)):=ia ha hr rfl
theorem CN{b:List Expr}{c:Pos}(ha:PE X (.JoinedStr b c) (tV K E m))(hr:PA X es (lh K E ms)):PA X ((.JoinedStr b c)::es) (lh K E (m::ms)):=ia ha hr rfl
theorem aa{a:Const}{b:Nat}{c:Pos}(ha:PE X (.Constant a b c) (tV K E m))(hr:PA X es (lh K E ms)):PA X ((.Constant a b c)::es) (lh K E (m::ms)):=ia ha hr rfl
theorem cj{a:Expr}{b:Str}{c:Pos}(ha:PE X (.Attribute a b c) (tV K E m))(hr:PA X es (lh K E ms)):PA X ((.Attribute a b c)::es) (lh K E (m::ms)):=ia ha hr rfl
theorem aN{a b:Expr}{c:Pos}(ha:PE X (.Subscript a b c) (tV K E m))(hr:PA X es (lh K E ms)):PA X ((.Subscript a b c)::es) (lh K E (m::ms)):=ia ha hr rfl
theorem ai{a:Str}{c:Pos}(ha:PE X (.Name a c) (tV K E m))(hr:PA X es (lh K E ms)):PA X ((.Name a c)::es) (lh K E (m::ms)):=ia ha hr rfl
theorem eT{b:List Expr}{c:Pos}(ha:PE X (.List b c) (tV K E m))(hr:PA X es (lh K E ms)):PA X ((.List b c)::es) (lh K E (m::ms)):=ia ha hr rfl
theorem gX{b:List Expr}{a:Nat}{c:Pos}(ha:PE X (.Tuple b a c) (tV K E m))(hr:PA X es (lh K E ms)):PA X ((.Tuple b a c)::es) (lh K E (m::ms)):=ia ha hr rfl
end
end L2
namespace L2
open PySem PySem.Spec PyProof.Rows
inductive JZ(Ry:Tv->Tv->Prop)(Rn:Tv->Prop):List Tv->List Tv->Prop where
  | nil:JZ Ry Rn [] []
  | yes {x y:Tv} {xs ys:List Tv}:Ry x y->JZ Ry Rn xs ys->JZ Ry Rn (x::xs) (y::ys)
  | no {x:Tv} {xs ys:List Tv}:Rn x->JZ Ry Rn xs ys->JZ Ry Rn (x::xs) ys
def D3(g:Gv)(c:Mv Bool)(e:Mv Tv)(ρ0:En)(x:Tv)(Ky:Tv->Prop)(Kn:Prop):Prop:=∃ ρ,g x ρ0=some ρ/\c ρ fun b ρ1=>ρ1=ρ/\match b with
    | .ok true=>e ρ fun r ρ2=>ρ2=ρ/\match r with | .ok y=>Ky y | .er _=>False
    | .ok false=>Kn
    | .er _=>False
theorem zP{g:Gv}{c:Mv Bool}{e:Mv Tv}{ρ0:En}(Ry:Tv->Tv->Prop)(Rn:Tv->Prop):∀ {xs acc:List Tv} {P:List Tv->Prop},
    (∀ x∈xs,∀ (Ky:Tv->Prop) (Kn:Prop),(∀ y,Ry x y->Ky y)->(Rn x->Kn)->D3 g c e ρ0 x Ky Kn)->(∀ ys,JZ Ry Rn xs ys->P (acc++ys))->mx g c e ρ0 xs acc P
  | [],acc,P,_,h=>by have:=h [] .nil;rw[List.append_nil] at this;exact this
  | x::xs,acc,P,hs,h=>by
    refine hs x List.mem_cons_self (fun y=>mx g c e ρ0 xs (acc++[y]) P) (mx g c e ρ0 xs acc P) (fun y r=>?_) (fun r=>?_)
    · refine zP Ry Rn (fun z hz=>hs z (List.mem_cons_of_mem _ hz)) fun ys q=>?_
      rw[List.append_assoc]
      exact h (y::ys) (.yes r q)
    · exact zP Ry Rn (fun z hz=>hs z (List.mem_cons_of_mem _ hz)) fun ys q=>h ys (.no r q)
theorem BG{g:Gv}{c:Mv Bool}{e:Mv Tv}{ρ0:En}{α:Type}(en:α->Tv)(G:Tv->α->Prop){xs:List Tv}{P:List Tv->Prop}
    (hs:∀ x∈xs,∀ (Ky:Tv->Prop) (Kn:Prop),(∀ a,G x a->Ky (en a))->D3 g c e ρ0 x Ky Kn) (h:∀ as:List α,Paired G xs as->P (as.map en)):mx g c e ρ0 xs [] P:=
  zP (fun x y=>∃ a,G x a/\y=en a) (fun _=>False) (fun x hx Ky Kn k _=>hs x hx Ky Kn fun a q=>k _ ⟨a,q,rfl⟩) fun ys q=>by
    have e:∃ as:List α,Paired G xs as/\ys=as.map en:=by
      clear h hs
      induction q with
      | nil=>exact⟨[],.nil,rfl⟩
      | yes r _ ih=>
        obtain⟨a,ga,rfl⟩:=r
        obtain⟨as,p,rfl⟩:=ih
        exact⟨a::as,.cons ga p,rfl⟩
      | no r _ _=>exact r.elim
    obtain⟨as,p,rfl⟩:=e
    exact h as p
def Pg(g:Gv)(b:Sv)(x:Tv)(ρ:En)(K:En->Prop)(P:Fl->En->Prop):Prop:=∃ ρ',g x ρ=some ρ'/\b ρ' (F9 K P)
theorem IU{g:Gv}{b:Sv}{P:Fl->En->Prop}(I:Nat->En->Prop):∀ {xs:List Tv} {ρ:En} (n:Nat),I n ρ ->
    (∀ i x ρ,xs[i]?=some x->I (n+i) ρ->∀ K:En->Prop,(∀ ρ',I (n+i+1) ρ'->K ρ')->Pg g b x ρ K P)->(∀ ρ,I (n+xs.length) ρ->P .nx ρ)->FP g b xs ρ P
  | [],ρ,n,h,_,fin=>fin ρ h
  | x::xs,ρ,n,h,hs,fin=>by
    refine hs 0 x ρ rfl h (fun ρ'=>FP g b xs ρ' P) fun ρ' h'=>?_
    refine IU I (n+1) h' (fun i y ρ e hi K k=>?_) fun ρ hf=>fin ρ ?_
    · have q:=hs (i+1) y ρ (by simpa using e) (by rw[show n+(i+1)=n+1+i by omega];exact hi) K (by rw[show n+(i+1)+1=n+1+i+1 by omega];exact k)
      exact q
    · rw[List.length_cons,show n+(xs.length+1)=n+1+xs.length by omega];exact hf
theorem qK{g:Gv}{b:Sv}{P:Fl->En->Prop}(I:Nat->En->Prop){xs:List Tv}{ρ:En}(h:I 0 ρ)
    (hs:∀ i x ρ,xs[i]?=some x->I i ρ->∀ K:En->Prop,(∀ ρ',I (i+1) ρ'->K ρ')->Pg g b x ρ K P) (fin:∀ ρ,I xs.length ρ->P .nx ρ):FP g b xs ρ P:=
  IU I 0 h (fun i x ρ e hi K k=>hs i x ρ e (by rw[Nat.zero_add] at hi;exact hi) K (by rw[Nat.zero_add] at k;exact k)) fun ρ hf=>fin ρ (by rw[Nat.zero_add] at hf;exact hf)
theorem oJ{α:Type}{g:Gv}{c:Mv Bool}{e:Mv Tv}{ρ0:En}(p:α->Bool)(en f:α->Tv):∀ {as:List α} {acc:List Tv} {P:List Tv->Prop},
    (∀ a∈as,∀ (Ky:Tv->Prop) (Kn:Prop),(p a=true->Ky (f a))->(p a=false->Kn)->D3 g c e ρ0 (en a) Ky Kn)->P (acc++(as.filter p).map f)->mx g c e ρ0 (as.map en) acc P
  | [],acc,P,_,h=>by rw[List.filter_nil,List.map_nil,List.append_nil] at h;exact h
  | a::as,acc,P,hs,h=>by
    refine hs a List.mem_cons_self (fun y=>mx g c e ρ0 (as.map en) (acc++[y]) P) (mx g c e ρ0 (as.map en) acc P) (fun q=>?_) (fun q=>?_)
    · refine oJ p en f (fun z hz=>hs z (List.mem_cons_of_mem _ hz)) ?_
      rw[List.filter_cons,if_pos q] at h
      rw[List.append_assoc];exact h
    · refine oJ p en f (fun z hz=>hs z (List.mem_cons_of_mem _ hz)) ?_
      rw[List.filter_cons,if_neg (by rw[q];decide)] at h
      exact h
theorem JK{α:Type}{g:Gv}{c:Mv Bool}{e:Mv Tv}{ρ0:En}{as:List α}{P:List Tv->Prop}(en f:α->Tv)(hs:∀ a∈as,∀ (Ky:Tv->Prop) (Kn:Prop),Ky (f a)->D3 g c e ρ0 (en a) Ky Kn)(h:P (as.map f)):mx g c e ρ0 (as.map en) [] P:=
  oJ (fun _=>true) en f (fun a ha Ky Kn k _=>hs a ha Ky Kn (k rfl)) (by rw[List.filter_eq_self.mpr (fun _ _=>rfl)];exact h)
theorem Gz{α:Type}{g:Gv}{c:Mv Bool}{e:Mv Tv}{ρ0:En}{as:List α}{P:List Tv->Prop}(p:α->Bool)(en f:α->Tv)(hs:∀ a∈as,∀ (Ky:Tv->Prop) (Kn:Prop),(p a=true->Ky (f a))->(p a=false->Kn)->D3 g c e ρ0 (en a) Ky Kn)(h:P ((as.filter p).map f)):mx g c e ρ0 (as.map en) [] P:=
  oJ p en f hs h
theorem bF{x:Bool}{α β:Type}{a b:α->β->Prop}{ρ:α}{P:β}(h1:x=true->a ρ P)(h0:x=false->b ρ P):(if x=true then a else b) ρ P:=by
  cases x with
  | true=>exact h1 rfl
  | false=>exact h0 rfl
theorem xU{x:Bool}{α:Type}{a b:α->Prop}{ρ:α}(h1:x=true->a ρ)(h0:x=false->b ρ):(if x=true then a else b) ρ:=by
  cases x with
  | true=>exact h1 rfl
  | false=>exact h0 rfl
theorem LP{α:Type}{l:List α}{i:Int}(h0:0<=i)(h1:i<l.length):∃ t,vg l i=some t/\l[i.toNat]?=some t:=by
  obtain⟨n,rfl⟩:=Int.eq_ofNat_of_zero_le h0
  have hn:n<l.length:=by omega
  exact⟨l[n],Ia (List.getElem?_eq_getElem hn),by simpa using List.getElem?_eq_getElem hn⟩
theorem oO{l:List Tv}{i:Int}{k:Tv->Prop}(h0:0<=i)(h1:i<l.length)(h:∀ t∈l,k t):mF (vg l i) k:=by
  obtain⟨t,e,m⟩:=LP h0 h1
  exact i_ e (h t (List.mem_of_getElem? m))
theorem QK{l:List Tv}{i:Nat}{k:Tv->Prop}{t:Tv}(e:l[i]?=some t)(h:k t):mF (vg l (i:Int)) k:=i_ (Ia e) h
theorem IG{n:Nat}{t:Tv}(h:t∈zg 0 n):∃ k:Nat,k<n/\t=.int k:=by
  unfold zg at h
  obtain⟨k,hk,rfl⟩:=List.mem_map.mp h
  exact⟨k,by simpa using hk,by simp⟩
theorem Ce{n i:Nat}{t:Tv}(h:(zg 0 n)[i]?=some t):i<n/\t=.int i:=by
  unfold zg at h
  rw[List.getElem?_map] at h
  obtain⟨k,hk,rfl⟩:=Option.map_eq_some_iff.mp h
  obtain⟨hi,rfl⟩:=List.getElem?_eq_some_iff.mp hk
  rw[List.length_range] at hi
  exact⟨hi,by simp⟩
theorem nT{lo:Int}{n:Nat}:(zg lo n).length=n:=by unfold zg;simp
theorem d3{n:Nat}(h:n<=100000):n<sizeLine:=Nat.lt_of_le_of_lt h (by decide)
end L2
namespace L2
open PySem PySem.Spec PyProof.Rows
abbrev Dt:=List (Key×Tv)
def uC(d:Dt)(k:Key):Option Tv:=(d.find? fun kv=>decide (kv.1=k)).map (·.2)
def KC:Tv->Option Key
  | .int i=>some (.inl i)
  | .str x=>some (.inr x)
  | _=>none
section
variable {X:Cx} {K:PySem.W.Frag} {E:St->XK} {G:Hp} {d:Dt} {ds:List (Key×V)} {k:Key} {t:Tv} {v:V}
theorem I_(h:KC t=some k)(r:Rep K G t v):v=kV k:=by
  cases t with
  | int i=>cases h;exact ao.mp r
  | str i=>cases h;exact aC.mp r
  | _=>cases h
theorem lA.val(h:lA K G d ds)(k:Key):(∃ t v,uC d k=some t/\wa ds k=some v/\Rep K G t v)\/(uC d k=none/\wa ds k=none):=by
  unfold lA at h
  unfold uC wa
  induction h with
  | nil=>exact .inr ⟨rfl,rfl⟩
  | @cons a b l1 l2 f _ ih=>
    rw[List.find?_cons,List.find?_cons,← f.1]
    cases e:decide (a.1=k) with
    | true=>exact .inl ⟨_,_,rfl,rfl,f.2⟩
    | false=>exact ih
def UG:Tv->Tv->(Tv->Prop)->Prop
  | .dic ks l,x,k=>match KC x with | some c=>mF (uC (ks.zip l) c) k | none=>False
  | _,_,_=>False
theorem WS{a b:Expr}{ma mb:Mv Tv}{pos:Pos}(hu:X.A.units+1<cLine)(ha:PE X a (tV K E ma))(hb:PE X b (tV K E mb))(hs:Tz b):PE X (.Subscript a b pos) (tV K E (ck UG ma mb)):=
  (Nx hu ha hb hs).imp fun σ H Q ⟨p,ρ,er,h⟩=>⟨p,ρ,er,h.bind.mono fun v H1 ⟨x,p1,ρ1,g1,bK,r1,h1⟩=>⟨p1,ρ1,bK,h1.bind.mono fun u H2 ⟨y,p2,ρ2,g2,er2,r2,P,a,b,_⟩=>by
    cases x with
    | dic ks l=>
      obtain⟨Da,xs,rfl,e,n,r⟩:=oi.mp (r1.up g2.same)
      have a:match KC y with | some c=>mF (uC (ks.zip l) c) fun t=>P (.ok t) ρ2 | none=>False:=a
      cases hk:KC y with
      | none=>rw[hk] at a;exact a.elim
      | some c=>
        rw[hk] at a
        have kv:=I_ hk r2
        subst kv
        rcases (lA.of n r).val c with ⟨t,w,q1,q2,q3⟩ | ⟨q1,q2⟩
        · dsimp only at a
          rw[q1] at a
          exact⟨Da,w,rfl,q2 ▸ DD.k (er2.gK.sub 0 _ _ e),b t ρ2 a w p2 H2 .refl er2 q3⟩
        · dsimp only at a
          rw[q1] at a
          exact a.elim
    | _=>exact a.elim⟩⟩
theorem hu1{n:Nat}(h:n+64<cLine):n+1<cLine:=by omega
end
end L2
namespace L2
open PySem PySem.Spec PyProof.Rows
def LZ(K:PySem.W.Frag)(a:Addr):It:=
  ⟨fun i H=>∃ xs x,kn K H a xs/\xs[i]?=some x,fun i H v H'=>∃ p x,H p=none/\v=.ref p/\H'=upd H p (.tup [.int i,x])/\∀ xs,kn K H a xs->xs[i]?=some x,fun i H=>∃ xs,kn K H a xs/\xs.length<=i⟩
def Qn(K:PySem.W.Frag)(ta:TA):TI:=fun σ H R=>ta σ H fun vs H1=>∃ a,vs=[.ref a]/\(∃ xs,kn K H1 a xs)/\R (LZ K a) H1
theorem EG{P:Program}{w:World}{K:PySem.W.Frag}{elts:List Expr}{x1:Nat}{pos:Pos}(a it e:Addr)(WM:e≠it):Turn P w K (.Tuple elts x1 pos) (LZ K a) [e,it] e (fun i h=>(∃ old,IsEnum h e it i old)/\h.IsTupleIter it a i) where
  mem:=by simp
  obj:=fun i h st b hb=>by
    obtain⟨⟨old,he⟩,hit⟩:=st
    have M':b=e\/b=it:=by simpa using hb
    rcases M' with rfl | rfl
    · exact⟨_,he,fun v z=>nomatch z⟩
    · obtain⟨o,e,c,d⟩:=hit
      exact⟨o,e,fun v z=>by rw[d] at z;cases z⟩
  keep:=fun i h h' st k=>by
    obtain⟨⟨old,he⟩,o,ho,r⟩:=st
    exact⟨⟨old,k e (by simp) _ he⟩,o,k it (by simp) o ho,r⟩
  item:=by
    intro X hP hw hK hc i pins s σ H E I hf st hg
    subst hP hw hK
    obtain⟨⟨old,he⟩,hit⟩:=st
    obtain⟨xs,x,hq,hx⟩:=hg
    obtain⟨aS,rv,p,hz⟩:=I.tuple hq
    obtain⟨u,hu,ru⟩:=rv.get hx
    have fe:=hf e (by simp)
    have fi:=hf it (by simp)
    have nt:∀ b u,H b=some u->b≠e/\b≠it:=fun b u q=>⟨(fun z=>by rw[z,fe.1] at q;cases q),(fun z=>by rw[z,fi.1] at q;cases q)⟩
    have na:a≠e/\a≠it:=by
      obtain⟨o,ho,NC,_⟩:=p
      refine⟨fun z=>?_,fun z=>?_⟩
      · rw[z] at ho
        have Yd:s.heap.get? e=some _:=he
        rw[Yd] at ho
        cases ho
        simp at NC
      · obtain⟨o2,ho2,hc2,_⟩:=hit
        rw[z,ho2] at ho
        cases ho
        rw[hc2] at NC
        simp at NC
    have hui:aS.toArray[i]?=some u:=by simpa using hu
    have Ga:i<aS.toArray.size:=(Array.getElem?_eq_some_iff.mp hui).1
    refine wpAny_pyNext_enum_itemD (Dt.draws (A:=X.A.in1) (I.ok.hd hc) it a na.2 aS.toArray) he ⟨hit,show s.heap.IsTuple a aS.toArray from p⟩ Ga WM (by simp [WM,Ne.symm na.1]) fun u' h' tk hu' ho' hst' VY hsz' hk'=>?_
    have Qt:=hst'.1
    have eu:u'=u:=by rw[hui] at hu';exact (Option.some.inj hu').symm
    subst eu
    refine⟨_,rfl,wpAny_letOwnedTupleGo_enum (s:={ s with heap:=h',toks:=tk+1 }) ho' fun h2 he2 sb2=>?_⟩
    have hel:e<s.heap.objs.size:=Heap.lt_size he
    have nn:H s.heap.objs.size=none:=I.cQ.fresh (Nat.le_refl _)
    have keep:∀ b o,b≠e->b≠it->s.heap.get? b=some o->h2.get? b=some o:=fun b o n1 n2 q=>(sb2.2 b n1).trans (hk' b o n1 n2 q)
    have JC:∀ b,b ∉ [e,it]->b≠e/\b≠it:=fun b hb=>by simpa using hb
    have I1:Inv X pins σ H { s with heap:=h2,toks:=tk+1 }:=by
      refine I.step (g':=s.gens) (d':=s.drawn) (ch:=[e,it]) (fun b hb=>?_) (fun b o _ _ hc q _=>keep b o (JC b hc).1 (JC b hc).2 q) (fun b o _ _ hc q _=>⟨o.slots,keep b o (JC b hc).1 (JC b hc).2 q⟩) (fun _ _ _ _ n=>n)
        (fun b o hc q=>⟨o,keep b o (JC b hc).1 (JC b hc).2 q⟩) (fun _ _ q=>q) (fun _ _ _ q=>q) (fun b ps q=>⟨#[],by rw[q];simp⟩) (fun m hm=>?_) (fun b u q=>?_) I.bare
      · have M':b=e\/b=it:=by simpa using hb
        rcases M' with rfl | rfl
        · exact⟨fe.2.2.2.1,fe.2.1,fe.2.2.2.2.1,fe.2.2.2.2.2⟩
        · exact⟨fi.2.2.2.1,fi.2.1,fi.2.2.2.2.1,fi.2.2.2.2.2⟩
      · obtain⟨o,es,ep,ho,r⟩:=hm
        exact⟨o,es,ep,keep _ o (Ne.symm fe.2.1) (Ne.symm fi.2.1) ho,r⟩
      · refine (I.cQ b u q).stay (fun c v hc q'=>keep c v ?_ ?_ q') (fun _ q'=>q') fun _ _ q'=>q'
        · rcases hc with z | z
          · rw[z];exact (nt b u q).1
          · exact (nt c _ z).1
        · rcases hc with z | z
          · rw[z];exact (nt b u q).2
          · exact (nt c _ z).2
    have ht2:h2.get? s.heap.objs.size=some { cls:=.type "tuple",data:=.seq #[.int i tk,u'] }:=(sb2.2 _ (Nat.ne_of_gt hel)).trans VY
    have I2:Inv X pins σ (upd H s.heap.objs.size (.tup [.int i,x])) { s with heap:=h2,toks:=tk+1 }:=
      I.later (Heap.get?_none_of_le (Nat.le_refl _)) I1 nn ⟨(by show 2<=sizeLine;decide),[.int i tk,u'],.cons ⟨_,rfl⟩ (.cons ru .nil),_,ht2,⟨rfl,rfl⟩,0,rfl⟩
    refine⟨.ref s.heap.objs.size,_,I2,rfl,⟨s.heap.objs.size,x,nn,rfl,rfl,fun ys hy=>by rw[I.sqK_inj (k:=true) hy hq];exact hx⟩,⟨⟨_,he2⟩,Qt.extBut sb2.extBut (Ne.symm WM)⟩,fun b hb=>?_⟩
    have Ga:b<s.heap.objs.size:=by
      have M':b=e\/b=it:=by simpa using hb
      rcases M' with rfl | rfl
      · exact hel
      · obtain⟨o,e,_⟩:=hit;exact Heap.lt_size e
    rw[aI (Nat.ne_of_lt Ga)]
    exact (hf b hb).1
  done:=by
    intro X hP hw hK hc i pins s σ H E I hf st hg
    subst hP hw hK
    obtain⟨⟨old,he⟩,hit⟩:=st
    obtain⟨xs,hq,hx⟩:=hg
    obtain⟨aS,rv,p,hz⟩:=I.tuple hq
    obtain⟨f0,f1,f2,f3,f4,f5⟩:=hf it (by simp)
    have fe:=hf e (by simp)
    have hl:=rv.length
    have hi2:i=aS.toArray.size\/aS.toArray.size<i:=by
      rw[List.size_toArray];omega
    refine Dt.Lz (I.ok.hd hc) he hit (show s.heap.IsTuple a aS.toArray from p) (by rw[Array.getElem?_eq_none_iff,List.size_toArray];omega) fun h' eb=>⟨rfl,I.turned (t':=s.toks) (fun b o hb e=>eb b o hb e) f0 f1 f3 f4 f5⟩
  self:=fun _ _ _ _ _ st h=>let ⟨⟨_,he⟩,_⟩:=st;wpAny_pyIter_enum he h
theorem JB{X:Cx}{K:PySem.W.Frag}(hK:X.K=K){elts:List Expr}{x1:Nat}{JU:Pos}{a:Expr}{ta:TA}{p pos:Pos}(hg:Gl X "enumerate")(hm:X.mg "enumerate"=none)(ha:PA X [a] ta)(hs:starEach [a] X.env=[(false,eval a X.env)]:=by rfl):
    PI X (.Tuple elts x1 JU) (.Call (.Name "enumerate" p) [a] [] pos) (Qn K ta):=by
  subst hK
  intro pins s σ H R I h
  refine Call_ (sA I hg hm B1 (PyProof.Rows.callWith_type1 (eM (ha pos pins s σ H _ I h) fun us s1 ⟨vs,H1,I1,r1,q1⟩=>?_) hs rfl))
  obtain⟨l,e,⟨xs,hq⟩,q⟩:=q1
  subst e
  obtain⟨u,rfl,rx⟩:=r1.one
  cases (show u=Value.ref l from rx)
  obtain⟨aS,rv,pl,hz⟩:=I1.tuple hq
  refine Dt.J' (show s1.heap.IsTuple l aS.toArray from pl) fun h' he hit Xq hk=>?_
  refine wpAny_pyIter_enum he ?_
  have I2:Inv X pins σ H1 { s1 with heap:=h' }:=I1.kept (t':=s1.toks) hk
  refine⟨s1.heap.objs.size+1,[s1.heap.objs.size+1,s1.heap.objs.size],_,_,H1,rfl,I2,EG l _ _ (Nat.succ_ne_self _),⟨⟨_,he⟩,hit⟩,fun b hb=>?_,q⟩
  have M':b=s1.heap.objs.size+1\/b=s1.heap.objs.size:=by simpa using hb
  have ge:s1.heap.objs.size<=b:=by
    rcases M' with rfl | rfl
    · exact Nat.le_succ _
    · exact Nat.le_refl _
  have F:=I1.fpOk ge (I1.cQ.fresh ge)
  exact F
variable {X:Cx} {K:PySem.W.Frag} {E:St->XK}
theorem HD{a:Addr}{xs:List V}{p:iL}{l:List Tv}(s:GR K (p 0) a xs)(r:aw K (p 0) l xs):MT K (LZ K a) p (BL l):=fun p' H' e u=>by
  have s':kn K H' a xs:=((e.trans (u.sub 0)).seqN s).t
  refine⟨fun i t ht=>?_,⟨xs,s',by rw[r.len,M3];exact Nat.le_refl _⟩⟩
  obtain⟨t',VY,rfl⟩:=Ly ht
  obtain⟨v,hv,q⟩:=r.get VY
  refine⟨⟨xs,v,s',hv⟩,fun x H2 ⟨b,y,n,y1,y2,y3⟩=>?_⟩
  have:=y3 xs s'
  rw[hv] at this
  cases this
  rw[y1,y2]
  exact JX u n (ao.mpr rfl) (q.up e)
theorem LY{elts:List Expr}{x1:Nat}{JU:Pos}{a:Expr}{m:Mv Tv}{p pos:Pos}(hK:X.K=K)(hg:Gl X "enumerate")(hm:X.mg "enumerate"=none)(ha:PA X [a] (lh K E [m]))(hs:starEach [a] X.env=[(false,eval a X.env)]:=by rfl):
    PI X (.Tuple elts x1 JU) (.Call (.Name "enumerate" p) [a] [] pos) (iV K E (Mf m)):=by
  refine (JB hK hg hm ha.toS hs).imp fun σ H R ⟨p,ρ,er,h⟩=>⟨p,ρ,er,(tA.toIs (H:=H) h).mono fun vs H1 ⟨xs,p1,ρ1,g1,bK,r1,P,a,b,_⟩=>?_⟩
  match xs,a with
  | [.tup l],a=>
    obtain⟨v,r,rfl,a1,a2⟩:=ax.mp r1
    obtain⟨q,ys,rfl,s,r⟩:=la.mp a1
    rw[aP.mp a2]
    exact⟨q,rfl,⟨ys,((bK.gK.sub 0).seqN s).t⟩,b _ ρ1 a _ p1 H1 .refl bK (HD s r)⟩
end L2
namespace L2
open PySem PySem.Spec PyProof.Rows
variable {X:Cx} {K:PySem.W.Frag} {E:St->XK}
theorem tA.no{α β:Type}{R:Hp->α->β->Prop}{p:iL}{ρ:En}{σ:St}{Q:β->Hp->Prop}(h:tA K E R (fun _ _=>False) p ρ σ Q):False:=let ⟨_,a,_⟩:=h;a
def OO:List (Mv Tv)->Str->Mv Tv
  | [],out=>fun ρ P=>P (.ok (.str out)) ρ
  | m::ms,out=>bo m fun x=>match x with
    | .str y=>fun ρ P=>(out++y).length<=sizeLine/\OO ms (out++y) ρ P
    | _=>fun _ _=>False
def Pt(ms:List (Mv Tv)):Mv Tv:=OO ms Str.empty
def tJ(K:PySem.W.Frag)(E:St->XK)(ms:List (Mv Tv)):TJ:=fun σ H out Q=>tG K E (Rep K) (OO ms out) σ H Q
theorem Qf:PJ X [] (tJ K E []):=fun pins s σ H out Q I hz ⟨p,ρ,er,P,a,b,_⟩=>Rf pins s σ H out Q I hz (b _ ρ a _ p H .refl er (aC.mpr rfl))
theorem IC{e:Expr}{es:List Expr}{m:Mv Tv}{ms:List (Mv Tv)}(he:PE X e (tV K E m))(ht:PJ X es (tJ K E ms)):PJ X (e::es) (tJ K E (m::ms)):=fun pins s σ H out Q I hz ⟨p,ρ,er,h⟩=>
  O1 he ht pins s σ H out Q I hz ⟨p,ρ,er,(tA.bind (show tA K E (Rep K) (bo m fun x=>match x with
    | .str y=>fun ρ P=>(out++y).length<=sizeLine/\OO ms (out++y) ρ P
    | _=>fun _ _=>False) p ρ σ Q from h)).mono fun v H1 ⟨x,p1,ρ1,g1,bK,r1,h1⟩=>by
    cases x with
    | str y=>
      obtain⟨P,a,b,c⟩:=h1
      exact⟨y,aC.mp r1,a.1,p1,ρ1,bK,P,a.2,b,c⟩
    | _=>exact h1.no.elim⟩
theorem SU{v₁ v₂:Expr}{es:List Expr}{ms:List (Mv Tv)}{pos:Pos}(h:PJ X (v₁::v₂::es) (tJ K E ms)):PE X (.JoinedStr (v₁::v₂::es) pos) (tV K E (Pt ms)):=NI h
def Vi(W:Str->List Tv->(Tv->Prop)->Prop)(o:Mv Tv)(ms:List (Mv Tv)):Mv Tv:=bo o fun x=>match x with
  | .str z=>bo (fF ms) fun xs ρ P=>W z xs fun t=>P (.ok t) ρ
  | _=>fun _ _=>False
def rVm(K:PySem.W.Frag)(W:Str->List Tv->(Tv->Prop)->Prop):V->List V->Hp->VK->Prop:=fun x xs H Q=>∃ z p l P,x=.str z/\d8 H p/\aw K (p 0) l xs/\W z l P/\∀ t,P t->∀ v G' H',bP (p 0) G'->d8 H' (a9 p 0 G')->Rep K G' t v->Q v H'
theorem W6{W:Str->List Tv->(Tv->Prop)->Prop}{o e:Expr}{es:List Expr}{mo:Mv Tv}{ms:List (Mv Tv)}{name:Str}{apos gw:Pos}{id:String}(hK:X.K=K)(slot:Slot "str" name id)(QR:typeOf (.builtin id)=pure (.type "method_descriptor"))(hm:NT X id (rVm K W))(ho:PE X o (tV K E mo))(ha:PA X (e::es) (lh K E ms))
    (nI:attributeBase o name X.env (eval o X.env)=eval o X.env:=by rfl)
    (GL:((backTo gw (starEach (e::es) X.env)).all (fun x=>!x.1)&&(backToKw gw (keywordEach [] X.env)).all (fun x=>x.1.isSome)&&decide ((e::es).length+([]:List Keyword).length+(if ([]:List Keyword).isEmpty then 0 else 1)<30))=true:=by rfl)
    (pW:(apos.endLine==gw.line)=true:=by rfl) (hs:starEach (e::es) X.env=(false,eval e X.env)::starEach es X.env:=by rfl) (Gq:(backTo gw (starEach es X.env)).any (·.1)=false:=by rfl) :
    PE X (.Call (.Attribute o name apos) (e::es) [] gw) (tV K E (Vi W mo ms)):=by
  subst hK
  refine (KY PySem.F.plainAttrs_str slot QR hm ho ha.toS nI GL pW hs Gq).imp fun σ H Q ⟨p,ρ,er,h⟩=>⟨p,ρ,er,h.bind.mono fun v H1 ⟨x,p1,ρ1,g1,bK,r1,h1⟩=>?_⟩
  cases x with
  | str z=>
    cases aC.mp r1
    exact⟨rfl,p1,ρ1,bK,h1.bind.mono fun vs H2 ⟨xs,p2,ρ2,g2,er2,r2,h2⟩=>let ⟨P,a,b⟩:=zI er2 h2;⟨z,p2,xs,P,rfl,er2.gK,r2,a,b⟩⟩
  | _=>exact h1.no.elim
theorem NX{G:Hp}{l:List Tv}{xs:List V}{us:List Value}{y:Str}(e:l=[.str y])(r:aw K G l xs)(rs:bf xs us):∃ u,us=[.str y u]:=by
  subst e
  obtain⟨v,rfl,rr⟩:=iR r
  obtain⟨u,rfl,ru⟩:=rs.one
  rw[aC.mp rr] at ru
  obtain⟨t,rfl⟩:=ru
  exact⟨t,rfl⟩
end L2
namespace L2
open PySem PySem.Spec PyProof.Rows
variable {X:Cx} {K:PySem.W.Frag} {E:St->XK}
theorem Bz{G:Hp}:∀ ys:List Str,aw K G (ys.map Tv.str) (ys.map V.str)
  | []=>.nil
  | y::ys=>.cons (aC.mpr rfl) (Bz ys)
def wJn:Str->List Tv->(Tv->Prop)->Prop
  | z,[.lst l],k=>∃ ys:List Str,l=ys.map Tv.str/\(ys.map (·.length)).sum+ys.length*z.length<=16777216/\k (.str (Txt.join z ys))
  | _,_,_=>False
theorem hV{G:Hp}:∀ {ys:List Str} {xs:List V},aw K G (ys.map Tv.str) xs->xs=ys.map V.str
  | [],xs,h=>by rw[aP.mp h];rfl
  | y::ys,xs,h=>by
    obtain⟨v,r,rfl,a,b⟩:=ax.mp h
    rw[aC.mp a,hV b]
    rfl
theorem Lg:NT X "str.join" (rVm X.K wJn):=by
  intro pins s σ H x xs v us Q I rx rs ⟨z,p,l,P,e,u,r,w,k⟩
  match l,w with
  | [.lst l],⟨ys,el,hz,w⟩=>
    subst el
    obtain⟨v',rfl,rr⟩:=iR r
    obtain⟨c,zs,rfl,s1,q1⟩:=ba.mp rr
    rw[hV q1] at s1
    exact Om pins s σ H x _ v us Q I rx rs ⟨z,c,ys,e,rfl,fW.of (u.sub 0 _ _ s1),hz,aX u w k (aC.mpr rfl)⟩
def Po:List Tv->(Tv->Prop)->Prop
  | [.str z],k=>∃ n:Int,PySem.intText? z=some n/\z.length<=640/\k (.int n)
  | _,_=>False
theorem RU:dW X (.type "int") (Kw K Po):=by
  intro pins s σ H xs us Q I rx ⟨p,l,P,u,r,w,k⟩
  match l,w with
  | [.str z],⟨n,hn,hl,w⟩=>
    obtain⟨t,rfl⟩:=NX rfl r rx
    exact PySem.W.KIN.call_text hn hl ⟨.int n,H,I.tok _,⟨_,rfl⟩,aX u w k (ao.mpr rfl)⟩
end L2
namespace L2
open PySem PySem.Spec PyProof.Rows
variable {X:Cx} {K:PySem.W.Frag} {E:St->XK}
def Zo(K:PySem.W.Frag)(a:Addr)(n:Nat):It:=
  ⟨fun i H=>∃ xs x,fW K H a xs/\xs.length=n/\i<n/\xs[n-1-i]?=some x,fun i H x H'=>H'=H/\∀ xs,fW K H a xs->xs[n-1-i]?=some x,fun i H=>i=n⟩
theorem Mz{P:Program}{w:World}{K:PySem.W.Frag}{tg:Expr}(a it:Addr)(n:Nat):Turn P w K tg (Zo K a n) [it] it (fun i h=>h.IsRevIter it a ((n:Int)-1-i)) where
  mem:=by simp
  obj:=fun i h st b hb=>by
    have e:b=it:=by simpa using hb
    subst e
    obtain⟨o,e,c,d⟩:=st
    exact⟨o,e,fun v z=>by rw[d] at z;cases z⟩
  keep:=fun i h h' st k=>st.at fun o e=>k it (by simp) o e
  item:=by
    intro X hP hw hK hc i pins s σ H E I hf st hg
    subst hP hw hK
    obtain⟨xs,x,hq,hn,hi,hx⟩:=hg
    obtain⟨aS,rv,p,hz⟩:=I.list hq
    obtain⟨u,hu,ru⟩:=rv.get hx
    obtain⟨f0,f1,f2,f3,f4,f5⟩:=hf it (by simp)
    have st:s.heap.IsRevIter it a ((n-1-i:Nat):Int):=by rw[show ((n-1-i:Nat):Int)=(n:Int)-1-i by omega];exact st
    refine wpAny_pyNext_rev_item st p.isList (x:=u) (by simpa using hu) fun h' st' sb=>?_
    have I1:Inv X pins σ H { s with heap:=h' }:=I.turned (t':=s.toks) (fun b o hb e=>(sb.2 b hb).trans e) f0 f1 f3 f4 f5
    have TU:h'.IsRevIter it a ((n:Int)-1-(i+1:Nat)):=by rw[show (n:Int)-1-(i+1:Nat)=((n-1-i:Nat):Int)-1 by omega];exact st'
    obtain⟨o,e,c,d⟩:=id st'
    exact⟨u,rfl,IZ (s:={ s with heap:=h' }) e c d (by decide) ⟨x,H,I1,ru,⟨rfl,fun ys hy=>by rw[I.list_inj hy hq];exact hx⟩,TU,fun b hb=>(hf b hb).1⟩⟩
  done:=by
    intro X hP hw hK hc i pins s σ H E I hf st hg
    subst hP hw hK
    have hg:i=n:=hg
    subst hg
    obtain⟨f0,f1,f2,f3,f4,f5⟩:=hf it (by simp)
    have st:s.heap.IsRevIter it a (-1):=by rw[show (-1:Int)=(i:Int)-1-i by omega];exact st
    exact wpAny_pyNext_rev_end (I.ok.hd hc) st fun h' eb=>⟨rfl,I.turned (t':=s.toks) (fun b o hb e=>eb b o hb e) f0 f1 f3 f4 f5⟩
  self:=fun _ _ _ _ _ st h=>wpAny_pyIter_revIter st h
def Z3(K:PySem.W.Frag)(ta:TA):TI:=fun σ H R=>ta σ H fun vs H1=>∃ a xs,vs=[.ref a]/\fW K H1 a xs/\R (Zo K a xs.length) H1
theorem FW:bootBuiltins "reversed"=some (.type "reversed"):=by decide +kernel
theorem Q_{tg:Expr}{a:Expr}{ta:TA}{p pos:Pos}(hg:Gl X "reversed")(hm:X.mg "reversed"=none)(ha:PA X [a] ta)(hs:starEach [a] X.env=[(false,eval a X.env)]:=by rfl):
    PI X tg (.Call (.Name "reversed" p) [a] [] pos) (Z3 X.K ta):=by
  intro pins s σ H R I h
  refine Call_ (sA I hg hm FW (PyProof.Rows.callWith_type1 (eM (ha pos pins s σ H _ I h) fun us s1 ⟨vs,H1,I1,r1,q1⟩=>?_) hs rfl))
  obtain⟨l,xs,e,hq,q⟩:=q1
  subst e
  obtain⟨u,rfl,rx⟩:=r1.one
  cases (show u=Value.ref l from rx)
  obtain⟨aS,rv,pl,hz⟩:=I1.list hq
  refine call_reversed_list pl.isList ?_
  have hn:aS.toArray.size=xs.length:=by rw[List.size_toArray,rv.length]
  rw[hn]
  have hit:(s1.heap.push (revObj l ((xs.length:Int)-1))).IsRevIter s1.heap.objs.size l ((xs.length:Int)-1):=⟨_,Heap.get?_push_size _ rfl,rfl,rfl⟩
  refine wpAny_pyIter_revIter hit ?_
  refine⟨s1.heap.objs.size,[s1.heap.objs.size],_,_,H1,rfl,I1.kept (t':=s1.toks) fun b o e=>Heap.get?_push_of_some _ e,Mz l _ xs.length,?_,fun b hb=>?_,q⟩
  · show (s1.heap.push (revObj l ((xs.length:Int)-1))).IsRevIter s1.heap.objs.size l ((xs.length:Int)-1-(0:Nat))
    rw[show (xs.length:Int)-1-(0:Nat)=(xs.length:Int)-1 by omega]
    exact hit
  · have e:b=s1.heap.objs.size:=by simpa using hb
    subst e
    exact I1.fpOk (Nat.le_refl _) (I1.cQ.fresh (Nat.le_refl _))
def P3(m:Mv Tv):Mv (List Tv):=bo (fF [m]) fun x=>match x with | [.lst l]=>fun ρ P=>P (.ok l.reverse) ρ | _=>fun _ _=>False
theorem Of{a:Addr}{xs:List V}{p:iL}{l:List Tv}(s:fW K (p 0) a xs)(r:aw K (p 0) l xs):MT K (Zo K a xs.length) p l.reverse:=fun p' H' e u=>by
  have s':fW K H' a xs:=(e.trans (u.sub 0)).seq s
  refine⟨fun i t ht=>?_,by show l.reverse.length=xs.length;rw[List.length_reverse,r.len]⟩
  have hi:i<l.length:=by have:=(List.getElem?_eq_some_iff.mp ht).1;rwa [List.length_reverse] at this
  have VY:l[xs.length-1-i]?=some t:=by
    rw[List.getElem?_reverse hi] at ht
    rw[r.len];exact ht
  obtain⟨v,hv,q⟩:=r.get VY
  refine⟨⟨xs,v,s',rfl,by rw[r.len];exact hi,hv⟩,fun x H2 ⟨y1,y2⟩=>?_⟩
  have:=y2 xs s'
  rw[hv] at this
  cases this
  subst y1
  exact⟨p' 0,bP.refl _,MN u,q.up e⟩
theorem S'{tg:Expr}{a:Expr}{m:Mv Tv}{p pos:Pos}(hK:X.K=K)(hg:Gl X "reversed")(hm:X.mg "reversed"=none)(ha:PA X [a] (lh K E [m]))(hs:starEach [a] X.env=[(false,eval a X.env)]:=by rfl):
    PI X tg (.Call (.Name "reversed" p) [a] [] pos) (iV K E (P3 m)):=by
  subst hK
  refine (Q_ hg hm ha.toS hs).imp fun σ H R ⟨p,ρ,er,h⟩=>⟨p,ρ,er,(tA.toIs (H:=H) h).mono fun vs H1 ⟨xs,p1,ρ1,g1,bK,r1,P,a,b,_⟩=>?_⟩
  match xs,a with
  | [.lst l],a=>
    obtain⟨v,r,rfl,a1,a2⟩:=ax.mp r1
    obtain⟨q,ys,rfl,s,r⟩:=ba.mp a1
    rw[aP.mp a2]
    exact⟨q,ys,rfl,fW.of (bK.gK.sub 0 _ _ s),b _ ρ1 a _ p1 H1 .refl bK (Of (fW.of s) r)⟩
end L2
namespace L2
open PySem PySem.Spec PyProof.Rows
theorem aQ.none{P:Program}{w:World}{K:PySem.W.Frag}{mg:Str->Option Value}{base:Heap}{CX:wQ}{k:Nat}{f:Addr}{fd:FuncData}{ps:List Str}{C:Ct}(h:∀ ts P,C ts P->False):aQ P w K mg base CX k f fd ps (sN K C):=
  ⟨fun vs H Q E ⟨p,ts,P,_,_,_,c,_⟩=>(h _ _ c).elim,fun A outer s H args us vs Q E _ _ _ _ ⟨p,ts,P,_,_,_,c,_⟩=>(h _ _ c).elim⟩
def T(l:List Nat):Str:=⟨l.toArray⟩
theorem Y6(z:Str):z=T z.cps.toList:=by
  obtain⟨l⟩:=z
  show Str.mk l=Str.mk l.toList.toArray
  simp
end L2
namespace L2
open PySem PySem.Spec PyProof.Rows
section
variable {X:Cx} {K:PySem.W.Frag} {E:St->XK}
def PC:Tv->Tv->(Tv->Prop)->Prop
  | .int i,.int j,k=>(∃ z:Nat,z<=1048580/\i.natAbs<2 ^ z/\j.natAbs<2 ^ z)/\k (.int (i*j))
  | _,_,_=>False
theorem QQ:gJ X (binaryOp .Mult) (rV K PC):=Jf.imp fun x y H Q ⟨p,a,b,P,u,ra,rb,w,k⟩=>by
  match a,b,w with
  | .int i,.int j,w=>exact⟨i,j,ao.mp ra,ao.mp rb,w.1,aX u w.2 k (ao.mpr rfl)⟩
end
end L2
namespace L2
open PySem PySem.Spec PyProof.Rows
section
variable {X:Cx} {K:PySem.W.Frag} {E:St->XK}
def CZ(X:Cx)(E:St->XK)(m:Str)(C:Addr)(sp:Sp):Prop:=Au X.K C/\∃ (CX:wQ) (f:Addr) (fd:FuncData) (ps:List Str) (k:Nat),n8 X.K C m f/\aQ X.prog X.w X.K X.mg X.base CX k f fd ps sp/\eZ k X.A/\Binds X.K fd ps []/\gA CX X E
def Dd(S:Addr->Sp->Prop)(m:Str)(E:St->XK)(ta:TE)(t:TA):TE:=fun σ H Q=>ta σ H fun x H1=>∃ a C dx fs sp,x=.ref a/\H1 a=some (.ins C dx fs)/\S C sp/\fs.lookup m=none /\
  t σ H1 fun vs H2=>sp (x::vs) H2 Q (E σ)
theorem Mm{S:Addr->Sp->Prop}{m:Str}{o e:Expr}{es:List Expr}{ta:TE}{t:TA}{apos pos:Pos}{pl:Sem Bool}(hS:∀ C sp,S C sp->CZ X E m C sp)(he:PE X o ta)(ha:PA X (e::es) t)
    (wX:starEach (e::es) X.env=(false,eval e X.env)::starEach es X.env:=by rfl) (qz:(backTo pos (starEach es X.env)).any (·.1)=false:=by rfl)
    (ht:eval (.Call (.Attribute o m apos) (e::es) [] pos) X.env=(do
      let ov ← eval o X.env
      standAt apos.atName
      let r ← holding [ov] (getMethod ov m pl)
      callWith pos r.1 r.2 (backTo pos (starEach (e::es) X.env)) (backToKw pos (keywordEach [] X.env))):=by rfl) :
    PE X (.Call (.Attribute o m apos) (e::es) [] pos) (Dd S m E ta t):=by
  intro pins s σ H Q I h
  refine PySem.W.methodCall_KW (pl:=pl) (eM (he pins s σ H _ I h) fun u s1 ⟨x,H1,I1,rx,a,C,dx,fs,sp,ex,ea,hs,l,q⟩=>?_) ht
  obtain⟨c,CX,f,fd,ps,k,hm,F,hr,hb,hx⟩:=hS C sp hs
  subst ex
  obtain rfl:u=Value.ref a:=rx
  refine Ai I1 ea c hm l ?_
  refine PySem.W.callWith_K (first:=[.ref a]) (h₀:=X.base) I.ok.mod.NN hm.kp (eM (ha pos pins s1 σ H1 _ I1 q) fun us s2 ⟨vs,H2,I2,r,q2⟩=>⟨I2.kIn,?_⟩) wX qz
  exact xV (us:=.ref a::us) (vs:=.ref a::vs) (dvs:=[]) F hr hb .nil hx I2 (.cons rfl r) (by rw[List.append_nil];exact q2)
theorem Bv{S:Addr->Sp->Prop}{m:Str}{o:Expr}{ta:TE}{apos pos:Pos}{pl:Sem Bool}(hS:∀ C sp,S C sp->CZ X E m C sp)(he:PE X o ta)
    (ht:eval (.Call (.Attribute o m apos) [] [] pos) X.env=(do
      let ov ← eval o X.env
      standAt apos.atName
      let r ← holding [ov] (getMethod ov m pl)
      callWith pos r.1 r.2 (backTo pos (starEach [] X.env)) (backToKw pos (keywordEach [] X.env))):=by rfl) :
    PE X (.Call (.Attribute o m apos) [] [] pos) (Dd S m E ta OS):=by
  intro pins s σ H Q I h
  refine PySem.W.methodCall_KW (pl:=pl) (eM (he pins s σ H _ I h) fun u s1 ⟨x,H1,I1,rx,a,C,dx,fs,sp,ex,ea,hs,l,q⟩=>?_) ht
  obtain⟨c,CX,f,fd,ps,k,hm,F,hr,hb,hx⟩:=hS C sp hs
  subst ex
  obtain rfl:u=Value.ref a:=rx
  refine Ai I1 ea c hm l ?_
  exact PySem.W.callWith_K0 (first:=[.ref a]) I1.kIn hm.kp (xV (us:=[.ref a]) (vs:=[.ref a]) (dvs:=[]) F hr hb .nil hx I1 (.cons rfl .nil) q)
end
seal PE PT PW PA PS ju PG sg PI rA PO PJ
section
variable {K:PySem.W.Frag} {G:Hp}
theorem xX{C:Addr}{fs:List Str}{l:List Tv}{v:V}:Rep K G (.obj C fs l) v ↔ ∃ a dx xs,v=.ref a/\G a=some (.ins C dx (fs.zip xs))/\G dx=some (.own a)/\fs.length=l.length/\aw K G l xs:=by
  conv=>lhs;unfold Rep
theorem aw.look{f:Str}{t:Tv}:∀ {fs:List Str} {l:List Tv} {xs:List V},aw K G l xs->(fs.zip l).lookup f=some t->∃ v,(fs.zip xs).lookup f=some v/\Rep K G t v
  | [],_,_,_,e=>by cases e
  | _::_,[],_,_,e=>by cases e
  | g::fs,t'::l,xs,r,e=>by
    obtain⟨v,r',rfl,a,b⟩:=ax.mp r
    rw[List.zip_cons_cons,List.lookup_cons] at e
    rw[List.zip_cons_cons]
    cases q:f==g with
    | true=>
      rw[q] at e
      cases e
      exact⟨v,by rw[List.lookup_cons,q],a⟩
    | false=>
      rw[q] at e
      obtain⟨w,x,y⟩:=aw.look b e
      exact⟨w,by rw[List.lookup_cons,q];exact x,y⟩
theorem yW{f:Str}:∀ {fs:List Str} {xs:List V},fs.contains f=false->(fs.zip xs).lookup f=none
  | [],_,_=>rfl
  | _::_,[],_=>rfl
  | g::fs,x::xs,e=>by
    rw[List.contains_cons] at e
    obtain⟨a,b⟩:=Bool.or_eq_false_iff.mp e
    rw[List.zip_cons_cons,List.lookup_cons,a]
    exact yW b
end
def sQ(D:Addr->Prop)(f:Str)(m:Mv Tv):Mv Tv:=bo m fun x=>match x with
  | .obj C fs l=>fun ρ P=>D C/\∃ t,(fs.zip l).lookup f=some t/\P (.ok t) ρ
  | _=>fun _ _=>False
section
variable {X:Cx} {K:PySem.W.Frag} {E:St->XK}
theorem mq{D:Addr->Prop}{e:Expr}{f:Str}{m:Mv Tv}{pos:Pos}(hK:X.K=K)(hD:∀ C,D C->Au K C/\il K C f)(he:PE X e (tV K E m))(hb:attributeBase e f X.env (eval e X.env)=eval e X.env:=by rfl):
    PE X (.Attribute e f pos) (tV K E (sQ D f m)):=by
  subst hK
  refine (KN he hb).imp fun σ H Q ⟨p,ρ,er,h⟩=>⟨p,ρ,er,h.bind.mono fun v H1 ⟨x,p1,ρ1,g1,bK,r1,h2⟩=>?_⟩
  cases x with
  | obj C fs l=>
    obtain⟨P,⟨hd,t,hl,hp⟩,b,_⟩:=h2
    obtain⟨a,dx,xs,rfl,ga,_,_,rl⟩:=xX.mp r1
    obtain⟨w,hw,rw'⟩:=rl.look hl
    obtain⟨c,n⟩:=hD C hd
    exact⟨a,C,dx,_,w,rfl,bK.gK.sub 0 _ _ ga,c,n,hw,b t ρ1 hp w p1 H1 .refl bK rw'⟩
  | _=>obtain⟨_,z,_⟩:=h2;exact z.elim
theorem BN{C:Ct}{ts:List Tv}{vs:List V}{p1:iL}{ρ1:En}{H1:Hp}{σ:St}{Q:VK}(bK:ER K p1 H1 σ ρ1)(r1:aw K (p1 0) ts vs)(h:tA K E (Rep K) (fun ρ P=>C ts (E8 ρ P)) p1 ρ1 σ Q):sN K C vs H1 Q (E σ):=by
  obtain⟨P,a,b,c⟩:=h
  refine⟨three (p1 0) (dP p1 H1) iN,ts,_,bK.gK.two,jD,r1,a,fun r q v p' H' g u h3 s=>?_,fun c0 q p' H' g u h2=>?_⟩
  · have hr:r≠.un:=fun z=>by subst z;exact q
    have q:P (.ok r.frz) ρ1:=by
      cases r with
      | un=>exact q.elim
      | va t=>exact q
      | ow D l=>exact q
      | od D d=>exact q
      | oo x dx C fs l=>exact q
    obtain⟨u2,g2,h2⟩:=u.one h3
    obtain⟨u3,s3⟩:=bK.gK.back u2 ((g2.fr.trans g.fr:mv p' 2 1=dP p1 H1))
    have s4:bP (p1 0) _:=g.same.trans (g2.same.trans s3)
    exact b r.frz ρ1 q v _ H' (jv s4) (bK.grow s4 u3) (by rw[az];exact (s.toall u hr).up s3)
  · obtain⟨u3,s3⟩:=bK.gK.back u (g.fr:p' 1=dP p1 H1)
    have s4:bP (p1 0) _:=g.same.trans s3
    exact c c0 ρ1 q _ H' (jv s4) (bK.grow s4 u3)
def sf(D:Addr->Ct->Prop)(m:Str)(o:Mv Tv)(ms:List (Mv Tv)):Mv Tv:=bo o fun x=>match x with
  | .obj C fs l=>fun ρ P=>fs.contains m=false/\∃ c,D C c/\bo (fF ms) (fun xs ρ P=>c (.obj C fs l::xs) (E8 ρ P)) ρ P
  | _=>fun _ _=>False
def Pr(X:Cx)(K:PySem.W.Frag)(E:St->XK)(m:Str)(D:Addr->Ct->Prop):Prop:=∀ C c,D C c->CZ X E m C (sN K c)
theorem Kb{D:Addr->Ct->Prop}{m:Str}{mo:Mv Tv}{ms:List (Mv Tv)}:∀ σ H Q,tV K E (sf D m mo ms) σ H Q->Dd (fun C sp=>∃ c,D C c/\sp=sN K c) m E (tV K E mo) (PP K E (fF ms)) σ H Q:=fun σ H Q ⟨p,ρ,er,h⟩=>by
  refine⟨p,ρ,er,h.bind.mono fun v H1 ⟨x,p1,ρ1,g1,bK,r1,h2⟩=>?_⟩
  cases x with
  | obj C fs l=>
    obtain⟨P,⟨hn,c,hc,hp⟩,b,z⟩:=h2
    obtain⟨a,dx,xs,rfl,ga,gd,hl,rl⟩:=xX.mp r1
    refine⟨a,C,dx,_,_,rfl,bK.gK.sub 0 _ _ ga,⟨c,hc,rfl⟩,yW hn,p1,ρ1,bK,?_⟩
    have h3:tA K E (Rep K) (bo (fF ms) fun xs ρ P=>c (.obj C fs l::xs) (E8 ρ P)) p1 ρ1 σ Q:=⟨P,hp,b,z⟩
    exact h3.bind.mono fun vs H2 ⟨ys,p2,ρ2,g2,er2,r2,h4⟩=>BN er2 (aw.cons (r1.up g2.same) r2) h4
  | _=>obtain⟨_,z,_⟩:=h2;exact z.elim
theorem fh{D:Addr->Ct->Prop}{m:Str}{o:Expr}{mo:Mv Tv}{apos pos:Pos}{pl:Sem Bool}(hM:Pr X K E m D)(he:PE X o (tV K E mo))
    (ht:eval (.Call (.Attribute o m apos) [] [] pos) X.env=(do
      let ov ← eval o X.env
      standAt apos.atName
      let r ← holding [ov] (getMethod ov m pl)
      callWith pos r.1 r.2 (backTo pos (starEach [] X.env)) (backToKw pos (keywordEach [] X.env))):=by rfl) :
    PE X (.Call (.Attribute o m apos) [] [] pos) (tV K E (sf D m mo [])):=
  (Bv (S:=fun C sp=>∃ c,D C c/\sp=sN K c) (fun C sp ⟨c,hc,e⟩=>e ▸ hM C c hc) he ht).imp fun σ H Q h=>by
    obtain⟨p,ρ,er,h1⟩:=Kb σ H Q h
    refine⟨p,ρ,er,h1.mono fun x H1 ⟨a,C,dx,fs,sp,e1,e2,e3,e4,p1,ρ1,bK,h2⟩=>⟨a,C,dx,fs,sp,e1,e2,e3,e4,?_⟩⟩
    exact h2.pure bK aw.nil
def Ao(K:PySem.W.Frag)(C:Addr)(fs:List Str)(W:List Tv->(List Tv->Prop)->Prop):Sp:=fun vs H Q _=>∃ x dx us p ts P,vs=.ref x::us/\dx≠x/\d8 H p/\p 2=i8 x dx C []/\(∀ j,3<=j->p j=iN)/\aw K (p 0) ts us/\W ts P /\
  ∀ l,P l->∀ zs p' H',da p p'->d8 H' p'->p' 2=i8 x dx C (fs.zip zs)->(∀ j,3<=j->p' j=iN)->fs.length=l.length->aw K (p' 0) l zs->Q .non H'
def CJ(C:Addr)(fs:List Str)(W:List Tv->(List Tv->Prop)->Prop)(ms:List (Mv Tv)):Mv Tv:=bo (fF ms) fun xs ρ P=>W xs fun l=>P (.ok (.obj C fs l)) ρ
theorem wC{C fi:Addr}{fd:FuncData}{ps:List Str}{k:Nat}{fs:List Str}{W:List Tv->(List Tv->Prop)->Prop}{x:Str}{p pos:Pos}{e:Expr}{es:List Expr}{ms:List (Mv Tv)}(hK:X.K=K)(M:Mk K C fi)
    (F:aQ X.prog X.w X.K X.mg X.base yI k fi fd ps (Ao K C fs W)) (hr:eZ (k+1) X.A) (hg:Gl X x) (hm:X.mg x=some (.ref C)) (hb:Binds X.K fd ps []) (ha:PA X (e::es) (lh K E ms))
    (qc:(x==("__debug__":Str))=false:=by decide) (he:starEach (e::es) X.env=(false,eval e X.env)::starEach es X.env:=by rfl) (qz:(backTo pos (starEach es X.env)).any (·.1)=false:=by rfl) :
    PE X (.Call (.Name x p) (e::es) [] pos) (tV K E (CJ C fs W ms)):=by
  subst hK
  refine (Io M F hr hg hm hb .nil DP ha.toS qc he qz).imp fun σ H Q ⟨p,ρ,er,h⟩=>⟨p,ρ,er,h.bind.mono fun vs H1 ⟨xs,p1,ρ1,g1,bK,r1,P,a,b,c⟩=>fun x dx hx hdx ne=>?_⟩
  rw[List.append_nil]
  have u1:=(bK.gK.two).alloc hdx 2 (.own x)
  have u2:=u1.alloc (a:=x) (by rw[aI (Ne.symm ne)];exact hx) 2 (.ins C dx [])
  refine⟨x,dx,vs,_,xs,fun l=>P (.ok (.obj C fs l)) ρ1,rfl,ne,u2,?_,fun j hj=>?_,?_,a,fun l q zs p' H' g u e2 h3 hl rz=>⟨rfl,?_⟩⟩
  · rw[az,az];rfl
  · rw[aj (by omega),aj (by omega)];exact jD j (by omega)
  · rw[aj (by decide),aj (by decide)];exact r1
  · have g0:bP (p1 0) (p' 0):=by
      have:=g.same
      rw[aj (by decide),aj (by decide)] at this
      exact this
    have f1:p' 1=dP p1 H1:=by
      have:=g.fr
      rw[aj (by decide),aj (by decide)] at this
      exact this
    obtain⟨v2,g2,h2⟩:=u.one h3
    obtain⟨u3,s3⟩:=bK.gK.back v2 ((g2.fr.trans f1:mv p' 2 1=dP p1 H1))
    have s4:bP (p1 0) _:=g0.trans (g2.same.trans s3)
    refine b _ ρ1 q (.ref x) _ H' (jv s4) (bK.grow s4 u3) ?_
    rw[az]
    have Na:p' 2 x=some (.ins C dx (fs.zip zs)):=by rw[e2];exact hX
    have hd2:p' 2 dx=some (.own x):=by rw[e2];exact uc ne
    refine Rep.up (xX.mpr ⟨x,dx,zs,rfl,?_,?_,hl,rz.up g2.same⟩) s3
    · rw[fO (by decide)];unfold qW;rw[u.other Na (by decide)];exact Na
    · rw[fO (by decide)];unfold qW;rw[u.other hd2 (by decide)];exact hd2
theorem Im{H:Hp}{p:iL}{x dx C:Addr}{g g':List (Str×V)}(u:d8 H p)(e:p 2=i8 x dx C g):d8 (upd H x (.ins C dx g')) (a9 p 2 (i8 x dx C g')):=by
  have hx:p 2 x=some (.ins C dx g):=by rw[e];exact hX
  have:=u.put (i:=2) (a:=x) (fun j hj=>u.other hx hj) (.ins C dx g')
  rw[e] at this
  unfold i8 at this ⊢
  rw[iK] at this
  exact this
end
end L2
namespace L2
open PySem PySem.Spec PyProof.Rows
section
variable {X:Cx} {K:PySem.W.Frag}
def QN(K:PySem.W.Frag)(f:Bool->Bool):R2:=fun x y H Q=>∃ (z:Str) (l:Addr) (ys:List Str),x=.str z/\y=.ref l/\(fW K H l (ys.map V.str)\/kn K H l (ys.map V.str))/\Q (.bl (f (ys.any (·==z)))) H
theorem Px:gJ X (compareOp .In) (QN X.K id):=by
  intro pins s σ H x y v u Q I rx ry ⟨z,l,ys,e1,e2,hq,q⟩
  subst e1 e2
  obtain⟨t,rfl⟩:=rx
  cases (show u=Value.ref l from ry)
  rcases hq with hq | hq
  · obtain⟨aS,rv,pl,_⟩:=I.list hq
    exact in_list_strs pl.isList (jJ rv) ⟨.bl _,H,I,rfl,q⟩
  · obtain⟨aS,rv,pl,_⟩:=I.tuple hq
    exact in_tuple_strs pl (jJ rv) ⟨.bl _,H,I,rfl,q⟩
theorem MU:gJ X (compareOp .NotIn) (QN X.K not):=by
  intro pins s σ H x y v u Q I rx ry ⟨z,l,ys,e1,e2,hq,q⟩
  subst e1 e2
  obtain⟨t,rfl⟩:=rx
  cases (show u=Value.ref l from ry)
  rcases hq with hq | hq
  · obtain⟨aS,rv,pl,_⟩:=I.list hq
    exact notin_list_strs pl.isList (jJ rv) ⟨.bl _,H,I,rfl,q⟩
  · obtain⟨aS,rv,pl,_⟩:=I.tuple hq
    exact notin_tuple_strs pl (jJ rv) ⟨.bl _,H,I,rfl,q⟩
structure Lp(K:PySem.W.Frag)(C:Addr):Prop where
  cl:Au K C
  a:PySem.W.findIn K (.ref C) "__class__"=some (some (.builtin "object.__class__"))
  n:PySem.W.specialIn K (.builtin "object.__class__") "__get__"=some (some (.builtin "getset_descriptor.__get__"))
  t:PySem.W.takesIn K (.builtin "object.__class__")=some true
  m:PySem.W.mroIn K C (.type "object")=some true
theorem JY:dW X (.builtin "isinstance") (fun xs H Q=>∃ p C dx fs B b,xs=[.ref p,.ref B]/\H p=some (.ins C dx fs)/\Lp X.K C/\PySem.W.kitOne X.K (.ref C) (.ref B)=some b/\Q (.bl b) H):=by
  intro pins s σ H xs us Q I r ⟨p,C,dx,fs,B,b,e,h,c,k,q⟩
  subst e
  obtain⟨u,v,rfl,r1,r2⟩:=r.two
  cases (show v=Value.ref B from r2)
  exact jH I r1 (.ins h c.cl c.a c.n c.t c.m) k fun tk=>⟨.bl b,H,I.tok _,rfl,q⟩
end
seal PE PT PW PA PS ju PG sg PI rA PO PJ
section
variable {X:Cx} {K:PySem.W.Frag} {E:St->XK}
def RO(f:Bool->Bool):Tv->Tv->(Tv->Prop)->Prop
  | .str z,.tup l,k=>∃ ys:List Str,l=ys.map Tv.str/\k (.bl (f (ys.any (·==z))))
  | .str z,.lst l,k=>∃ ys:List Str,l=ys.map Tv.str/\k (.bl (f (ys.any (·==z))))
  | _,_,_=>False
abbrev ZK:=RO id
abbrev MK:=RO not
theorem IT{f:Bool->Bool}:∀ x y H Q,rV K (RO f) x y H Q->QN K f x y H Q:=fun x y H Q ⟨p,a,b,P,u,ra,rb,w,k⟩=>by
  match a,b,w with
  | .str z,.tup l,⟨ys,e,w⟩=>
    subst e
    obtain⟨c,xs,rfl,s1,q1⟩:=cb rb
    rw[hV q1] at s1
    exact⟨z,c,ys,aC.mp ra,rfl,.inr ((u.sub 0).seqT s1),aX u w k (aG.mpr rfl)⟩
  | .str z,.lst l,⟨ys,e,w⟩=>
    subst e
    obtain⟨c,xs,rfl,s1,q1⟩:=ba.mp rb
    rw[hV q1] at s1
    exact⟨z,c,ys,aC.mp ra,rfl,.inl (fW.of (u.sub 0 _ _ s1)),aX u w k (aG.mpr rfl)⟩
theorem Vv(hK:X.K=K):gJ X (compareOp .In) (rV K ZK):=by subst hK;exact Px.imp IT
theorem N5(hK:X.K=K):gJ X (compareOp .NotIn) (rV K MK):=by subst hK;exact MU.imp IT
def Pf(D:Addr->Addr->Bool->Prop):List Tv->(Tv->Prop)->Prop
  | [.obj C _ _,.cls B],k=>∃ b,D C B b/\k (.bl b)
  | _,_=>False
theorem RK{D:Addr->Addr->Bool->Prop}(hK:X.K=K)(hD:∀ C B b,D C B b->Lp K C/\PySem.W.kitOne K (.ref C) (.ref B)=some b):dW X (.builtin "isinstance") (Kw K (Pf D)):=by
  subst hK
  refine JY.imp fun xs H Q ⟨p,l,P,u,r,w,k⟩=>?_
  match l,w with
  | [.obj C fs z,.cls B],⟨b,hd,w⟩=>
    obtain⟨a,c,rfl,r1,r2⟩:=Cj r
    obtain⟨q,dx,ys,rfl,ga,_,_,_⟩:=xX.mp r1
    obtain⟨i,o⟩:=hD C B b hd
    rw[DA.mp r2]
    exact⟨q,C,dx,_,B,b,rfl,u.sub 0 _ _ ga,i,o,aX u w k (aG.mpr rfl)⟩
end
end L2
namespace L2
open PySem PySem.Spec PyProof.Rows
section
variable {X:Cx} {K:PySem.W.Frag}
structure Wo(K:PySem.W.Frag)(C:Addr)(m:Str)(f:Addr):Prop where
  g:PySem.W.specialIn K (.ref C) "__getattribute__"=some (some (.builtin "type.__getattribute__"))
  r:PySem.W.readsIn K C (.type "type")=true
  e:PySem.W.findCls K (.ref C) (.type "type") m=some (.val (.ref f))
  kp:PySem.W.keepIn K (.ref f)=true
theorem Cd{C f:Addr}{CX:wQ}{k:Nat}{fd:FuncData}{ps:List Str}{sp:Sp}{E:XK}{x m:Str}{np apos pos:Pos}{e:Expr}{es:List Expr}{t:TA}{pl:Sem Bool}(hg:Gl X x)(hm:X.mg x=some (.ref C))(c:Wo X.K C m f)
    (F:aQ X.prog X.w X.K X.mg X.base CX k f fd ps sp) (hr:eZ k X.A) (hb:Binds X.K fd ps []) (hx:zX CX X E) (ha:PA X (e::es) t)
    (qc:(x==("__debug__":Str))=false:=by decide) (wX:starEach (e::es) X.env=(false,eval e X.env)::starEach es X.env:=by rfl) (qz:(backTo pos (starEach es X.env)).any (·.1)=false:=by rfl)
    (ht:eval (.Call (.Attribute (.Name x np) m apos) (e::es) [] pos) X.env=(do
      let ov ← eval (.Name x np) X.env
      standAt apos.atName
      let r ← holding [ov] (getMethod ov m pl)
      callWith pos r.1 r.2 (backTo pos (starEach (e::es) X.env)) (backToKw pos (keywordEach [] X.env))):=by rfl) :
    PE X (.Call (.Attribute (.Name x np) m apos) (e::es) [] pos) (Pu sp [] E t):=by
  intro pins s σ H Q I h
  refine PySem.W.methodCall_KW (pl:=pl) (eM (jP (v:=.ref C) hg hm rfl qc pins s σ H (fun v H1=>v=.ref C/\H1=H) I ⟨rfl,rfl⟩) fun u s1 ⟨x,H1,I1,rx,ex,eH⟩=>?_) ht
  subst ex eH
  obtain rfl:u=Value.ref C:=rx
  refine PySem.W.method_cls I1.kIn c.g (PySem.W.cls_value I1.kIn c.r c.e rfl ?_)
  have I2:=I1.tok (s1.toks+1)
  refine PySem.W.callWith_K (first:=[]) (h₀:=X.base) I.ok.mod.NN c.kp (eM (ha pos pins _ σ H1 _ I2 h) fun us s2 ⟨vs,H2,I3,r,q2⟩=>⟨I3.kIn,?_⟩) wX qz
  exact RC (us:=us) (vs:=vs) F hr hb .nil hx I3 r q2
end
seal PE PT PW PA PS ju PG sg PI rA PO PJ
section
variable {X:Cx} {K:PySem.W.Frag} {E:St->XK}
theorem w_:∀ (kvs:List (Str×Str)) (σ:St) (H:Hp) (R:List (V×V)->Hp->Prop),R (kvs.map fun e=>(V.str e.1,V.str e.2)) H->yS (kvs.map fun e=>(tC (.str e.1),tC (.str e.2))) σ H R
  | [],_,_,_,h=>h
  | e::r,σ,H,R,h=>w_ r σ H _ h
theorem PB:∀ (kvs:List (Str×Str)),kvs.map (fun e=>(V.str e.1,V.str e.2))=(kvs.map fun e=>(Sum.inr e.1,V.str e.2)).map fun kv:Key×V=>(kV kv.1,kv.2)
  | []=>rfl
  | e::r=>by rw[List.map_cons,List.map_cons,List.map_cons,PB r];rfl
theorem K9:∀ (kvs:List (Str×Str)),(kvs.map fun e=>(Sum.inr e.1,V.str e.2):List (Key×V))=(kvs.map fun e=>(Sum.inr e.1:Key)).zip (kvs.map fun e=>V.str e.2)
  | []=>rfl
  | e::r=>by rw[List.map_cons,List.map_cons,List.map_cons,List.zip_cons_cons,K9 r]
theorem Sz{kvs:List (Str×Str)}{keys:List (Option Expr)}{values:List Expr}{pos:Pos}(h:TY X pos keys values (kvs.map fun e=>(tC (.str e.1),tC (.str e.2))))(hm:sR [] (kvs.map fun e=>(Sum.inr e.1,V.str e.2))=kvs.map fun e=>(Sum.inr e.1,V.str e.2))
    (hz:kvs.length<=15) (Hf:keys.all (·.isSome)=true:=by rfl) (hl:keys.length=values.length:=by rfl) (h0:keys≠[]:=by intro z;cases z) (h15:keys.length<=15:=by decide) :
    PE X (.Dict keys values pos) (tV K E (vC (.dic (kvs.map fun e=>Sum.inr e.1) (kvs.map fun e=>.str e.2)))):=
  (Jm h Hf hl h0 h15).imp fun σ H Q ⟨p,ρ,er,P,a,b,_⟩ q hq=>w_ _ _ _ _ (by
    refine⟨aH,_,PB kvs,by rw[List.length_map];exact hz,?_⟩
    rw[hm,iK]
    obtain⟨er2,s2⟩:=er.alloc hq (.dK (kvs.map fun e=>(Sum.inr e.1,V.str e.2)))
    refine b _ ρ a _ _ _ (jv s2) er2 ?_
    rw[az]
    refine oi.mpr ⟨q,kvs.map fun e=>V.str e.2,rfl,?_,by rw[List.length_map,List.length_map],?_⟩
    · rw[aH,K9]
    · have:=Bz (K:=K) (G:=upd (p 0) q (.dK (kvs.map fun e=>(Sum.inr e.1,V.str e.2)))) (kvs.map (·.2))
      rw[List.map_map,List.map_map] at this
      exact this)
end
end L2
namespace L2
open PySem PySem.Spec PyProof.Rows
section
variable {pg:Program} {w:World} {A:Around} {R:Result->Shared->Prop} {I:Addr} {fp wr:List Addr} {n:Nat} {P:Nat->Value->Prop} {St:Nat->Heap->Prop} {kw:List (Str×Value)}
theorem Kg(W:Walks pg w A.in1 I fp wr n P St)(bt:Nat->Nat->Bool)(hc:CmpOf pg w A.in1 .Gt P bt)(B:Addr)(hB:B ∉ fp):
    ∀ (m j:Nat) (s:Shared) (v0:Value) (c:Nat),n-(j+1)=m->j+1<=n->St (j+1) s.heap->P (argBest bt j) v0 ->
    s.heap.get? B=some { cls:=.type "list",dict:=none,data:=.seq #[v0,v0] c,slots:=#[] } ->
    (∀ v h' tk,P (argBest bt (n-1)) v->(∀ b o,b ∉ wr->b≠B->s.heap.get? b=some o->h'.get? b=some o)->R (.ok (.ret v)) { s with heap:=h',toks:=tk }) ->
    codeAny (model pg w) A (.builtin "max.loop" ⟨[.ref I,.none,.ref B],kw⟩) R s:=by
  have hW:B ∉ wr:=fun h=>hB (W.sub _ h)
  have nm:(toString "max"++toString ".loop":String)="max.loop":=by decide
  intro m
  induction m with
  | zero=>
    intro j s v0 c hm hj st p0 gB hR
    have hin:j+1=n:=by omega
    refine codeAny_builtin F.entry_max_loop ?_;rw[Around.under_plainId F.plain_max_loop _]
    show wpAny _ A.in1 (seqItems? (.ref B) >>= _) _ _ s
    refine wpAny_bind (wpAny_seqItems gB rfl ?_);show wpAny _ A.in1 (tryCatch (pyNext (.ref I)) _ >>= _) _ _ s
    refine wpAny_bind (wpAny_tryCatch (W.done s _ _ (hin ▸ st) fun h' tk k'=>?_))
    have PQ:=k' B _ hW gB
    show wpAny _ A.in1 (updateSeq B (fun _=>#[]) >>= _) _ _ _
    refine wpAny_bind ?_;refine wpAny_updateSeq PQ rfl (wpAny_bind (wpAny_letGo (wpAny_pure ?_)))
    exact hR v0 _ tk (by rw[← hin];exact p0) fun b o hb hbB e=>(Heap.get?_update_other _ _ (Ne.symm hbB)).trans (k' b o hb e)
  | succ m ih=>
    intro j s v0 c hm hj st p0 gB hR
    have Ga:j+1<n:=by omega
    refine codeAny_builtin F.entry_max_loop ?_;rw[Around.under_plainId F.plain_max_loop _]
    show wpAny _ A.in1 (seqItems? (.ref B) >>= _) _ _ s
    refine wpAny_bind (wpAny_seqItems gB rfl ?_);show wpAny _ A.in1 (tryCatch (pyNext (.ref I)) _ >>= _) _ _ s
    refine wpAny_bind (wpAny_tryCatch (W.item (j+1) s _ _ Ga st fun v h' tk pv st' k'=>?_))
    have PQ:=k' B _ hW gB
    show wpAny _ A.in1 (tryCatch (holding [v,v] (richCompare .Gt v v0 >>= _)) _ >>= _) _ _ _
    refine wpAny_bind (wpAny_tryCatch (wpAny_holding (wpAny_bind (hc (j+1) (argBest bt j) v v0 _ _ _ pv p0 ?_))));refine wpAny_bind (wpAny_holding (wpAny_truthy_bool ?_));refine wpAny_bind (wpAny_letGo (wpAny_pure ?_))
    cases hb:bt (j+1) (argBest bt j) with
    | true=>
      simp only [if_true]
      refine wpAny_bind ?_;refine wpAny_updateSeq PQ rfl (wpAny_bind (wpAny_letGo ?_));rw[nm]
      refine wpAny_pure ⟨plainId_quiet F.plain_max_loop _,ih (j+1) _ v _ (by omega) Ga (W.frame _ _ _ st' fun b hbf o e=>(Heap.get?_update_other _ _ (fun h:B=b=>hB (by rw[h];exact hbf))).trans e) (by simp only [argBest,hb,if_true];exact pv) (Heap.get?_update_self _ PQ rfl) fun v' h2 tk2 p2 k2=>?_⟩
      exact hR v' h2 tk2 p2 fun b o hbw hbS e=>k2 b o hbw hbS ((Heap.get?_update_other _ _ (Ne.symm hbS)).trans (k' b o hbw e))
    | false=>
      simp only [Bool.false_eq_true,if_false]
      refine wpAny_bind (wpAny_letGo ?_);rw[nm]
      refine wpAny_pure ⟨plainId_quiet F.plain_max_loop _,ih (j+1) _ v0 c (by omega) Ga st' (by simp only [argBest,hb,Bool.false_eq_true,if_false];exact p0) PQ fun v' h2 tk2 p2 k2=>?_⟩
      exact hR v' h2 tk2 p2 fun b o hbw hbS e=>k2 b o hbw hbS (k' b o hbw e)
theorem GU{d:Value}{dn:Str}(W:Walks pg w A.in1 I fp wr n P St)(bt:Nat->Nat->Bool)(hc:CmpOf pg w A.in1 .Gt P bt)(B:Addr)(hB:B ∉ fp){s:Shared}{c:Nat}(st:St 0 s.heap)
    (gB:s.heap.get? B=some { cls:=.type "list",dict:=none,data:=.seq #[] c,slots:=#[] })
    (hR:∀ v h' tk,(0<n->P (argBest bt (n-1)) v)->(n=0->v=d)->(∀ b o,b ∉ wr->b≠B->s.heap.get? b=some o->h'.get? b=some o)->R (.ok (.ret v)) { s with heap:=h',toks:=tk }) :
    codeAny (model pg w) A (.builtin "max.loop" ⟨[.ref I,.none,.ref B],[(dn,d)]⟩) R s:=by
  have hW:B ∉ wr:=fun h=>hB (W.sub _ h)
  have nm:(toString "max"++toString ".loop":String)="max.loop":=by decide
  refine codeAny_builtin F.entry_max_loop ?_;rw[Around.under_plainId F.plain_max_loop _]
  show wpAny _ A.in1 (seqItems? (.ref B) >>= _) _ _ s
  refine wpAny_bind (wpAny_seqItems gB rfl ?_);show wpAny _ A.in1 (tryCatch (pyNext (.ref I)) _ >>= _) _ _ s
  by_cases hn:0<n
  · refine wpAny_bind (wpAny_tryCatch (W.item 0 s _ _ hn st fun v h' tk pv st' k'=>?_))
    have PQ:=k' B _ hW gB
    show wpAny _ A.in1 (updateSeq B (fun _=>#[v,v]) >>= _) _ _ _
    refine wpAny_bind ?_;refine wpAny_updateSeq PQ rfl ?_;rw[nm]
    refine wpAny_pure ⟨plainId_quiet F.plain_max_loop _,Kg W bt hc B hB _ 0 _ v _ rfl hn (W.frame _ _ _ st' fun b hbf o e=>(Heap.get?_update_other _ _ (fun h:B=b=>hB (by rw[h];exact hbf))).trans e) pv (Heap.get?_update_self _ PQ rfl) fun v' h2 tk2 p2 k2=>?_⟩
    exact hR v' h2 tk2 (fun _=>p2) (fun z=>absurd hn (by omega)) fun b o hbw hbS e=>k2 b o hbw hbS ((Heap.get?_update_other _ _ (Ne.symm hbS)).trans (k' b o hbw e))
  · have h0:n=0:=by omega
    refine wpAny_bind (wpAny_tryCatch (W.done s _ _ (h0 ▸ st) fun h' tk k'=>?_))
    show wpAny _ A.in1 (rule _ >>= _) _ _ _
    refine wpAny_bind (wpAny_rule ?_)
    refine wpAny_pure ?_
    exact hR d _ tk (fun z=>absurd z hn) (fun _=>rfl) fun b o hbw _ e=>k' b o hbw e
end
section
variable {pg:Program} {w:World} {A:Around} {E:Value->Shared->Prop} {s:Shared}
theorem Kl(a d:Value):argsOk "max" ⟨[a],[(Str.ofString "default",d)]⟩:=by unfold argsOk;kernel_rfl
theorem J7{l:Addr}{xs:Array (Int×Tok)}{d:Value}{Q:Value->Shared->Prop}(hh:A.handled=none)(hl:s.heap.IsList l (intItems xs))
    (h:∀ v h' tk,(0<xs.size->(intItems xs)[argBest (fun i j=>decide (numAt xs i > numAt xs j)) (xs.size-1)]?=some v)->(xs.size=0->v=d)->(∀ b o,s.heap.get? b=some o->h'.get? b=some o)->Q v { s with heap:=h',toks:=tk }) :
    wpAny (model pg w) A (call (.builtin "max") [.ref l] [(Str.ofString "default",d)]) Q E s:=by
  have nm:(toString "max"++toString ".loop":String)="max.loop":=by decide
  refine kmk_tree F.kind_max F.plain_max F.entry_max (Kl _ _) ?_
  show wpAny _ A.in1 (Builtin.Builtins.bindParams "max" ["key","default"] 0 ⟨[],[(Str.ofString "default",d)]⟩ >>= _) _ _ s
  refine wpAny_bind (wpAny_of_eq (show Builtin.Builtins.bindParams "max" ["key","default"] 0 ⟨[],[(Str.ofString "default",d)]⟩=pure [none,some d] from rfl) ?_)
  refine wpAny_bind (wpAny_pure ?_)
  refine wpAny_bind (iter_intList hl fun s2 e st hfp hlI=>?_)
  subst e
  refine wpAny_bind (wpAny_newObj_type ?_)
  rw[nm]
  refine wpAny_pure ⟨plainId_quiet F.plain_max_loop _,GU (Walks.list (A:=A.in1) hh _ l hlI (intItems xs)) _ (CmpOf.ints_gt (numAt xs) (fun _ _=>intItems_at)) _ (fun hm=>Nat.lt_irrefl _ (hfp _ hm)) ?_ (Heap.get?_push_size _ rfl) fun v h' tk p1 p2 hk=>?_⟩
  · exact (Walks.list (prog:=pg) (w:=w) (A:=A.in1) hh _ l hlI (intItems xs)).frame _ _ _ st fun b _ o e=>Heap.get?_push_of_some _ e
  · refine h v h' tk (fun z=>by have:=p1 (by simpa [intItems] using z);simpa [intItems] using this) (fun z=>p2 (by simpa [intItems] using z)) fun b o e=>?_
    have e1:=Heap.get?_push_of_some { cls:=.type "list_iterator",data:=.fields #[.ref l,.int 0 0] } e
    exact hk b o (fun hm=>Nat.ne_of_lt (Heap.lt_size e) (List.mem_singleton.mp hm)) (Nat.ne_of_lt (Heap.lt_size e1)) (Heap.get?_push_of_some _ e1)
end
def Lq(ns:List Int)(d M:Int):Prop:=(ns=[]->M=d)/\(ns≠[]->M∈ns/\∀ a∈ns,a<=M)
def Vb(K:PySem.W.Frag)(te tk:TE):TE:=fun σ H Q=>te σ H fun x H1=>tk σ H1 fun z H2=>∃ (l:Addr) (ns:List Int) (d:Int),x=.ref l/\z=.int d/\fW K H2 l (ns.map V.int)/\∀ M,Lq ns d M->Q (.int M) H2
theorem NB{X:Cx}{e k:Expr}{te tk:TE}{p kp pos:Pos}(hc:X.calm=true)(hg:Gl X "max")(hm:X.mg "max"=none)(he:PE X e te)(hk:PE X k tk)(wX:starEach [e] X.env=[(false,eval e X.env)]:=by rfl):
    PE X (.Call (.Name "max" p) [e] [⟨some "default",k,kp⟩] pos) (Vb X.K te tk):=by
  intro pins s σ H Q I h
  refine wpAny_Call_Name_kw (sA I hg hm PyProof.Rows.boot_max ?_ (by decide) (by decide))
  refine callWith_kw (e:=e) (rest:=[]) (kws:=[⟨some "default",k,kp⟩]) (eM (aV he cD wX pos pins s σ H (fun vs H1=>match vs with | [x]=>tk σ H1 fun z H2=>∃ (l:Addr) (ns:List Int) (d:Int),x=.ref l/\z=.int d/\fW X.K H2 l (ns.map V.int)/\∀ M,Lq ns d M->Q (.int M) H2 | _=>False) I h) fun us s1 ⟨vs,H1,I1,r,q⟩=>?_) (by rw[wX];rfl) (by rw[wX];rfl)
  match vs,r,q with
  | [x],.cons (b:=u) rx .nil,q=>
    refine eM (NU (nm:=some "default") (kpos:=kp) hk P7 pos pins s1 σ H1 (fun zs H2=>match zs with | [z]=>∃ (l:Addr) (ns:List Int) (d:Int),x=.ref l/\z=.int d/\fW X.K H2 l (ns.map V.int)/\∀ M,Lq ns d M->Q (.int M) H2 | _=>False) I1 q) fun ks s2 ⟨zs,H2,I2,rz,q2⟩=>?_
    match zs,rz,q2 with
    | [z],.cons (b:=v) rz .nil,⟨l,ns,d,e1,e2,hl,q3⟩=>
      subst e1 e2
      cases (show u=Value.ref l from rx)
      obtain⟨td,rfl⟩:=rz
      obtain⟨aS,rv,pl,hz⟩:=I2.list hl
      have hi:IntsAre aS ns:=uL rv
      obtain⟨ys,e⟩:=hi.allInts.items
      have T2:ns=ys.toList.map (·.1):=by rw[← hi.numsOf,← nums_intItems,← e]
      have hlen:ns.length=ys.size:=by rw[T2,List.length_map,Array.length_toList]
      have W9:=pl.isList
      rw[e] at W9
      refine J7 (I2.ok.hd hc) W9 fun v h' tk hv hv0 hk=>?_
      by_cases h0:0<ys.size
      · obtain⟨t,rfl⟩:=intItems_at (hv h0)
        obtain⟨h1,h2⟩:=argBest_gt (numAt ys) (ys.size-1)
        refine⟨.int _,H2,I2.kept (t':=tk) hk,⟨t,rfl⟩,q3 _ ⟨fun z=>?_,fun _=>⟨?_,fun a ha=>?_⟩⟩⟩
        · rw[z] at hlen;simp at hlen;omega
        · rw[T2,numAt_eq];exact getD_mem (by rw[List.length_map,Array.length_toList];omega)
        · rw[T2] at ha
          obtain⟨j,hj,rfl⟩:=mem_getD ha
          rw[List.length_map,Array.length_toList] at hj
          rw[← numAt_eq];exact h2 j (by omega)
      · rw[hv0 (by omega)]
        refine⟨.int d,H2,I2.kept (t':=tk) hk,⟨td,rfl⟩,q3 _ ⟨fun _=>rfl,fun z=>absurd (List.length_pos_iff.mpr z) (by omega)⟩⟩
seal PE PT PW PA PS ju PG sg PI rA PO PJ
section
variable {X:Cx} {K:PySem.W.Frag} {E:St->XK}
def Pd(a b:Mv Tv):Mv Tv:=bo a fun x=>bo b fun y ρ P=>match x,y with
  | .lst l,.int d=>∃ ns:List Int,l=ns.map Tv.int/\∀ M,Lq ns d M->P (.ok (.int M)) ρ
  | _,_=>False
theorem uj{G:Hp}:∀ {ns:List Int} {xs:List V},aw K G (ns.map Tv.int) xs->xs=ns.map V.int
  | [],xs,h=>by rw[aP.mp h];rfl
  | y::ys,xs,h=>by
    obtain⟨v,r,rfl,a,b⟩:=ax.mp h
    rw[ao.mp a,uj b]
    rfl
theorem Aj{e k:Expr}{me mk:Mv Tv}{p kp pos:Pos}(hK:X.K=K)(hc:X.calm=true)(hg:Gl X "max")(hm:X.mg "max"=none)(he:PE X e (tV K E me))(hk:PE X k (tV K E mk))(wX:starEach [e] X.env=[(false,eval e X.env)]:=by rfl):
    PE X (.Call (.Name "max" p) [e] [⟨some "default",k,kp⟩] pos) (tV K E (Pd me mk)):=by
  subst hK
  refine (NB hc hg hm he hk wX).imp fun σ H Q ⟨p,ρ,er,h⟩=>⟨p,ρ,er,h.bind.mono fun v H1 ⟨x,p1,ρ1,g1,bK,r1,h1⟩=>⟨p1,ρ1,bK,h1.bind.mono fun u H2 ⟨y,p2,ρ2,g2,er2,r2,P,a,b,_⟩=>?_⟩⟩
  cases x with
  | lst l=>
    cases y with
    | int d=>
      obtain⟨ns,el,a⟩:=a
      subst el
      obtain⟨c,zs,rfl,s1,q1⟩:=ba.mp (r1.up g2.same)
      rw[uj q1] at s1
      exact⟨c,ns,d,rfl,ao.mp r2,fW.of (er2.gK.sub 0 _ _ s1),fun M hM=>b _ ρ2 (a M hM) _ p2 H2 .refl er2 (ao.mpr rfl)⟩
    | _=>exact a.elim
  | _=>exact a.elim
theorem Ao.len{C:Addr}{fs:List Str}{W:List Tv->(List Tv->Prop)->Prop}{n:Nat}(h:∀ ts P,W ts P->ts.length+1=n):∀ vs H Q E,Ao K C fs W vs H Q E->vs.length=n:=fun vs H Q E ⟨x,dx,us,p,ts,P,e,_,_,_,_,r,w,_⟩=>by
  rw[e,List.length_cons,r.len];exact h _ _ w
theorem qE{C x dx:Addr}{fs:List Str}{p:iL}{H:Hp}{Q:VK}{P:List Tv->Prop}{l:List Tv}{zs:List V}{g:List (Str×V)}(u:d8 H p)(e:p 2=i8 x dx C g)(h3:∀ j,3<=j->p j=iN)
    (k:∀ l,P l->∀ zs p' H',da p p'->d8 H' p'->p' 2=i8 x dx C (fs.zip zs)->(∀ j,3<=j->p' j=iN)->fs.length=l.length->aw K (p' 0) l zs->Q .non H') (hl:P l) (hf:fs.length=l.length) (r:aw K (p 0) l zs):Q .non (upd H x (.ins C dx (fs.zip zs))):=
  k l hl zs _ _ ⟨by rw[aj (by decide)];exact bP.refl _,aj (by decide)⟩ (Im u e) az (fun j hj=>by rw[aj (by omega)];exact h3 j hj) hf (by rw[aj (by decide)];exact r)
end
end L2
namespace L2
open PySem PySem.Spec PyProof.Rows
section
variable {X:Cx} {CX:wQ} {k:Nat} {f:Addr} {fd:FuncData} {ps:List Str} {sp:Sp} {E:St->XK} {x:Str} {p pos:Pos}
theorem Jx(F:aQ X.prog X.w X.K X.mg X.base CX k f fd ps sp)(hr:eZ k X.A)(hg:Gl X x)(hm:X.mg x=some (.ref f))(hk:PySem.W.keepIn X.K (.ref f)=true)(hb:Binds X.K fd ps [])(hx:gA CX X E)
    (qc:(x==("__debug__":Str))=false:=by decide):PE X (.Call (.Name x p) [] [] pos) (Mu sp [] E OS):=by
  intro pins s σ H Q I h
  refine wpAny_Call_Name_kw (nM I hg hm ?_ qc)
  exact PySem.W.callWith_K0 I.kIn hk (xV (us:=[]) F hr hb .nil hx I .nil h)
end
seal PE PT PW PA PS ju PG sg PI rA PO PJ
section
variable {X:Cx} {K:PySem.W.Frag} {E:St->XK}
theorem OY{C:Ct}{CX:wQ}{k:Nat}{f:Addr}{fd:FuncData}{ps:List Str}{x:Str}{p pos:Pos}(hK:X.K=K)(F:aQ X.prog X.w X.K X.mg X.base CX k f fd ps (sN K C))(hr:eZ k X.A)(hg:Gl X x)(hm:X.mg x=some (.ref f))(hk:PySem.W.keepIn X.K (.ref f)=true)(hb:Binds X.K fd ps [])(hx:gA CX X E)
    (qc:(x==("__debug__":Str))=false:=by decide):PE X (.Call (.Name x p) [] [] pos) (tV K E (bB C [])):=
  (Jx F hr hg hm hk hb hx qc).imp fun σ H Q ⟨p,ρ,er,h⟩=>BN (ts:=[]) er aw.nil h
def WG(i:Nat)(m:Mv Tv):Mv Tv:=bo m fun t ρ P=>match t,ρ[i]? with
  | .str z,some (.ow _ l)=>∃ ys:List Str,l=ys.map Tv.str/\P (.ok (.bl (ys.any (·==z)))) ρ
  | _,_=>False
theorem Vu{i:Nat}{x:Str}{a:Expr}{m:Mv Tv}{xp pos:Pos}(hK:X.K=K)(hN:X.N[i]?=some x)(hv:Hw X.env.scope x)(ha:PE X a (tV K E m))(hm:behindInMarks .In (.Name x xp)=false:=by with_unfolding_all rfl)
    (hd:(x==("__debug__":Str))=false:=by decide) (qF:(x==("__classdict__":Str))=false:=by decide):PE X (.Compare a [.In] [.Name x xp] pos) (tV K E (WG i m)):=by
  subst hK
  refine (Ik Px ha (aW hN hv hd qF) hm).imp fun σ H Q ⟨p,ρ,er,h⟩=>⟨p,ρ,er,h.bind.mono fun v H1 ⟨t,p1,ρ1,g1,bK,r1,P,q,b,_⟩=>?_⟩
  dsimp only at q
  split at q
  · rename_i z D l e
    obtain⟨ys,el,q⟩:=q
    subst el
    obtain⟨xs,e1,e2,e3,r⟩:=bK.own e
    rw[hV r] at e2
    exact⟨.ref D,e1,z,D,ys,aC.mp r1,rfl,.inl (fW.of e2),b _ ρ1 q _ p1 H1 .refl bK (aG.mpr rfl)⟩
  · exact q.elim
end
end L2
namespace L2
open PySem PySem.Spec PyProof.Rows
section
variable {K:PySem.W.Frag} {H H':Hp} {p p':iL} {i:Nat}
def rR(p:iL)(i:Nat)(H:Hp):Hp:=fun b=>match p 0 b,p i b with | none,none=>H b | _,_=>none
theorem jG(u:d8 H p){b:Addr}{o:HO}:rR p i H b=some o ↔ p 0 b=none/\p i b=none/\H b=some o:=by
  unfold rR
  cases a:p 0 b <;> cases c:p i b <;> simp
theorem d8.tri(u:d8 H p)(hi:i≠0):d8 H (three (p 0) (rR p i H) (p i)):=by
  refine⟨fun b o=>⟨fun e=>?_,fun⟨j,e⟩=>?_⟩,fun j k b n=>?_⟩
  · cases a:p 0 b with
    | some o'=>
      have:=(u.mem b o').mpr ⟨0,a⟩
      rw[e] at this
      cases this
      exact⟨0,a⟩
    | none=>
      cases c:p i b with
      | some o'=>
        have:=(u.mem b o').mpr ⟨i,c⟩
        rw[e] at this
        cases this
        exact⟨2,c⟩
      | none=>exact⟨1,(jG u).mpr ⟨a,c,e⟩⟩
  · match j,e with
    | 0,e=>exact (u.mem b o).mpr ⟨0,e⟩
    | 1,e=>exact ((jG u).mp e).2.2
    | 2,e=>exact (u.mem b o).mpr ⟨i,e⟩
    | _+3,e=>cases e
  · have Wg:p 0 b=none\/p i b=none:=u.ap 0 i b (Ne.symm hi)
    have h1:rR p i H b=none\/(p 0 b=none/\p i b=none):=by
      cases r:rR p i H b with
      | none=>exact .inl rfl
      | some o=>exact .inr ⟨((jG u).mp r).1,((jG u).mp r).2.1⟩
    match j,k,n with
    | 0,0,n=>exact absurd rfl n
    | 1,1,n=>exact absurd rfl n
    | 2,2,n=>exact absurd rfl n
    | 0,1,_=>exact h1.elim .inr fun h=>.inl h.1
    | 1,0,_=>exact h1.elim .inl fun h=>.inr h.1
    | 0,2,_=>exact Wg
    | 2,0,_=>exact Wg.symm
    | 1,2,_=>exact h1.elim .inl fun h=>.inr h.2
    | 2,1,_=>exact h1.elim .inr fun h=>.inl h.2
    | _+3,_,_=>exact .inl rfl
    | _,_+3,_=>exact .inr rfl
theorem d8.triBack(u:d8 H p)(hi:i≠0)(v:d8 H' p')(h1:p' 1=rR p i H)(h3:∀ j,3<=j->p' j=iN):d8 H' (a9 (a9 p 0 (p' 0)) i (p' 2)):=by
  have yi:a9 (a9 p 0 (p' 0)) i (p' 2) 0=p' 0:=by rw[aj (Ne.symm hi),az]
  have Kh:a9 (a9 p 0 (p' 0)) i (p' 2) i=p' 2:=az
  have Hu:∀ j,j≠0->j≠i->a9 (a9 p 0 (p' 0)) i (p' 2) j=p j:=fun j a b=>by rw[aj b,aj a]
  have oth:∀ j b o,j≠0->j≠i->p j b=some o->p' 1 b=some o:=fun j b o a c e=>by
    rw[h1]
    refine (jG u).mpr ⟨?_,?_,(u.mem b o).mpr ⟨j,e⟩⟩
    · exact u.other e (Ne.symm a)
    · exact u.other e (Ne.symm c)
  refine⟨fun b o=>⟨fun e=>?_,fun⟨j,e⟩=>?_⟩,fun j k b n=>?_⟩
  · obtain⟨j,e⟩:=(v.mem b o).mp e
    match j,e with
    | 0,e=>exact⟨0,by rw[yi];exact e⟩
    | 1,e=>
      rw[h1] at e
      obtain⟨a,c,d⟩:=(jG u).mp e
      obtain⟨j,e⟩:=(u.mem b o).mp d
      have j0:j≠0:=fun z=>by rw[z,a] at e;cases e
      have ji:j≠i:=fun z=>by rw[z,c] at e;cases e
      exact⟨j,by rw[Hu j j0 ji];exact e⟩
    | 2,e=>exact⟨i,by rw[Kh];exact e⟩
    | j+3,e=>rw[h3 (j+3) (by omega)] at e;cases e
  · by_cases j0:j=0
    · subst j0;rw[yi] at e;exact (v.mem b o).mpr ⟨0,e⟩
    · by_cases ji:j=i
      · subst ji;rw[Kh] at e;exact (v.mem b o).mpr ⟨2,e⟩
      · rw[Hu j j0 ji] at e;exact (v.mem b o).mpr ⟨1,oth j b o j0 ji e⟩
  · have nn:∀ j b,j≠0->j≠i->p j b=none\/(p' 0 b=none/\p' 2 b=none):=fun j b a c=>by
      cases e:p j b with
      | none=>exact .inl rfl
      | some o=>
        have:=oth j b o a c e
        exact .inr ⟨v.other this (by decide),v.other this (by decide)⟩
    have d02:p' 0 b=none\/p' 2 b=none:=v.ap 0 2 b (by decide)
    by_cases j0:j=0
    · subst j0
      by_cases ki:k=i
      · subst ki;rw[yi,Kh];exact d02
      · rw[yi,Hu k (Ne.symm n) ki];exact (nn k b (Ne.symm n) ki).elim .inr fun h=>.inl h.1
    · by_cases ji:j=i
      · subst ji
        by_cases k0:k=0
        · subst k0;rw[yi,Kh];exact d02.symm
        · rw[Kh,Hu k k0 (Ne.symm n)];exact (nn k b k0 (Ne.symm n)).elim .inr fun h=>.inl h.2
      · by_cases k0:k=0
        · subst k0;rw[yi,Hu j j0 ji];exact (nn j b j0 ji).elim .inl fun h=>.inr h.1
        · by_cases ki:k=i
          · subst ki;rw[Kh,Hu j j0 ji];exact (nn j b j0 ji).elim .inl fun h=>.inr h.2
          · rw[Hu j j0 ji,Hu k k0 ki];exact u.ap j k b n
end
abbrev Cm:=List Tv->List Tv->(yh Tv->List Tv->Prop)->Prop
def yf(K:PySem.W.Frag)(C:Addr)(fs:List Str)(c:Cm):Sp:=fun vs H Q E=>∃ x dx us p l ts P zs,vs=.ref x::us/\dx≠x/\d8 H p/\p 2=i8 x dx C (fs.zip zs)/\(∀ j,3<=j->p j=iN)/\fs.length=l.length/\aw K (p 0) l zs/\aw K (p 0) ts us/\c l ts P /\
  (∀ t l',P (.ok t) l'->∀ v pG p' H',da p p'->d8 H' p'->p' 2=i8 x dx C (fs.zip pG)->(∀ j,3<=j->p' j=iN)->fs.length=l'.length->aw K (p' 0) l' pG->Rep K (p' 0) t v->Q v H') /\
  (∀ e l',P (.er e) l'->∀ pG p' H',da p p'->d8 H' p'->p' 2=i8 x dx C (fs.zip pG)->(∀ j,3<=j->p' j=iN)->fs.length=l'.length->aw K (p' 0) l' pG->E (.ref e) none H')
def lr(x dx C:Addr)(fs:List Str)(P:yh Tv->List Tv->Prop):Fl->En->Prop:=fun f ρ=>∃ l',ρ[0]?=some (.oo x dx C fs l')/\match f with
  | .rk t=>P (.ok t) l'
  | .nx=>P (.ok .non) l'
  | .er c=>P (.er c) l'
  | _=>False
section
variable {X:Cx} {K:PySem.W.Frag} {E:St->XK}
theorem KU{x dx C:Addr}{fs:List Str}{l':List Tv}{p p':iL}{H':Hp}{σ':St}{ρ':En}(g:da p p')(e:ER K p' H' σ' ρ')(h:ρ'[0]?=some (.oo x dx C fs l')):
    ∃ pG p2,da p p2/\d8 H' p2/\p2 2=i8 x dx C (fs.zip pG)/\(∀ j,3<=j->p2 j=iN)/\fs.length=l'.length/\aw K (p2 0) l' pG/\∀ t v,Rep K (p' 0) t v->Rep K (p2 0) t v:=by
  obtain⟨zs,_,_,_,e3,_,f,r⟩:=e.ownO h
  obtain⟨u2,s2⟩:=e.gK.gather 2 (by decide) (by decide)
  exact⟨zs,three (uo H' (p' 1) (p' 2)) (p' 1) (p' 2),⟨g.same.trans s2,g.fr⟩,u2,e3,yV,f,r.up s2,fun t v q=>q.up s2⟩
theorem Ki{x dx C:Addr}{fs:List Str}{p:iL}{H:Hp}{N:List Str}{l ts:List Tv}{zs us:List V}(u:d8 H p)(ne:dx≠x)(e2:p 2=i8 x dx C (fs.zip zs))(h3:∀ j,3<=j->p j=iN)(hf:fs.length=l.length)(rl:aw K (p 0) l zs)(r:aw K (p 0) ts us)(hl:ts.length+1<=N.length):
    ER K p H (start N (.ref x::us)) (.oo x dx C fs l::(ts.map Sl.va++List.replicate (N.length-(ts.length+1)) Sl.un)):=by
  have Vg:=r.len
  refine⟨u,?_,fun i s e=>?_,fun i hi=>h3 _ (by simp at hi;omega)⟩
  · unfold start
    simp only [List.length_append,List.length_map,List.length_replicate,List.length_cons,Vg]
    omega
  · cases i with
    | zero=>
      cases e
      exact⟨zs,rfl,e2,ne,hf,rl⟩
    | succ i=>
      rw[List.getElem?_cons_succ] at e
      rw[h3 (i+1+2) (by omega)]
      have es:(start N (.ref x::us))[i+1]?=(us.map some++List.replicate (N.length-(us.length+1)) none)[i]?:=by unfold start;rw[List.map_cons,List.cons_append,List.getElem?_cons_succ,List.length_cons]
      rw[es]
      by_cases hi:i<ts.length
      · rw[List.getElem?_append_left (by simpa using hi),List.getElem?_map] at e
        obtain⟨t,ht,rfl⟩:=Option.map_eq_some_iff.mp e
        obtain⟨v,hv,q⟩:=r.get ht
        refine⟨rfl,v,?_,q⟩
        rw[List.getElem?_append_left (by simpa [Vg] using hi),List.getElem?_map,hv]
        rfl
      · rw[List.getElem?_append_right (by simpa using hi),List.getElem?_replicate] at e
        split at e
        · cases e;rfl
        · cases e
theorem u4{P:Program}{w:World}{mg:Str->Option Value}{base:Heap}{x qual:Str}{st:Stmt}{f:Addr}{fd:FuncData}{N ps:List Str}{k:Nat}{C:Addr}{fs:List Str}{c:Cm}(F:sk K x qual st f fd)(S:aA N ps (ak st))(b:Sv)
    (hl:∀ l ts Q,c l ts Q->ts.length+1=ps.length)
    (hC:∀ l ts Q,c l ts Q->fs.length=l.length->∀ y dy,b (.oo y dy C fs l::(ts.map Sl.va++List.replicate (N.length-(ts.length+1)) Sl.un)) (lr y dy C fs Q))
    (hb:∀ (c9:Value) (A:Around) (outer:List Env) (s:Shared) (H:Hp) (E:XK),eZ k (A.deeper (envOfC qual (ak st) s.heap.objs.size f c9))->ju (nG (iP P w) P w K mg base N qual (ak st) f c9 A outer s H E) (gE st) (tS K (fun _=>E) b)) :
    aQ P w K mg base (iP P w) (k+1) f fd ps (yf K C fs c):=by
  have hps:ps.length<=N.length:=by have:=congrArg List.length S.pre;rw[List.length_take] at this;omega
  refine F.okX S (fun vs H Q E ⟨y,dy,us,p,l,ts,P,zs,e,_,_,_,_,_,_,r,cc,_⟩=>by rw[e,List.length_cons,r.len];exact hl l ts _ cc) fun c9 A outer s H vs Q E hr ⟨y,dy,us,p,l,ts,P',zs,e,ne,u,e2,h3,hf,rl,r,cc,cQ,her⟩=>⟨_,hb c9 A outer s H E hr,?_⟩
  subst e
  have Yx:=hl l ts _ cc
  refine⟨p,_,_,Ki u ne e2 h3 hf rl r (by omega),hC l ts _ cc hf y dy,⟨fun ρ' q σ' p' H' g e=>?_,fun r' ρ' q=>?_,fun ρ' q=>?_,fun ρ' q=>?_,fun c0 ρ' q σ' p' H' g e=>?_,fun t ρ' q v σ' p' H' g e rv=>?_⟩⟩
  · obtain⟨l',h0,q⟩:=q
    obtain⟨pG,p2,g2,u2,i2,j3,f2,rz,up⟩:=KU g e h0
    exact cQ _ _ q _ pG p2 H' g2 u2 i2 j3 f2 rz (d7.mpr rfl)
  · obtain⟨_,_,q⟩:=q;exact q.elim
  · obtain⟨_,_,q⟩:=q;exact q.elim
  · obtain⟨_,_,q⟩:=q;exact q.elim
  · obtain⟨l',h0,q⟩:=q
    obtain⟨pG,p2,g2,u2,i2,j3,f2,rz,up⟩:=KU g e h0
    exact her _ _ q pG p2 H' g2 u2 i2 j3 f2 rz
  · obtain⟨l',h0,q⟩:=q
    obtain⟨pG,p2,g2,u2,i2,j3,f2,rz,up⟩:=KU g e h0
    exact cQ _ _ q v pG p2 H' g2 u2 i2 j3 f2 rz (up _ _ rv)
end
end L2
namespace L2
open PySem PySem.Spec PyProof.Rows
section
variable {K:PySem.W.Frag} {E:St->XK} {p p':iL} {H H':Hp} {σ:St} {ρ:En} {i:Nat} {x dx C:Addr} {fs:List Str} {l l':List Tv}
theorem ER.handed(er:ER K p H σ ρ)(e:ρ[i]?=some (.oo x dx C fs l)){pG:List V}(s:bP (p 0) (p' 0))(u:d8 H' p')(h1:p' 1=rR p (i+2) H)(i2:p' 2=i8 x dx C (fs.zip pG))(h3:∀ j,3<=j->p' j=iN)(hf:fs.length=l'.length)(rz:aw K (p' 0) l' pG):
    ER K (a9 (a9 p 0 (p' 0)) (i+2) (p' 2)) H' σ (ρ.set i (.oo x dx C fs l'))/\da p (a9 (a9 p 0 (p' 0)) (i+2) (p' 2))/\a9 (a9 p 0 (p' 0)) (i+2) (p' 2) 0=p' 0:=by
  obtain⟨zs,e1,_,_,_,ne,_,_⟩:=er.ownO e
  have hi:i<ρ.length:=(List.getElem?_eq_some_iff.mp e).1
  have e0:a9 (a9 p 0 (p' 0)) (i+2) (p' 2) 0=p' 0:=by rw[aj (by omega),az]
  refine⟨⟨er.gK.triBack (by omega) u h1 h3,by rw[List.length_set];exact er.len,fun j s' q=>?_,fun j hj=>?_⟩,⟨by rw[e0];exact s,by rw[aj (by omega),aj (by decide)]⟩,e0⟩
  · rw[e0]
    by_cases z:j=i
    · subst z
      rw[List.getElem?_set_self hi] at q
      cases q
      rw[e1,az]
      exact⟨pG,rfl,i2,ne,hf,rz⟩
    · rw[List.getElem?_set_ne (Ne.symm z)] at q
      rw[aj (by omega),aj (by omega)]
      exact (er.slot j s' q).up s
  · rw[List.length_set] at hj
    rw[aj (by omega),aj (by omega)];exact er.out j hj
def KH(i:Nat)(x dx C:Addr)(fs:List Str)(ρ:En)(P:yh Tv->En->Prop):yh Tv->List Tv->Prop:=fun a l2=>match a with | .ok t=>P (.ok t) (ρ.set i (.oo x dx C fs l2)) | .er e=>P (.er e) (ρ.set i (.oo x dx C fs l2))
theorem yT{c:Cm}{ts:List Tv}{vs:List V}{Q:VK}(er:ER K p H σ ρ)(e:ρ[i]?=some (.oo x dx C fs l))(r:aw K (p 0) ts vs)(h:tA K E (Rep K) (fun ρ P=>c l ts (KH i x dx C fs ρ P)) p ρ σ Q):yf K C fs c (.ref x::vs) H Q (E σ):=by
  obtain⟨P,a,b,ce⟩:=h
  obtain⟨zs,e1,_,_,e3,ne,hf,rl⟩:=er.ownO e
  refine⟨x,dx,vs,three (p 0) (rR p (i+2) H) (p (i+2)),l,ts,_,zs,rfl,ne,er.gK.tri (by omega),e3,yV,hf,rl,r,a,fun t l2 q v pG p' H' g u i2 h3 f2 rz rv=>?_,fun c0 l2 q pG p' H' g u i2 h3 f2 rz=>?_⟩
  · obtain⟨er2,g2,e0⟩:=er.handed e g.same u g.fr i2 h3 f2 rz
    exact b t _ q v _ H' g2 er2 (by rw[e0];exact rv)
  · obtain⟨er2,g2,e0⟩:=er.handed e g.same u g.fr i2 h3 f2 rz
    exact ce c0 _ q _ H' g2 er2
end
section
variable {K:PySem.W.Frag} {E:St->XK} {G:Hp} {p:iL} {H:Hp} {σ:St} {ρ:En} {i:Nat} {x dx C:Addr} {fs:List Str} {l l':List Tv}
def Kf:List Str->List Tv->Str->Tv->Option (List Tv)
  | g::fs,u::l,f,t=>if g=f then some (t::l) else (Kf fs l f t).map (u::·)
  | _,_,_,_=>none
theorem D8{f:Str}{t:Tv}{v:V}(rv:Rep K G t v):∀ {fs:List Str} {l l':List Tv} {zs:List V},aw K G l zs->Kf fs l f t=some l'->∃ pG,jZ f v (fs.zip zs)=fs.zip pG/\aw K G l' pG/\l'.length=l.length
  | [],_,_,_,_,e=>by cases e
  | _::_,[],_,_,_,e=>by cases e
  | g::fs,u::l,l',zs,r,e=>by
    obtain⟨z,zr,rfl,a,b⟩:=ax.mp r
    unfold Kf at e
    rw[List.zip_cons_cons]
    by_cases h:g=f
    · rw[if_pos h] at e
      cases e
      refine⟨v::zr,?_,aw.cons rv b,rfl⟩
      rw[List.zip_cons_cons]
      unfold jZ
      simp [h]
    · rw[if_neg h] at e
      obtain⟨l2,e2,rfl⟩:=Option.map_eq_some_iff.mp e
      obtain⟨pG,q1,q2,q3⟩:=D8 rv b e2
      refine⟨z::pG,?_,aw.cons a q2,by rw[List.length_cons,List.length_cons,q3]⟩
      rw[List.zip_cons_cons,← q1]
      conv=>lhs;unfold jZ
      have:(g==f)=false:=by simpa using h
      simp [this,h]
theorem ER.putO(er:ER K p H σ ρ)(e:ρ[i]?=some (.oo x dx C fs l)){pG:List V}(hf:fs.length=l'.length)(rz:aw K (p 0) l' pG):
    ER K (a9 p (i+2) (i8 x dx C (fs.zip pG))) (upd H x (.ins C dx (fs.zip pG))) σ (ρ.set i (.oo x dx C fs l'))/\da p (a9 p (i+2) (i8 x dx C (fs.zip pG))):=by
  obtain⟨zs,e1,_,_,e3,ne,_,_⟩:=er.ownO e
  have hi:i<ρ.length:=(List.getElem?_eq_some_iff.mp e).1
  have hx:p (i+2) x=some (.ins C dx (fs.zip zs)):=by rw[e3];exact hX
  have u:=er.gK.put (i:=i+2) (a:=x) (fun j hj=>er.gK.other hx hj) (.ins C dx (fs.zip pG))
  have eo:upd (p (i+2)) x (.ins C dx (fs.zip pG))=i8 x dx C (fs.zip pG):=by rw[e3];unfold i8;exact iK
  rw[eo] at u
  have e0:a9 p (i+2) (i8 x dx C (fs.zip pG)) 0=p 0:=aj (by omega)
  refine⟨⟨u,by rw[List.length_set];exact er.len,fun j s q=>?_,fun j hj=>?_⟩,⟨by rw[e0];exact bP.refl _,aj (by omega)⟩⟩
  · rw[e0]
    by_cases z:j=i
    · subst z
      rw[List.getElem?_set_self hi] at q
      cases q
      rw[e1,az]
      exact⟨pG,rfl,rfl,ne,hf,rz⟩
    · rw[List.getElem?_set_ne (Ne.symm z)] at q
      rw[aj (by omega)]
      exact er.slot j s q
  · rw[List.length_set] at hj
    rw[aj (by omega)];exact er.out j hj
end
section
variable {X:Cx} {K:PySem.W.Frag} {E:St->XK}
theorem d8.ren{H:Hp}{q:iL}(u:d8 H q){a b:Nat}(ha:q a=iN)(n:a≠b):d8 H (a9 (a9 q b iN) a (q b)):=by
  have Hu:∀ j,j≠a->j≠b->a9 (a9 q b iN) a (q b) j=q j:=fun j h1 h2=>by rw[aj h1,aj h2]
  have Xw:a9 (a9 q b iN) a (q b) b=iN:=by rw[aj (Ne.symm n),az]
  refine⟨fun c o=>⟨fun e=>?_,fun⟨j,e⟩=>?_⟩,fun j k c m=>?_⟩
  · obtain⟨j,e⟩:=(u.mem c o).mp e
    by_cases jb:j=b
    · exact⟨a,by rw[az,← jb];exact e⟩
    · have ja:j≠a:=fun z=>by rw[z,ha] at e;cases e
      exact⟨j,by rw[Hu j ja jb];exact e⟩
  · by_cases ja:j=a
    · rw[ja,az] at e;exact (u.mem c o).mpr ⟨b,e⟩
    · by_cases jb:j=b
      · rw[jb,Xw] at e;cases e
      · rw[Hu j ja jb] at e;exact (u.mem c o).mpr ⟨j,e⟩
  · by_cases ja:j=a
    · by_cases kb:k=b
      · rw[kb,Xw];exact .inr rfl
      · rw[ja,az,Hu k (fun z=>m (ja.trans z.symm)) kb];exact u.ap b k c (Ne.symm kb)
    · by_cases jb:j=b
      · rw[jb,Xw];exact .inl rfl
      · by_cases ka:k=a
        · rw[ka,az,Hu j ja jb];exact u.ap j b c jb
        · by_cases kb:k=b
          · rw[kb,Xw];exact .inr rfl
          · rw[Hu j ja jb,Hu k ka kb];exact u.ap j k c m
theorem GO{H:Hp}{p:iL}{J:Nat}(h:p J=iN):rR p J H=dP p H:=by
  funext b
  unfold rR dP
  rw[h]
  cases p 0 b <;> rfl
theorem d8.fresh1{H H':Hp}{p p':iL}{i J:Nat}{A:Hp}(u:d8 H p)(hJ:p J=iN)(J0:J≠0)(Ji:J≠i+2)(v:d8 H' p')(h1:p' 1=dP p H)(e2:p' 2=A)(h3:∀ j,3<=j->p' j=iN):d8 H' (a9 (L2.mv (a9 p 0 (p' 0)) (i+2)) (i+2) A):=by
  have u1:=u.triBack (i:=J) J0 v (by rw[GO hJ];exact h1) h3
  have u2:=u1.mv (j:=i+2) (by omega)
  have u3:=u2.ren (a:=i+2) (b:=J) tT (Ne.symm Ji)
  have e:a9 (a9 (L2.mv (a9 (a9 p 0 (p' 0)) J (p' 2)) (i+2)) J iN) (i+2) (L2.mv (a9 (a9 p 0 (p' 0)) J (p' 2)) (i+2) J)=a9 (L2.mv (a9 p 0 (p' 0)) (i+2)) (i+2) A:=by
    funext j
    by_cases a:j=i+2
    · rw[a,az,az,lK J0 Ji,az,e2]
    · rw[aj a,aj (A:=A) a]
      by_cases b:j=J
      · rw[b,az,lK J0 Ji,aj J0,hJ]
      · rw[aj b]
        by_cases c:j=0
        · rw[c,fO (by omega),fO (by omega),aj (Ne.symm J0),aj (i:=J) (Ne.symm Ji)]
        · rw[lK c a,lK c a,aj b]
  rw[e] at u3
  exact u3
theorem L6{p p':iL}{H H':Hp}{σ:St}{ρ:En}{i:Nat}{x dx C:Addr}{fs:List Str}{l:List Tv}{zs:List V}(h:ER K p H σ ρ)(s:bP (p 0) (p' 0))(hi:i<ρ.length)(u:d8 H' (a9 (mv (a9 p 0 (p' 0)) (i+2)) (i+2) (i8 x dx C (fs.zip zs))))(ne:dx≠x)(hf:fs.length=l.length)(r:aw K (p' 0) l zs):
    ER K (a9 (mv (a9 p 0 (p' 0)) (i+2)) (i+2) (i8 x dx C (fs.zip zs))) H' (σ.set i (some (.ref x))) (ρ.set i (.oo x dx C fs l))/\da p (a9 (mv (a9 p 0 (p' 0)) (i+2)) (i+2) (i8 x dx C (fs.zip zs))):=by
  have e0:a9 (mv (a9 p 0 (p' 0)) (i+2)) (i+2) (i8 x dx C (fs.zip zs)) 0=qW (p' 0) (p (i+2)):=by rw[aj (by omega),fO (by omega),az,aj (by omega)]
  have s0:bP (p' 0) (qW (p' 0) (p (i+2))):=bP.gK
  refine⟨⟨u,by rw[List.length_set,List.length_set];exact h.len,fun j s' e=>?_,fun j hj=>?_⟩,⟨by rw[e0];exact s.trans s0,by rw[aj (by omega),lK (by decide) (by omega),aj (by decide)]⟩⟩
  · rw[e0]
    by_cases q:j=i
    · subst q
      rw[List.getElem?_set_self hi] at e
      cases e
      rw[List.getElem?_set_self (by rw[h.len];exact hi),az]
      exact⟨zs,rfl,rfl,ne,hf,r.up s0⟩
    · rw[List.getElem?_set_ne (Ne.symm q)] at e
      rw[List.getElem?_set_ne (Ne.symm q),aj (by omega),lK (by omega) (by omega),aj (by omega)]
      exact (h.slot j s' e).up (s.trans s0)
  · rw[List.length_set] at hj
    rw[aj (by omega),lK (by omega) (by omega),aj (by omega)];exact h.out j hj
def PU(i:Nat)(C:Addr)(fs:List Str)(W:List Tv->(List Tv->Prop)->Prop)(ms:List (Mv Tv)):Sv:=F' (fF ms) fun xs ρ P=>W xs fun l=>∀ x dx,P .nx (ρ.set i (.oo x dx C fs l))
theorem NK{i:Nat}{y:Str}{C fi:Addr}{fd:FuncData}{ps:List Str}{k:Nat}{fs:List Str}{W:List Tv->(List Tv->Prop)->Prop}{x:Str}{p pos pos' US:Pos}{e:Expr}{es:List Expr}{ms:List (Mv Tv)}(hN:X.N.Nodup)(hi:X.N[i]?=some y)(hl:Loc X.env.scope y)(hK:X.K=K)(M:Mk K C fi)
    (F:aQ X.prog X.w X.K X.mg X.base yI k fi fd ps (Ao K C fs W)) (hr:eZ (k+1) X.A) (hg:Gl X x) (hm:X.mg x=some (.ref C)) (hb:Binds X.K fd ps []) (ha:PA X (e::es) (lh K E ms))
    (qc:(x==("__debug__":Str))=false:=by decide) (he:starEach (e::es) X.env=(false,eval e X.env)::starEach es X.env:=by rfl) (qz:(backTo pos (starEach es X.env)).any (·.1)=false:=by rfl)
    (hs:swapsWith (.Call (.Name x p) (e::es) [] pos) (some (.Name y pos')) US.line X.env=pure false:=by rfl) (hf:X.fn y=true\/X.env.scope.names.lookup y=some .local:=by first | exact .inl rfl | exact .inr rfl | assumption) :
    PS X (.Assign [.Name y pos'] (.Call (.Name x p) (e::es) [] pos) US) (tS K E (PU i C fs W ms)):=fun pins s σ H D I ⟨q0,ρ,P,er,a,h⟩=>by
  subst hK
  refine nY hN hi hl (Io M F hr hg hm hb .nil DP ha.toS qc he qz) hs hf pins s σ H D I ⟨q0,ρ,er,(gC (H:=H) a h).mono fun vs H1 ⟨xs,p1,ρ1,g1,bK,r1,q,h1⟩=>fun x dx hx hdx ne=>?_⟩
  have hlen:i<ρ1.length:=by
    have h0:i<X.N.length:=(List.getElem?_eq_some_iff.mp hi).1
    rw[← bK.len,I.len];exact h0
  rw[List.append_nil]
  have u1:=(bK.gK.two).alloc hdx 2 (.own x)
  have u2:=u1.alloc (a:=x) (by rw[aI (Ne.symm ne)];exact hx) 2 (.ins C dx [])
  refine⟨x,dx,vs,_,xs,_,rfl,ne,u2,?_,fun j hj=>?_,?_,q,fun l q zs p' H' g u e2 h3 hl rz=>⟨rfl,?_⟩⟩
  · rw[az,az];rfl
  · rw[aj (by omega),aj (by omega)];exact jD j (by omega)
  · rw[aj (by decide),aj (by decide)];exact r1
  · have g0:bP (p1 0) (p' 0):=by
      have:=g.same
      rw[aj (by decide),aj (by decide)] at this
      exact this
    have f1:p' 1=dP p1 H1:=by
      have:=g.fr
      rw[aj (by decide),aj (by decide)] at this
      exact this
    have un:=bK.gK.fresh1 (i:=i) (J:=ρ1.length+2) (bK.out _ (Nat.le_refl _)) (by omega) (by omega) u f1 e2 h3
    obtain⟨e5,g5⟩:=L6 (l:=l) bK g0 hlen un ne hl rz
    exact h1.nx _ (q x dx) _ _ _ g5 e5
end
seal PE PT PW PA PS ju PG sg PI rA PO PJ
section
variable {X:Cx} {K:PySem.W.Frag} {E:St->XK}
def yB(D:Addr->Prop)(i:Nat)(f:Str):Mv Tv:=fun ρ P=>match ρ[i]? with
  | some (.oo _ _ C fs l)=>D C/\∃ t,(fs.zip l).lookup f=some t/\P (.ok t) ρ
  | _=>False
theorem yk{D:Addr->Prop}{i:Nat}{x f:Str}{np pos:Pos}(hK:X.K=K)(hD:∀ C,D C->Au K C/\il K C f)(hN:X.N[i]?=some x)(hv:Hw X.env.scope x)(hb:attributeBase (.Name x np) f X.env (eval (.Name x np) X.env)=eval (.Name x np) X.env:=by rfl)
    (hd:(x==("__debug__":Str))=false:=by decide) (qF:(x==("__classdict__":Str))=false:=by decide):PE X (.Attribute (.Name x np) f pos) (tV K E (yB D i f)):=by
  subst hK
  refine (KN (aW hN hv hd qF) hb).imp fun σ H Q ⟨p,ρ,er,P,a,b,_⟩=>?_
  unfold yB at a
  split at a
  · rename_i y dy C fs l e
    obtain⟨hd,t,hl,hp⟩:=a
    obtain⟨zs,e1,e2,_,_,_,_,r⟩:=er.ownO e
    obtain⟨w,hw,rw'⟩:=r.look hl
    obtain⟨c,n⟩:=hD C hd
    exact⟨.ref y,e1,y,C,dy,_,w,rfl,e2,c,n,hw,b t ρ hp w p H .refl er rw'⟩
  · exact a.elim
def bE(D:Addr->List Str->Cm->Prop)(i:Nat)(m:Str)(ms:List (Mv Tv)):Mv Tv:=fun ρ P=>match ρ[i]? with
  | some (.oo x dx C fs _)=>fs.contains m=false/\∃ c,D C fs c/\bo (fF ms) (fun ts ρ1 P1=>∃ l,ρ1[i]?=some (.oo x dx C fs l)/\c l ts (KH i x dx C fs ρ1 P1)) ρ P
  | _=>False
def L_(X:Cx)(K:PySem.W.Frag)(E:St->XK)(m:Str)(D:Addr->List Str->Cm->Prop):Prop:=∀ C fs c,D C fs c->CZ X E m C (yf K C fs c)
theorem zp{D:Addr->List Str->Cm->Prop}{i:Nat}{m:Str}{ms:List (Mv Tv)}:∀ σ H Q,tV K E (bE D i m ms) σ H Q->Dd (fun C sp=>∃ fs c,D C fs c/\sp=yf K C fs c) m E (Qd i) (PP K E (fF ms)) σ H Q:=fun σ H Q ⟨p,ρ,er,P,a,b,z⟩=>by
  unfold bE at a
  split at a
  · rename_i y dy C fs l e
    obtain⟨hn,c,hc,hp⟩:=a
    obtain⟨zs,e1,e2,_,_,_,_,r⟩:=er.ownO e
    refine⟨.ref y,e1,y,C,dy,_,_,rfl,e2,⟨fs,c,hc,rfl⟩,yW hn,p,ρ,er,?_⟩
    have h3:tA K E (Rep K) (bo (fF ms) fun ts ρ1 P1=>∃ l,ρ1[i]?=some (.oo y dy C fs l)/\c l ts (KH i y dy C fs ρ1 P1)) p ρ σ Q:=⟨P,hp,b,z⟩
    exact h3.bind.mono fun vs H2 ⟨ys,p2,ρ2,g2,er2,r2,P2,⟨l2,NV,a2⟩,b2,z2⟩=>yT er2 NV r2 ⟨P2,a2,b2,z2⟩
  · exact a.elim
theorem eS{D:Addr->List Str->Cm->Prop}{i:Nat}{x m:Str}{e:Expr}{es:List Expr}{ms:List (Mv Tv)}{np apos pos:Pos}{pl:Sem Bool}(hM:L_ X K E m D)(hN:X.N[i]?=some x)(hv:Hw X.env.scope x)(ha:PA X (e::es) (lh K E ms))
    (wX:starEach (e::es) X.env=(false,eval e X.env)::starEach es X.env:=by rfl) (qz:(backTo pos (starEach es X.env)).any (·.1)=false:=by rfl)
    (ht:eval (.Call (.Attribute (.Name x np) m apos) (e::es) [] pos) X.env=(do
      let ov ← eval (.Name x np) X.env
      standAt apos.atName
      let r ← holding [ov] (getMethod ov m pl)
      callWith pos r.1 r.2 (backTo pos (starEach (e::es) X.env)) (backToKw pos (keywordEach [] X.env))):=by rfl) (hd:(x==("__debug__":Str))=false:=by decide) (qF:(x==("__classdict__":Str))=false:=by decide) :
    PE X (.Call (.Attribute (.Name x np) m apos) (e::es) [] pos) (tV K E (bE D i m ms)):=
  (Mm (S:=fun C sp=>∃ fs c,D C fs c/\sp=yf K C fs c) (fun C sp ⟨fs,c,hc,e⟩=>e ▸ hM C fs c hc) (aW hN hv hd qF) ha.toS wX qz ht).imp zp
theorem dC{D:Addr->List Str->Cm->Prop}{i:Nat}{x m:Str}{np apos pos:Pos}{pl:Sem Bool}(hM:L_ X K E m D)(hN:X.N[i]?=some x)(hv:Hw X.env.scope x)
    (ht:eval (.Call (.Attribute (.Name x np) m apos) [] [] pos) X.env=(do
      let ov ← eval (.Name x np) X.env
      standAt apos.atName
      let r ← holding [ov] (getMethod ov m pl)
      callWith pos r.1 r.2 (backTo pos (starEach [] X.env)) (backToKw pos (keywordEach [] X.env))):=by rfl) (hd:(x==("__debug__":Str))=false:=by decide) (qF:(x==("__classdict__":Str))=false:=by decide) :
    PE X (.Call (.Attribute (.Name x np) m apos) [] [] pos) (tV K E (bE D i m [])):=
  (Bv (S:=fun C sp=>∃ fs c,D C fs c/\sp=yf K C fs c) (fun C sp ⟨fs,c,hc,e⟩=>e ▸ hM C fs c hc) (aW hN hv hd qF) ht).imp fun σ H Q h=>by
    obtain⟨v,e1,a,C,dy,gs,sp,e2,e3,e4,e5,p1,ρ1,bK,h2⟩:=zp σ H Q h
    exact⟨v,e1,a,C,dy,gs,sp,e2,e3,e4,e5,h2.pure bK aw.nil⟩
def jN(C:Addr)(fs:List Str)(c:Cm)(i:Nat)(ms:List (Mv Tv)):Mv Tv:=fun ρ P=>match ρ[i]? with
  | some (.oo x dx C' Hb _)=>(C'=C/\Hb=fs)/\bo (fF ms) (fun ts ρ1 P1=>∃ l,ρ1[i]?=some (.oo x dx C fs l)/\c l ts (KH i x dx C fs ρ1 P1)) ρ P
  | _=>False
def DX(D:Addr->Prop)(i:Nat)(f:Str)(m:Mv Tv):Sv:=fun ρ P=>match ρ[i]? with
  | some (.oo x dx C fs l)=>D C/\fs.length<1000/\∃ a,(fs.zip l).lookup f=some (.int a)/\m ρ (doK (fun t ρ1 P1=>ρ1[i]?=some (.oo x dx C fs l)/\match t with
    | .int b=>∃ l',Kf fs l f (.int (a+b))=some l'/\P1 .nx (ρ1.set i (.oo x dx C fs l'))
    | _=>False) P)
  | _=>False
theorem Df{D:Addr->Prop}{i:Nat}{x f:Str}{e:Expr}{m:Mv Tv}{np apos pos:Pos}(hK:X.K=K)(hD:∀ C,D C->Au K C/\il K C f)(hN:X.N[i]?=some x)(hv:Hw X.env.scope x)(he:PE X e (tV K E m))
    (hd:(x==("__debug__":Str))=false:=by decide) (qF:(x==("__classdict__":Str))=false:=by decide):PS X (.AugAssign (.Attribute (.Name x np) f apos) .Add e pos) (tS K E (DX D i f m)):=by
  subst hK
  refine (Jw (aW hN hv hd qF) he Tu).imp fun D' σ H ⟨p,ρ,P,er,a,h⟩=>?_
  unfold DX at a
  split at a
  · rename_i y dy C fs l e
    obtain⟨hd',h9,a0,hl,hm⟩:=a
    obtain⟨zs,e1,e2,_,_,_,hf,r⟩:=er.ownO e
    obtain⟨w,hw,rw'⟩:=r.look hl
    obtain⟨c,n⟩:=hD C hd'
    refine⟨.ref y,e1,y,C,dy,_,w,rfl,e2,c,n,hw,p,ρ,er,(gC (H:=H) (show F' m (fun t ρ1 P1=>ρ1[i]?=some (.oo y dy C fs l)/\match t with
      | .int b=>∃ l',Kf fs l f (.int (a0+b))=some l'/\P1 .nx (ρ1.set i (.oo y dy C fs l'))
      | _=>False) ρ P from hm) h).mono fun v H1 ⟨t,p1,ρ1,g1,bK,r1,⟨e',q⟩,h1⟩=>?_⟩
    cases t with
    | int b=>
      obtain⟨l',el,q⟩:=q
      obtain⟨zs1,_,e21,_,_,_,hf1,r2⟩:=bK.ownO e'
      have rs:Rep X.K (p1 0) (.int (a0+b)) (.int (a0+b)):=ao.mpr rfl
      obtain⟨pG,q1,q2,q3⟩:=D8 rs r2 el
      obtain⟨er2,g2⟩:=bK.putO (l':=l') e' (by rw[q3];exact hf1) q2
      rw[ao.mp rw',ao.mp r1]
      refine⟨a0,b,rfl,rfl,dy,_,e21,?_,?_⟩
      · rw[List.length_zip];omega
      · rw[q1];exact h1.nx _ q σ _ _ g2 er2
    | _=>exact q.elim
  · exact a.elim
theorem jm{C:Addr}{fs:List Str}{c:Cm}{i:Nat}{CX:wQ}{k:Nat}{f:Addr}{fd:FuncData}{ps:List Str}{x y:Str}{p np pos:Pos}{es:List Expr}{ms:List (Mv Tv)}(F:aQ X.prog X.w X.K X.mg X.base CX k f fd ps (yf K C fs c))(hr:eZ k X.A)(hg:Gl X x)(hm:X.mg x=some (.ref f))(hk:PySem.W.keepIn X.K (.ref f)=true)(hb:Binds X.K fd ps [])(hx:gA CX X E)
    (hN:X.N[i]?=some y) (hv:Hw X.env.scope y) (ha:PA X es (lh K E ms)) (hs:starEach (.Name y np::es) X.env=(false,eval (.Name y np) X.env)::starEach es X.env:=by rfl) (qc:(x==("__debug__":Str))=false:=by decide) (qz:(backTo pos (starEach es X.env)).any (·.1)=false:=by rfl)
    (hd:(y==("__debug__":Str))=false:=by decide) (qF:(y==("__classdict__":Str))=false:=by decide) :
    PE X (.Call (.Name x p) (.Name y np::es) [] pos) (tV K E (jN C fs c i ms)):=
  (lH F hr hg hm hk hb .nil hx (aV (aW hN hv hd qF) ha.toS hs) qc hs qz).imp fun σ H Q ⟨p,ρ,er,P,a,b,z⟩=>by
    unfold jN at a
    split at a
    · rename_i y dy C' Hb l e
      obtain⟨⟨rfl,rfl⟩,hp⟩:=a
      obtain⟨zs,e1,e2,_,_,_,_,r⟩:=er.ownO e
      refine⟨.ref y,e1,p,ρ,er,?_⟩
      have h3:tA K E (Rep K) (bo (fF ms) fun ts ρ1 P1=>∃ l,ρ1[i]?=some (.oo y dy C' Hb l)/\c l ts (KH i y dy C' Hb ρ1 P1)) p ρ σ Q:=⟨P,hp,b,z⟩
      refine h3.bind.mono fun vs H2 ⟨ys,p2,ρ2,g2,er2,r2,P2,⟨l2,NV,a2⟩,b2,z2⟩=>?_
      show yf K C' Hb c (.ref y::vs++[]) H2 Q (E σ)
      rw[List.append_nil]
      exact yT er2 NV r2 ⟨P2,a2,b2,z2⟩
    · exact a.elim
end
end L2
namespace L2
open PySem PySem.Spec PyProof.Rows
section
variable {X:Cx} {K:PySem.W.Frag} {E:St->XK}
def R8(f:Str->Bool)(mo:Mv Tv):Mv Tv:=bo mo fun x=>match x with | .str z=>fun ρ P=>P (.ok (.bl (f z))) ρ | _=>fun _ _=>False
def Ru(f:Str->Bool):V->List V->Hp->VK->Prop:=fun x xs H Q=>∃ z,x=.str z/\xs=[]/\Q (.bl (f z)) H
theorem Hl:NT X "str.isalpha" (Ru Txt.isalpha):=by
  intro pins s σ H x xs v us Q I rx rs ⟨z,e,e2,q⟩
  subst e e2
  obtain⟨t,rfl⟩:=rx
  have hu:=rs.zero
  subst hu
  exact SC.isalpha ⟨.bl _,H,I,rfl,q⟩
theorem Gd:NT X "str.isdigit" (Ru Txt.isdigit):=by
  intro pins s σ H x xs v us Q I rx rs ⟨z,e,e2,q⟩
  subst e e2
  obtain⟨t,rfl⟩:=rx
  have hu:=rs.zero
  subst hu
  exact SC.isdigit ⟨.bl _,H,I,rfl,q⟩
theorem Pz{f:Str->Bool}{o:Expr}{mo:Mv Tv}{name:Str}{apos gw:Pos}{id:String}(slot:Slot "str" name id)(QR:typeOf (.builtin id)=pure (.type "method_descriptor"))(hm:NT X id (Ru f))(ho:PE X o (tV K E mo))
    (nI:attributeBase o name X.env (eval o X.env)=eval o X.env:=by rfl) (pW:(apos.endLine==gw.line)=true:=by rfl):PE X (.Call (.Attribute o name apos) [] [] gw) (tV K E (R8 f mo)):=
  (Te PySem.F.plainAttrs_str slot QR hm ho nI pW).imp fun σ H Q ⟨p,ρ,er,h⟩=>⟨p,ρ,er,h.bind.mono fun v H1 ⟨x,p1,ρ1,g1,bK,r1,h1⟩=>by
    cases x with
    | str z=>
      cases aC.mp r1
      exact⟨rfl,z,rfl,rfl,h1.pure bK (aG.mpr rfl)⟩
    | _=>exact h1.no.elim⟩
def UC(m:Mv Tv):Mv Tv:=bo m fun x=>match x with | .str z=>fun ρ P=>(PySem.reprText z).length<=sizeLine/\P (.ok (.str (PySem.reprText z))) ρ | _=>fun _ _=>False
theorem V8{e:Expr}{m:Mv Tv}{pos:Pos}(he:PE X e (tV K E m)):PE X (.FormattedValue e 114 none pos) (tV K E (UC m)):=
  (Rg he).imp fun σ H Q ⟨p,ρ,er,h⟩=>⟨p,ρ,er,h.bind.mono fun v H1 ⟨x,p1,ρ1,g1,bK,r1,h1⟩=>by
    cases x with
    | str z=>
      obtain⟨P,a,b,_⟩:=h1
      exact⟨z,aC.mp r1,a.1,b _ ρ1 a.2 _ p1 H1 .refl bK (aC.mpr rfl)⟩
    | _=>exact h1.no.elim⟩
theorem yY{y:Str}:∀ {zs:List Str} {us:List Value},bf (zs.map V.str) us->us.countP (Ui (V.str y))=zs.count y
  | [],_,.nil=>rfl
  | z::zs,u::us,.cons r t=>by
    rw[List.countP_cons,List.count_cons,yY t,KQ r rfl]
    rfl
def ZS:V->List V->Hp->VK->Prop:=fun x xs H Q=>∃ a y,∃ zs:List Str,x=.ref a/\xs=[.str y]/\H a=some (.lst (zs.map V.str))/\Q (.int (zs.count y)) H
theorem Bu:∀ zs:List Str,(zs.map V.str).all gI=true
  | []=>rfl
  | z::zs=>by rw[List.map_cons,List.all_cons,Bu zs];rfl
theorem Lc:NT X "list.count" ZS:=by
  intro pins s σ H x vs v us Q I rx rv ⟨a,y,zs,e1,e2,hH,q⟩
  subst e1 e2
  cases rx
  obtain⟨u,rfl,ru⟩:=rv.one
  obtain⟨z,aS,n,r,hl,e⟩:=I.lstM hH
  refine call_meets PySem.F.slot_list_count ⟨_,e,rfl⟩ PySem.F.entry_list_count (PySem.F.args_list_count_2 _ _) (PySem.SeqAt.list_countAt a aS.toArray n _ _ u (Ui (V.str y))) ⟨e,fun w hw=>EM ru rfl r (Bu zs) w (by simpa using hw),?_⟩
  have:=yY (y:=y) r
  refine⟨.int _,H,I.tok _,⟨_,rfl⟩,?_⟩
  rw[show aS.toArray.toList.countP (Ui (V.str y))=zs.count y from this]
  exact q
def M7(i:Nat)(m:Mv Tv):Mv Tv:=fun ρ P=>match ρ[i]? with
  | some (.ow _ _)=>bo m (fun x ρ P=>match x,ρ[i]? with | .str y,some (.ow _ l)=>∃ zs:List Str,l=zs.map Tv.str/\P (.ok (.int (zs.count y))) ρ | _,_=>False) ρ P
  | _=>False
theorem TM{i:Nat}{x:Str}{e:Expr}{m:Mv Tv}{xp ap cp:Pos}(hN:X.N[i]?=some x)(hv:Hw X.env.scope x)(he:PE X e (tV K E m))(wX:starEach [e] X.env=[(false,eval e X.env)]:=by rfl)
    (nI:attributeBase (.Name x xp) "count" X.env (eval (.Name x xp) X.env)=eval (.Name x xp) X.env:=by rfl)
    (GL:((backTo cp (starEach [e] X.env)).all (fun x=>!x.1)&&(backToKw cp (keywordEach [] X.env)).all (fun x=>x.1.isSome)&&decide (([e]:List Expr).length+([]:List Keyword).length+(if ([]:List Keyword).isEmpty then 0 else 1)<30))=true:=by rfl)
    (pW:(ap.endLine==cp.line)=true:=by rfl) (hd:(x==("__debug__":Str))=false:=by decide) (qF:(x==("__classdict__":Str))=false:=by decide) :
    PE X (.Call (.Attribute (.Name x xp) "count" ap) [e] [] cp) (tV K E (M7 i m)):=by
  refine (KY PySem.F.plainAttrs_list PySem.F.slot_list_count PySem.F.type_list_count Lc (aW hN hv hd qF) (aV he cD wX) nI GL pW wX rfl).imp fun σ H Q ⟨p,ρ,er,P,a,b,c⟩=>?_
  unfold M7 at a
  split at a
  · rename_i Da l e
    obtain⟨xs,e1,e2,e3,r⟩:=er.own e
    have h:tA K E (Rep K) (bo m (fun x ρ P=>match x,ρ[i]? with | .str y,some (.ow _ l)=>∃ zs:List Str,l=zs.map Tv.str/\P (.ok (.int (zs.count y))) ρ | _,_=>False)) p ρ σ Q:=⟨P,a,b,c⟩
    refine⟨.ref Da,e1,.inl ⟨rfl,xs,fW.of e2⟩,p,ρ,er,h.bind.mono fun v H1 ⟨t,p1,ρ1,g1,bK,r1,P1,q,b1,_⟩=>?_⟩
    dsimp only at q
    split at q
    · rename_i y Db l' e'
      obtain⟨zs,el,q⟩:=q
      subst el
      obtain⟨ys,f1,f2,f3,rr⟩:=bK.own e'
      rw[e1] at f1
      cases f1
      rw[hV rr] at f2
      exact⟨Da,y,zs,rfl,by rw[aC.mp r1],f2,b1 _ ρ1 q _ p1 H1 .refl bK (ao.mpr rfl)⟩
    · exact q.elim
  · exact a.elim
theorem uF:∀ (kvs:List (Str×Int)) (σ:St) (H:Hp) (R:List (V×V)->Hp->Prop),R (kvs.map fun e=>(V.str e.1,V.int e.2)) H->yS (kvs.map fun e=>(tC (.str e.1),tC (.int e.2))) σ H R
  | [],_,_,_,h=>h
  | e::r,σ,H,R,h=>uF r σ H _ h
theorem LI:∀ (kvs:List (Str×Int)),kvs.map (fun e=>(V.str e.1,V.int e.2))=(kvs.map fun e=>(Sum.inr e.1,V.int e.2)).map fun kv:Key×V=>(kV kv.1,kv.2)
  | []=>rfl
  | e::r=>by rw[List.map_cons,List.map_cons,List.map_cons,LI r];rfl
theorem Ij:∀ (kvs:List (Str×Int)),(kvs.map fun e=>(Sum.inr e.1,V.int e.2):List (Key×V))=(kvs.map fun e=>(Sum.inr e.1:Key)).zip (kvs.map fun e=>V.int e.2)
  | []=>rfl
  | e::r=>by rw[List.map_cons,List.map_cons,List.map_cons,List.zip_cons_cons,Ij r]
theorem zx{G:Hp}:∀ ys:List Int,aw K G (ys.map Tv.int) (ys.map V.int)
  | []=>.nil
  | y::ys=>.cons (ao.mpr rfl) (zx ys)
theorem OC{kvs:List (Str×Int)}{keys:List (Option Expr)}{values:List Expr}{pos:Pos}(h:TY X pos keys values (kvs.map fun e=>(tC (.str e.1),tC (.int e.2))))(hm:sR [] (kvs.map fun e=>(Sum.inr e.1,V.int e.2))=kvs.map fun e=>(Sum.inr e.1,V.int e.2))
    (hz:kvs.length<=15) (Hf:keys.all (·.isSome)=true:=by rfl) (hl:keys.length=values.length:=by rfl) (h0:keys≠[]:=by intro z;cases z) (h15:keys.length<=15:=by decide) :
    PE X (.Dict keys values pos) (tV K E (vC (.dic (kvs.map fun e=>Sum.inr e.1) (kvs.map fun e=>.int e.2)))):=
  (Jm h Hf hl h0 h15).imp fun σ H Q ⟨p,ρ,er,P,a,b,_⟩ q hq=>uF _ _ _ _ (by
    refine⟨aH,_,LI kvs,by rw[List.length_map];exact hz,?_⟩
    rw[hm,iK]
    obtain⟨er2,s2⟩:=er.alloc hq (.dK (kvs.map fun e=>(Sum.inr e.1,V.int e.2)))
    refine b _ ρ a _ _ _ (jv s2) er2 ?_
    rw[az]
    refine oi.mpr ⟨q,kvs.map fun e=>V.int e.2,rfl,?_,by rw[List.length_map,List.length_map],?_⟩
    · rw[aH,Ij]
    · have:=zx (K:=K) (G:=upd (p 0) q (.dK (kvs.map fun e=>(Sum.inr e.1,V.int e.2)))) (kvs.map (·.2))
      rw[List.map_map,List.map_map] at this
      exact this)
def Pv(o k f:Mv Tv):Mv Tv:=bo o fun d=>match d with
  | .dic ks l=>bo k fun x=>bo f fun y ρ P=>match KC x with | some c=>P (.ok ((uC (ks.zip l) c).getD y)) ρ | none=>False
  | _=>fun _ _=>False
theorem QJ{o e f:Expr}{mo m n:Mv Tv}{apos gw:Pos}(hu:X.A.units+1<cLine)(ho:PE X o (tV K E mo))(he:PE X e (tV K E m))(hf:PE X f (tV K E n))(hm:M2 X o "get" apos e f gw):
    PE X (.Call (.Attribute o "get" apos) [e,f] [] gw) (tV K E (Pv mo m n)):=
  (Lr hu ho he hf hm).imp fun σ H Q ⟨p,ρ,er,h⟩=>⟨p,ρ,er,h.bind.mono fun v H1 ⟨d,p1,ρ1,g1,bK,r1,h1⟩=>by
    cases d with
    | dic ks l=>
      obtain⟨Da,xs,rfl,e,n,r⟩:=oi.mp r1
      refine⟨Da,rfl,.inl ⟨_,.inl ((bK.gK.sub 0) _ _ e)⟩,p1,ρ1,bK,h1.bind.mono fun u H2 ⟨y,p2,ρ2,g2,er2,r2,h2⟩=>⟨p2,ρ2,er2,h2.bind.mono fun u3 H3 ⟨z,p3,ρ3,g3,er3,r3,P,a,b,_⟩=>?_⟩⟩
      dsimp only at a
      split at a
      · rename_i c' hk
        obtain⟨Db,ys,ev,e',n',r'⟩:=oi.mp ((r1.up g2.same).up g3.same)
        cases ev
        have kv:=I_ hk (r2.up g3.same)
        subst kv
        refine⟨_,DD.k ((er3.gK.sub 0) _ _ e'),b _ ρ3 a _ p3 H3 .refl er3 ?_⟩
        have rr:lA K (p3 0) (ks.zip l) (ks.zip ys):=lA.of n' r'
        rcases rr.val c' with ⟨t,w,q1,q2,q3⟩ | ⟨q1,q2⟩
        · rw[q1,q2];exact q3
        · rw[q1,q2];exact r3
      · exact a.elim
    | _=>exact h1.no.elim⟩
def My(i:Nat)(a b:Mv Tv):Sv:=F' a fun x=>F' b fun y ρ P=>match x,y with | .lst l,.lst m=>l.length+m.length<=sizeLine/\∀ D,P .nx (ρ.set i (.ow D (l++m))) | _,_=>False
theorem Jj{i:Nat}{x:Str}{ea eb:Expr}{ma mb:Mv Tv}{pos pos' op:Pos}(hN:X.N.Nodup)(hi:X.N[i]?=some x)(hx:Loc X.env.scope x)(ha:PE X ea (tV K E ma))(hb:PE X eb (tV K E mb))(hs:swapsWith (.BinOp ea .Add eb op) (some (.Name x pos')) pos.line X.env=pure false:=by rfl)(hf:X.fn x=true\/X.env.scope.names.lookup x=some .local:=by first | exact .inl rfl | exact .inr rfl | assumption):
    PS X (.Assign [.Name x pos'] (.BinOp ea .Add eb op) pos) (tS K E (My i ma mb)):=fun pins s σ H D I ⟨p,ρ,P,er,a,h⟩=>by
  refine nY hN hi hx (zQ MG ha hb) hs hf pins s σ H D I ⟨p,ρ,er,(gC (H:=H) a h).mono fun u H1 ⟨t1,p1,ρ1,g1,bK,r1,q1,h1⟩=>⟨p1,ρ1,bK,(gC (H:=H1) q1 h1).mono fun v H2 ⟨t2,p2,ρ2,g2,er2,r2,q2,h2⟩=>?_⟩⟩
  split at q2
  · rename_i l m
    obtain⟨Da,xs,rfl,s1,z1⟩:=ba.mp (r1.up g2.same)
    obtain⟨Db,ys,rfl,s2,z2⟩:=ba.mp r2
    refine⟨Da,Db,xs,ys,rfl,rfl,er2.gK.sub 0 _ _ s1,er2.gK.sub 0 _ _ s2,by rw[z1.len,z2.len];exact q2.1,fun Dc hD=>?_⟩
    have hl:i<ρ2.length:=by
      have h0:i<X.N.length:=(List.getElem?_eq_some_iff.mp hi).1
      rw[← er2.len,I.len];exact h0
    obtain⟨e2,g5⟩:=er2.setNew hl hD (z1.app z2)
    exact h2.nx _ (q2.2 Dc) _ _ _ g5 e2
  · exact q2.elim
def M_(C:Ct)(d:Tv)(ms:List (Mv Tv)):Mv Tv:=bo (fF ms) fun xs ρ P=>C (xs++[d]) (E8 ρ P)
theorem Os{C:Ct}{d:Tv}{dv:V}{ds:List Value}{CX:wQ}{k:Nat}{f:Addr}{fd:FuncData}{ps:List Str}{x:Str}{p pos:Pos}{e:Expr}{es:List Expr}{ms:List (Mv Tv)}(hK:X.K=K)(F:aQ X.prog X.w X.K X.mg X.base CX k f fd ps (sN K C))(hr:eZ k X.A)(hg:Gl X x)(hm:X.mg x=some (.ref f))(hk:PySem.W.keepIn X.K (.ref f)=true)(hb:Binds X.K fd ps ds)(hd:bf [dv] ds)(rd:∀ G,Rep K G d dv)(hx:gA CX X E)
    (ha:PA X (e::es) (lh K E ms)) (qc:(x==("__debug__":Str))=false:=by decide) (he:starEach (e::es) X.env=(false,eval e X.env)::starEach es X.env:=by rfl) (qz:(backTo pos (starEach es X.env)).any (·.1)=false:=by rfl) :
    PE X (.Call (.Name x p) (e::es) [] pos) (tV K E (M_ C d ms)):=
  (lH F hr hg hm hk hb hd hx ha.toS qc he qz).imp fun σ H Q ⟨p,ρ,er,h⟩=>⟨p,ρ,er,h.bind.mono fun vs H1 ⟨xs,p1,ρ1,g1,bK,r1,P,a,b,c⟩=>by
    refine⟨three (p1 0) (dP p1 H1) iN,xs++[d],_,bK.gK.two,jD,r1.app (.cons (rd _) .nil),a,fun r q v p' H' g u h3 s=>?_,fun c0 q p' H' g u h2=>?_⟩
    · have hr:r≠.un:=fun z=>by subst z;exact q
      have q:P (.ok r.frz) ρ1:=by
        cases r with
        | un=>exact q.elim
        | va t=>exact q
        | ow D l=>exact q
        | od D d=>exact q
        | oo x dx C fs l=>exact q
      obtain⟨u2,g2,h2⟩:=u.one h3
      obtain⟨u3,s3⟩:=bK.gK.back u2 ((g2.fr.trans g.fr:mv p' 2 1=dP p1 H1))
      have s4:bP (p1 0) _:=g.same.trans (g2.same.trans s3)
      exact b r.frz ρ1 q v _ H' (jv s4) (bK.grow s4 u3) (by rw[az];exact (s.toall u hr).up s3)
    · obtain⟨u3,s3⟩:=bK.gK.back u (g.fr:p' 1=dP p1 H1)
      have s4:bP (p1 0) _:=g.same.trans s3
      exact c c0 ρ1 q _ H' (jv s4) (bK.grow s4 u3)⟩
end
end L2
namespace L2
open PySem PySem.Spec PyProof.Rows
theorem eZ.units2{k:Nat}{A:Around}(r:eZ k A):A.units+130<cLine:=by have:=r.un;omega
def Ob(n:Nat)(K:PySem.W.Frag)(b:Bool):R2:=fun x y H Q=>∃ p q xs ys,x=.ref p/\y=.ref q/\kn K H p xs/\kn K H q ys/\Paired (Alike K H n) xs ys/\Q (.bl b) H
theorem RH{X:Cx}{K:PySem.W.Frag}{n:Nat}(hK:X.K=K)(hu:X.A.units+1+n<cLine):gJ X (compareOp .NotEq) (Ob n K false):=by
  subst hK
  intro pins s σ H x y v u Q I rx ry h
  obtain⟨p,q,xs,ys,rfl,rfl,h1,h2,pr,k⟩:=h
  cases rx
  cases ry
  have hl:=pr.length
  have ih:=fun x y u v=>nV I n X.A.in1 x y u v (by show X.A.units+1+n<cLine;omega)
  obtain⟨aS,r,pl,_⟩:=I.tuple h1
  obtain⟨gy,r2,pl2,_⟩:=I.tuple h2
  refine SeqAt.RcNeAt.tuples (e:=fun _=>true) (show s.heap.IsTuple p aS.toArray from pl) (show s.heap.IsTuple q gy.toArray from pl2) (by omega) (fun j a b=>gQ r r2 pr ih j a b) _ _ _ _ ?_
  rw[all_true,List.size_toArray,List.size_toArray,← r.length,← r2.length,hl,beq_self_eq_true]
  exact⟨.bl _,H,I,rfl,k⟩
section
variable {X:Cx} {K:PySem.W.Frag}
def UM:Tv->Tv->(Tv->Prop)->Prop
  | .tup a,.tup b,k=>a=b/\jo 120 a=true/\k (.bl false)
  | _,_,_=>False
theorem Vp(hK:X.K=K)(hu:X.A.units+130<cLine):gJ X (compareOp .NotEq) (rV K UM):=by
  refine (RH (n:=120) hK (by omega)).imp fun x y H Q ⟨p,a,b,P,u,ra,rb,w,k⟩=>?_
  match a,b,w with
  | .tup l,.tup m,w=>
    obtain⟨c,xs,rfl,s1,q1⟩:=cb ra
    obtain⟨d,ys,rfl,s2,q2⟩:=cb rb
    obtain⟨rfl,hh,w⟩:=w
    exact⟨c,d,xs,ys,rfl,rfl,(u.sub 0).seqT s1,(u.sub 0).seqT s2,i6 120 l xs ys hh (q1.up (u.sub 0)) (q2.up (u.sub 0)),aX u w k (aG.mpr rfl)⟩
end
end L2
namespace Pw
open PySem L2
seal PE PT PW PA PS ju PG sg PI rA PO PJ
abbrev Lk(s:Stmt)(x:Str)(k:NameKind):Prop:=(ak s).names.lookup x=some k
def top(i:Nat):Stmt:=PySem.Challenge.pw_planwell_k07_terms_read.main.body.getD i (.Pass ⟨0,0,0,0⟩)
abbrev cV:Stmt:=top 12
abbrev f9:Stmt:=top 13
abbrev hU:Stmt:=top 31
abbrev fk:Stmt:=top 32
abbrev dm:Stmt:=top 33
abbrev cX:Stmt:=top 34
abbrev d4:Stmt:=top 35
abbrev gM:Stmt:=top 36
abbrev eC:Stmt:=top 37
abbrev eA:Stmt:=top 38
abbrev vq:Stmt:=top 40
abbrev lg:Stmt:=top 41
abbrev kU:Stmt:=top 42
abbrev dX:Stmt:=top 43
abbrev eE:Stmt:=top 44
abbrev cU:Stmt:=top 45
abbrev bu:Stmt:=top 46
abbrev cE:Stmt:=top 47
abbrev kl:Stmt:=top 48
abbrev b_:Stmt:=top 49
abbrev dE:Stmt:=top 50
abbrev jn:Stmt:=top 51
abbrev cS:Stmt:=top 52
abbrev fK:Stmt:=top 53
structure fH(K:PySem.W.Frag)(mg:Str->Option Value)(x:Str)(st:Stmt)(f:Addr)(fd:FuncData)(ps:List Str):Prop where
  F:sk K x x st f fd
  b:Binds K fd ps []
  m:mg x=some (.ref f)
structure pP(mg:Str->Option Value):Prop where
  isinstance:mg "isinstance"=none
  int:mg "int"=none
  str:mg "str"=none
  tuple:mg "tuple"=none
  len:mg "len"=none
  abs:mg "abs"=none
  list:mg "list"=none
  range:mg "range"=none
  enumerate:mg "enumerate"=none
  max:mg "max"=none
  bool:mg "bool"=none
  reversed:mg "reversed"=none
def Kj:Nat:=2 ^ 8000
theorem yC{n k:Nat}(h:n<2 ^ k)(hk:k<=8000):n<Kj:=Nat.lt_of_lt_of_le h (Nat.pow_le_pow_right (by decide) hk)
theorem ND{n:Nat}(h:n<Kj):n.log2<9000:=by
  rcases Nat.eq_zero_or_pos n with h0 | hp
  · rw[h0];decide
  · have:=(Nat.log2_lt (Nat.ne_of_gt hp)).mpr h
    omega
def gd(a b:Int):Int:=(Int.gcd a b:Int)
theorem HS{a b:Int}(ha:0<=a)(hb:0<b):gd b (Int.fmod a b)=gd a b:=by
  unfold gd
  rw[Int.fmod_eq_emod_of_nonneg _ (by omega)]
  obtain⟨n,rfl⟩:=Int.eq_ofNat_of_zero_le ha
  obtain⟨m,rfl⟩:=Int.eq_ofNat_of_zero_le (Int.le_of_lt hb)
  have e:((n:Int) % (m:Int))=((n % m:Nat):Int):=rfl
  rw[e]
  show ((Nat.gcd m (n % m):Nat):Int)=((Nat.gcd n m:Nat):Int)
  rw[Nat.gcd_comm n m,Nat.gcd_rec m n,Nat.gcd_comm]
theorem IF{a:Int}(ha:0<=a):gd a 0=a:=by
  unfold gd;rw[Int.gcd_zero_right];omega
theorem oP{a b:Int}(hb:0<b):0<gd a b:=by
  unfold gd
  have:0<Int.gcd a b:=Int.gcd_pos_of_ne_zero_right a (by omega)
  omega
theorem y7(a b:Int):gd a b ∣ a:=Int.gcd_dvd_left ..
theorem tZ(a b:Int):gd a b ∣ b:=Int.gcd_dvd_right ..
theorem Uu{a b:Int}(hb:0<b):gd a b<=b:=Int.le_of_dvd hb (tZ a b)
theorem yt{a g:Int}(hg:0<g)(h:g ∣ a):Int.fdiv a g*g=a:=by
  rw[Int.fdiv_eq_ediv_of_nonneg _ (by omega)]
  exact Int.ediv_mul_cancel h
theorem KI(a b:Int):gd (-a) b=gd a b:=by
  unfold gd;rw[Int.neg_gcd]
theorem MY(a b:Int):gd (if a<0 then -a else a) b=gd a b:=by
  split
  · exact KI a b
  · rfl
theorem Rp{a b m:Int}(hm:0<=m):gd (a*m) (b*m)=gd a b*m:=by
  unfold gd
  rw[Int.gcd_mul_right]
  have:(m.natAbs:Int)=m:=by omega
  rw[← this];simp
theorem low{t b g:Int}(hb:0<b)(hg:g=gd t b):
    0<g/\1<=Int.fdiv b g/\Int.fdiv t g*b=t*Int.fdiv b g/\gd (Int.fdiv t g) (Int.fdiv b g)=1:=by
  have g0:0<g:=hg ▸ oP hb
  have ht:=yt g0 (hg ▸ y7 t b)
  have Xx:=yt g0 (hg ▸ tZ t b)
  generalize Int.fdiv t g=x at *
  generalize Int.fdiv b g=y at *
  refine⟨g0,?_,?_,?_⟩
  · rcases (by omega:1<=y\/y<=0) with h | h
    · exact h
    · have:=Int.mul_nonpos_of_nonpos_of_nonneg h (Int.le_of_lt g0)
      omega
  · rw[← ht,← Xx]
    rw[Int.mul_assoc x g y,Int.mul_comm g y]
  · have:=Rp (a:=x) (b:=y) (Int.le_of_lt g0)
    rw[ht,Xx,← hg] at this
    have:(gd x y-1)*g=0:=by rw[Int.sub_mul,← this];omega
    rcases Int.mul_eq_zero.mp this with h | h
    · omega
    · omega
def ft(t b:Int):Int:=if b<0 then Int.fdiv (-t) (gd (-t) (-b)) else Int.fdiv t (gd t b)
def fb(t b:Int):Int:=if b<0 then Int.fdiv (-b) (gd (-t) (-b)) else Int.fdiv b (gd t b)
theorem EE{t b:Int}(hb:b≠0):1<=fb t b/\ft t b*b=t*fb t b/\gd (ft t b) (fb t b)=1:=by
  unfold ft fb
  by_cases h:b<0
  · rw[if_pos h,if_pos h]
    obtain⟨_,a1,a2,a3⟩:=low (t:=-t) (b:=-b) (by omega) rfl
    refine⟨a1,?_,a3⟩
    have e1:Int.fdiv (-t) (gd (-t) (-b))*-b=-(Int.fdiv (-t) (gd (-t) (-b))*b):=Int.mul_neg _ _
    have e2:-t*Int.fdiv (-b) (gd (-t) (-b))=-(t*Int.fdiv (-b) (gd (-t) (-b))):=Int.neg_mul _ _
    rw[e1,e2] at a2
    omega
  · rw[if_neg h,if_neg h]
    obtain⟨_,a1,a2,a3⟩:=low (t:=t) (b:=b) (by omega) rfl
    exact⟨a1,a2,a3⟩
theorem GJ{t b:Int}(hb:0<b)(h:b.natAbs<Kj):(gd t b).natAbs.log2<9000:=by
  refine ND (Nat.lt_of_le_of_lt ?_ h)
  have h1:=Uu (a:=t) hb
  have h2:=oP (a:=t) hb
  omega
theorem abs_nonneg(a:Int):0<=(if a<0 then -a else a):=by split <;> omega
structure R6(K:PySem.W.Frag)(mg:Str->Option Value)(C:Addr):Prop where
  m:mg "BadFraction"=some (.ref C)
  e:PySem.W.excIn K C PY "ValueError.__new__"=true
structure SX(K:PySem.W.Frag)(mg:Str->Option Value)(x:Str)(st:Stmt)(dV:Value)(f:Addr)(fd:FuncData)(ps:List Str)(ds:List Value):Prop where
  F:KB K x x st dV f fd
  b:Binds K fd ps []
  d:Binds K fd ps ds
  v:bf [.int 1] ds
  m:mg x=some (.ref f)
theorem t6{t g:Int}(hg:0<g)(h:g ∣ t):(Int.fdiv t g).natAbs<=t.natAbs:=by
  have e:=yt hg h
  generalize Int.fdiv t g=q at *
  subst e
  rw[Int.natAbs_mul]
  exact Nat.le_mul_of_pos_right _ (by omega)
theorem S7{t b:Int}(hb:b≠0):(ft t b).natAbs<=t.natAbs:=by
  unfold ft
  split
  · have:=t6 (oP (a:=-t) (b:=-b) (by omega)) (y7 (-t) (-b))
    rw[Int.natAbs_neg] at this
    exact this
  · exact t6 (oP (by omega)) (y7 t b)
theorem Qu{t b:Int}(hb:b≠0):(fb t b).natAbs<=b.natAbs:=by
  unfold fb
  split
  · have:=t6 (oP (a:=-t) (b:=-b) (by omega)) (tZ (-t) (-b))
    rw[Int.natAbs_neg] at this
    exact this
  · exact t6 (oP (by omega)) (tZ t b)
abbrev Fq:=Int×Int
def VM(a:Fq):Prop:=1<=a.2/\gd a.1 a.2=1
def JT(t b:Int):Fq:=(ft t b,fb t b)
theorem HQ{t b:Int}(h:b≠0):VM (JT t b):=by
  obtain⟨a1,_,a3⟩:=EE (t:=t) h
  exact⟨a1,a3⟩
theorem To{t b:Int}(h:0<b):(Int.fdiv t (gd t b),Int.fdiv b (gd t b))=JT t b:=by
  unfold JT ft fb
  rw[if_neg (by omega),if_neg (by omega)]
theorem Mn{a b:Fq}(ha:VM a)(hb:VM b)(e:a.1*b.2=b.1*a.2):a=b:=by
  obtain⟨a1,a2⟩:=a
  obtain⟨b1,b2⟩:=b
  obtain⟨h1,g1⟩:=ha
  obtain⟨h2,g2⟩:=hb
  simp only [gd] at h1 g1 h2 g2 e
  have g1':Nat.gcd a2.natAbs a1.natAbs=1:=by rw[Nat.gcd_comm];unfold Int.gcd at g1;omega
  have g2':Nat.gcd b2.natAbs b1.natAbs=1:=by rw[Nat.gcd_comm];unfold Int.gcd at g2;omega
  have e':a1.natAbs*b2.natAbs=b1.natAbs*a2.natAbs:=by rw[← Int.natAbs_mul,← Int.natAbs_mul,e]
  have d1:a2.natAbs ∣ b2.natAbs:=Nat.Coprime.dvd_of_dvd_mul_left (k:=a2.natAbs) (m:=a1.natAbs) g1' ⟨b1.natAbs,by rw[e',Nat.mul_comm]⟩
  have d2:b2.natAbs ∣ a2.natAbs:=Nat.Coprime.dvd_of_dvd_mul_left (k:=b2.natAbs) (m:=b1.natAbs) g2' ⟨a1.natAbs,by rw[← e',Nat.mul_comm]⟩
  have q:=Nat.dvd_antisymm d1 d2
  have q2:a2=b2:=by omega
  subst q2
  have:a1=b1:=Int.eq_of_mul_eq_mul_right (by omega) e
  rw[this]
theorem Eo{t b:Int}(h:b≠0):(JT t b).1*b=t*(JT t b).2:=(EE (t:=t) h).2.1
section
variable {P:Program} {w:World} {K:PySem.W.Frag} {mg:Str->Option Value} {base:Heap} {f:Addr} {fd:FuncData}
def Qy:Sp:=fun vs H Q _=>∃ a b:Int,vs=[.int a,.int b]/\0<=a/\0<=b/\Q (.int (gd a b)) H
theorem kG:aA ["one","other","rest"] ["one","other"] (ak cV):=⟨rfl,rfl,rfl,by decide +kernel,rfl,by decide +kernel,by decide +kernel⟩
theorem kP(F:sk K "greatest_divisor" "greatest_divisor" cV f fd):aQ P w K mg base yI 1 f fd ["one","other"] Qy:=by
  refine F.ok kG (fun vs H Q E h=>?_) (fun c9 A outer s H vs Q E hr h=>?_)
  · obtain⟨a,b,rfl,_⟩:=h
    rfl
  obtain⟨a,b,rfl,ha,hb,q⟩:=h
  have nd:=kG.nd
  refine⟨_,cF (Fx PassesOwn.never (qG Pk (pv 1) mO (aL _))
      (cF (nY (i:=2) nd rfl (Or.inl rfl) (zQ O2 (pv 0) (pv 1)))
      (cF (nY (i:=0) nd rfl (Or.inl rfl) (pv 1)) (cz (nY (i:=1) nd rfl (Or.inl rfl) (pv 2))))))
    (cz (lJ (pv 0))),?_⟩
  refine⟨fun m σ H'=>H'=H/\∃ (x y:Int) (z:Option V),σ=[some (.int x),some (.int y),z]/\0<=x/\0<=y/\gd x y=gd a b/\m=y.toNat,⟨b.toNat,rfl,a,b,none,rfl,ha,hb,rfl,rfl⟩,?_⟩
  rintro m σ H' ⟨rfl,x,y,z,rfl,hx,hy,eg,rfl⟩
  refine⟨_,rfl,rfl,_,rfl,?_⟩
  by_cases h0:y=0
  · subst h0
    refine LC (neN rfl) ?_
    refine⟨_,rfl,?_⟩
    rw[IF hx] at eg
    rw[eg]
    exact q
  · refine W0 (neY h0) ?_
    refine⟨fun σ' H2=>H2=H'/\σ'=[some (.int y),some (.int (x.fmod y)),some (.int (x.fmod y))],?_,?_⟩
    · rintro σ' H2 ⟨rfl,rfl⟩
      have yp:0<y:=by omega
      have m1:=Int.fmod_nonneg_of_pos x yp
      have m2:=Int.fmod_lt_of_pos x yp
      exact⟨(x.fmod y).toNat,by omega,rfl,y,x.fmod y,_,rfl,hy,m1,by rw[HS hx yp];exact eg,rfl⟩
    · exact⟨_,rfl,_,rfl,x,y,rfl,rfl,h0,_,rfl,_,rfl,rfl,rfl⟩
def IV(C:Addr):Sp:=fun vs H Q E=>∃ t b:Int,vs=[.int t,.int b]/\0<=b/\b.natAbs<Kj/\(b=0->E (.ref C) none H)/\(0<b->∀ p,H p=none->Q (.ref p) (upd H p (.tup [.int (Int.fdiv t (gd t b)),.int (Int.fdiv b (gd t b))])))
def Ss(C:Addr):Sp:=fun vs H Q E=>∃ t b:Int,vs=[.int t,.int b]/\b.natAbs<Kj/\(b=0->E (.ref C) none H)/\(b≠0->∀ p,H p=none->Q (.ref p) (upd H p (.tup [.int (ft t b),.int (fb t b)])))
theorem mw:aA ["top","bottom","divisor"] ["top","bottom"] (ak f9):=⟨rfl,rfl,rfl,by decide +kernel,rfl,by decide +kernel,by decide +kernel⟩
theorem DE{fg C:Addr}{dg:FuncData}{dV:Value}(F:KB K "fraction" "fraction" f9 dV f fd)(B:pP mg)(G:fH K mg "greatest_divisor" cV fg dg ["one","other"])(X:R6 K mg C):
    aQ P w K mg base (iP P w) 2 f fd ["top","bottom"] (IV C):=by
  have OG:aQ P w K mg base (iP P w) 1 fg dg ["one","other"] Qy:=(kP G.F).cxf _
  refine F.okX mw (fun vs H Q E h=>?_) (fun c9 A outer s H vs Q E hr h=>?_)
  · obtain⟨t,b,rfl,_⟩:=h
    rfl
  obtain⟨t,b,rfl,hb,hz,h0,h1⟩:=h
  have nd:=mw.nd
  refine⟨_,cF (Ag (qG Lh (pv 1) mO (aL _)) (cz (yq rfl gq X.e rfl X.m (aV fR cD))) ou)
    (cF (Ag (qG Mq (pv 1) mO (aL _)) Ju ou)
    (cF (nY (i:=2) nd rfl (Or.inl rfl) (lH OG hr rfl G.m G.F.kp G.b .nil af (aV (fm yO rfl B.abs Hm (aV (pv 0) cD)) (aV (pv 1) cD))))
    (cz (lJ (G1 (aV (zQ pS (pv 0) (pv 2)) (aV (zQ pS (pv 1) (pv 2)) cD))))))),?_⟩
  refine⟨_,rfl,rfl,_,rfl,?_⟩
  by_cases z:b=0
  · subst z
    refine Sh ?_
    exact⟨by show 1<=sizeLine;decide,h0 rfl⟩
  · refine LC (ZI z) ?_
    refine⟨_,rfl,_,_,rfl,rfl,_,rfl,?_⟩
    refine LC (decide_eq_false (by omega)) ?_
    have bp:0<b:=by omega
    refine⟨_,rfl,t,rfl,_,rfl,_,b,rfl,abs_nonneg t,hb,?_⟩
    rw[MY]
    have g0:=oP (a:=t) bp
    have gl:=GJ (t:=t) bp hz
    refine⟨_,rfl,_,rfl,t,_,rfl,rfl,⟨by omega,gl⟩,_,rfl,_,rfl,b,_,rfl,rfl,⟨by omega,gl⟩,(by show 2<=sizeLine;decide),fun p hp=>h1 bp p hp⟩
theorem DN{fg C:Addr}{dg:FuncData}{dV:Value}{ds:List Value}(D:SX K mg "fraction" f9 dV f fd ["top","bottom"] ds)(B:pP mg)(G:fH K mg "greatest_divisor" cV fg dg ["one","other"])(X:R6 K mg C):
    aQ P w K mg base (iP P w) 3 f fd ["top","bottom"] (Ss C):=by
  have OG:aQ P w K mg base (iP P w) 2 fg dg ["one","other"] Qy:=((kP G.F).cxf _).mono (by decide)
  have OP:aQ P w K mg base (iP P w) 2 f fd ["top","bottom"] (IV C):=DE D.F B G X
  refine D.F.okX mw (fun vs H Q E h=>?_) (fun c9 A outer s H vs Q E hr h=>?_)
  · obtain⟨t,b,rfl,_⟩:=h
    rfl
  obtain⟨t,b,rfl,hz,h0,h1⟩:=h
  have nd:=mw.nd
  refine⟨_,cF (Ag (qG Lh (pv 1) mO (aL _)) (cz (yq rfl gq X.e rfl X.m (aV fR cD))) ou)
    (cF (Ag (qG Mq (pv 1) mO (aL _)) (cz (lJ (lH OP hr rfl D.m D.F.kp D.b .nil af (aV (Pn LB (pv 0)) (aV (Pn LB (pv 1)) cD))))) ou)
    (cF (nY (i:=2) nd rfl (Or.inl rfl) (lH OG hr rfl G.m G.F.kp G.b .nil af (aV (fm yO rfl B.abs Hm (aV (pv 0) cD)) (aV (pv 1) cD))))
    (cz (lJ (G1 (aV (zQ pS (pv 0) (pv 2)) (aV (zQ pS (pv 1) (pv 2)) cD))))))),?_⟩
  refine⟨_,rfl,rfl,_,rfl,?_⟩
  by_cases z:b=0
  · subst z
    refine Sh ?_
    exact⟨by show 1<=sizeLine;decide,h0 rfl⟩
  · refine LC (ZI z) ?_
    refine⟨_,rfl,_,_,rfl,rfl,_,rfl,?_⟩
    have Vw:=h1 z
    unfold ft fb at Vw
    by_cases n:b<0
    · rw[if_pos n,if_pos n] at Vw
      refine W0 (decide_eq_true n) ?_
      exact⟨_,rfl,t,rfl,_,rfl,b,rfl,-t,-b,rfl,by omega,by omega,fun q=>by omega,fun _=>Vw⟩
    · rw[if_neg n,if_neg n] at Vw
      refine LC (decide_eq_false n) ?_
      have bp:0<b:=by omega
      refine⟨_,rfl,t,rfl,_,rfl,_,b,rfl,abs_nonneg t,by omega,?_⟩
      rw[MY]
      have g0:=oP (a:=t) bp
      have gl:=GJ (t:=t) bp hz
      refine⟨_,rfl,_,rfl,t,_,rfl,rfl,⟨by omega,gl⟩,_,rfl,_,rfl,b,_,rfl,rfl,⟨by omega,gl⟩,(by show 2<=sizeLine;decide),fun p hp=>Vw p hp⟩
end
abbrev oH:Stmt:=inClass (top 18) 0
abbrev eI:Stmt:=inClass (top 18) 6
abbrev jS:Stmt:=inClass (top 19) 0
abbrev mK:Stmt:=inClass (top 19) 1
abbrev g_:Stmt:=inClass (top 20) 0
abbrev nK:Stmt:=inClass (top 20) 1
abbrev iI:Stmt:=inClass (top 21) 0
abbrev jL:Stmt:=inClass (top 21) 1
abbrev kA:Stmt:=inClass (top 21) 2
abbrev eU:Stmt:=inClass (top 22) 0
abbrev lT:Stmt:=inClass (top 22) 1
abbrev mQ:Stmt:=inClass (top 22) 2
abbrev i3:Stmt:=inClass (top 23) 0
abbrev h8:Stmt:=inClass (top 24) 0
abbrev h_:Stmt:=inClass (top 25) 0
abbrev jE:Stmt:=inClass (top 26) 0
abbrev qo:Stmt:=inClass (top 26) 1
abbrev tI:Stmt:=inClass (top 26) 2
abbrev iw:Stmt:=inClass (top 16) 0
abbrev jT:Stmt:=inClass (top 16) 1
abbrev iJ:Stmt:=inClass (top 16) 2
abbrev gS:Stmt:=inClass (top 16) 3
abbrev c_:Stmt:=inClass (top 16) 4
abbrev bD:Stmt:=inClass (top 16) 5
abbrev gZ:Stmt:=inClass (top 16) 6
abbrev cx:Stmt:=inClass (top 16) 7
abbrev b6:Stmt:=inClass (top 16) 8
abbrev fY:Stmt:=inClass (top 16) 10
inductive Kd where
  | num | ent | neg | bin (w:Fin 3) | sum
def Gb(c:Kd->Addr):Addr->Prop:=fun C=>∃ k,C=c k
def kept:List Str:=["set","table","unknown","over","whole","from","to","row","each","in","sum","least","most"]
def SV:List Str:=["worth","name","places","one","word","mark","other","binder","group"]
structure ZW(K:PySem.W.Frag)(mg:Str->Option Value)(CB CP C1 C2 C3 C4 C5 C6 C7:Addr):Prop where
  mb:mg "BadText"=some (.ref CB)
  eb:PySem.W.excIn K CB PY "ValueError.__new__"=true
  mp:mg "PlanError"=some (.ref CP)
  ep:PySem.W.excIn K CP PY "ValueError.__new__"=true
  m1:mg "BadEnds"=some (.ref C1)
  m2:mg "BadFraction"=some (.ref C2)
  m3:mg "BadGoal"=some (.ref C3)
  m4:mg "BadName"=some (.ref C4)
  m5:mg "BadTable"=some (.ref C5)
  m6:mg "NotLinear"=some (.ref C6)
  m7:mg "TooMany"=some (.ref C7)
  ve:mg "ValueError"=none
  mro:PySem.W.mroIn K CB (.ref CP)=some true
  lk:ya K CB
  cl:(PySem.W.clsIn K CB).isSome=true
  me:PySem.W.kitOne K (.ref CB) (.ref CB)=some true
  va:PySem.W.kitOne K (.ref CB) (.type "ValueError")=some true
  n1:PySem.W.kitOne K (.ref CB) (.ref C1)=some false
  n2:PySem.W.kitOne K (.ref CB) (.ref C2)=some false
  n3:PySem.W.kitOne K (.ref CB) (.ref C3)=some false
  n4:PySem.W.kitOne K (.ref CB) (.ref C4)=some false
  n5:PySem.W.kitOne K (.ref CB) (.ref C5)=some false
  n6:PySem.W.kitOne K (.ref CB) (.ref C6)=some false
  n7:PySem.W.kitOne K (.ref CB) (.ref C7)=some false
abbrev fC:List Str:=["held","at"]
def II:Kd->Stmt
  | .num=>oH
  | .ent=>oH
  | .neg=>jL
  | .bin _=>lT
  | .sum=>qo
def IK:Kd->Str
  | .num=>"Term.parts"
  | .ent=>"Term.parts"
  | .neg=>"Negative.parts"
  | .bin _=>"Joined.parts"
  | .sum=>"Sum.parts"
def Lx:Kd->Stmt
  | .num=>mK
  | .ent=>nK
  | .neg=>kA
  | .bin _=>mQ
  | .sum=>tI
def Mp:Kd->Str
  | .num=>"Number.told"
  | .ent=>"Entry.told"
  | .neg=>"Negative.told"
  | .bin _=>"Joined.told"
  | .sum=>"Sum.told"
def Iq:Kd->Stmt
  | .num=>eI
  | .ent=>eI
  | .neg=>eI
  | .bin _=>eI
  | .sum=>eI
def Ir:Kd->Str
  | .num=>"Term.depth"
  | .ent=>"Term.depth"
  | .neg=>"Term.depth"
  | .bin _=>"Term.depth"
  | .sum=>"Term.depth"
def MI:Kd->Stmt
  | .num=>jS
  | .ent=>g_
  | .neg=>iI
  | .bin 0=>i3
  | .bin 1=>h8
  | .bin 2=>h_
  | .sum=>jE
def LK:Kd->Str
  | .num=>"Number.__init__"
  | .ent=>"Entry.__init__"
  | .neg=>"Negative.__init__"
  | .bin 0=>"Plus.__init__"
  | .bin 1=>"Minus.__init__"
  | .bin 2=>"Times.__init__"
  | .sum=>"Sum.__init__"
def MO:Kd->List Str
  | .num=>["self","fraction"]
  | .ent=>["self","name","keys"]
  | .neg=>["self","one"]
  | .bin 0=>["self","one","other"]
  | .bin 1=>["self","one","other"]
  | .bin 2=>["self","one","other"]
  | .sum=>["self","binder","group","one"]
set_option genInjectivity false in
set_option genSizeOfSpec false in
structure dS(K:PySem.W.Frag)(mg:Str->Option Value) where
  lV:Addr
  lG:FuncData
  fV:fH K mg "greatest_divisor" cV lV lG ["one","other"]
  tN:Addr
  tw:FuncData
  yQ:Value
  yP:List Value
  dU:SX K mg "fraction" f9 yQ tN tw ["top","bottom"] yP
  vh:Addr
  vP:FuncData
  jF:fH K mg "term_of" hU vh vP ["words","at"]
  v8:Addr
  vE:FuncData
  dQ:fH K mg "term_at" fk v8 vE ["cursor","opened","sums"]
  nZ:Addr
  nL:FuncData
  bV:fH K mg "product_at" dm nZ nL ["cursor","opened","sums"]
  vy:Addr
  vQ:FuncData
  dR:fH K mg "part_at" cX vy vQ ["cursor","opened","sums"]
  zj:Addr
  zV:FuncData
  lM:fH K mg "sum_at" d4 zj zV ["cursor","opened","sums"]
  sC:Addr
  sP:FuncData
  iO:fH K mg "entry_at" gM sC sP ["cursor","opened"]
  kx:Addr
  kz:FuncData
  aK:fH K mg "one_more_open" eC kx kz ["opened"]
  kB:Addr
  kq:FuncData
  aF:fH K mg "checked_depth" eA kB kq ["term"]
  GF:Addr
  HC:FuncData
  ee:fH K mg "_law_at" vq GF HC ["_law_script","_law_k"]
  vG:Addr
  vj:FuncData
  ay:fH K mg "_law_mixed" lg vG vj ["_law_cell","_law_k"]
  nN:Addr
  oj:FuncData
  fP:fH K mg "_law_reserved" kU nN oj []
  y6:Addr
  zv:FuncData
  lB:fH K mg "_law_pool" dX y6 zv ["_law_cell"]
  oG:Addr
  nS:FuncData
  gf:fH K mg "_law_fraction" eE oG nS ["_law_cell"]
  y_:Addr
  zc:FuncData
  fo:fH K mg "_law_tree" cU y_ zc ["_law_cell","_law_deep_here","_law_sums_here","_law_pool_here"]
  sr:Addr
  tE:FuncData
  bz:fH K mg "_law_row_of" bu sr tE ["_law_tree_here","_law_least","_law_cell"]
  sM:Addr
  tf:FuncData
  iS:fH K mg "_law_is_bad" cE sM tf ["_law_e"]
  zo:Addr
  yX:FuncData
  fB:fH K mg "_law_told" kl zo yX ["_law_row","_law_at_here"]
  vT:Addr
  vH:FuncData
  gr:fH K mg "_law_right" b_ vT vH ["_law_row","_law_at_here","_law_tree_here","_law_end"]
  zW:Addr
  y8:FuncData
  lD:fH K mg "_law_long" dE zW y8 ["_law_cell","_law_name"]
  Am:Addr
  Ae:FuncData
  lI:fH K mg "_law_sums" jn Am Ae ["_law_cell","_law_name"]
  yr:Addr
  Ad:FuncData
  lN:fH K mg "_law_deep" cS yr Ad ["_law_cell","_law_name"]
  Mg:Addr
  MS:FuncData
  IY:fH K mg "law" fK Mg MS ["_law_script"]
  k6:Addr
  uM:mg "KEPT_WORDS"=some (.ref k6)
  u9:∀ G,Rep K G (.tup (kept.map Tv.str)) (.ref k6)
  rS:Addr
  rN:R6 K mg rS
  c:Kd->Addr
  cT:Addr
  Ls:mg "Term"=some (.ref cT)
  cJ:Addr
  uV:mg "Joined"=some (.ref cJ)
  Fg:mg "Number"=some (.ref (c .num))
  CS:mg "Entry"=some (.ref (c .ent))
  ze:mg "Negative"=some (.ref (c .neg))
  La:mg "Plus"=some (.ref (c (.bin 0)))
  HX:mg "Minus"=some (.ref (c (.bin 1)))
  Jn:mg "Times"=some (.ref (c (.bin 2)))
  P0:mg "Sum"=some (.ref (c .sum))
  cl:∀ k,Au K (c k)
  na:∀ k f,f∈SV->il K (c k) f
  isi:∀ k,Lp K (c k)/\PySem.W.kitOne K (.ref (c k)) (.ref cT)=some true
  xY:Kd->Addr
  ye:Kd->FuncData
  qL:∀ k,n8 K (c k) "parts" (xY k)
  qB:∀ k,sk K "parts" (IK k) (II k) (xY k) (ye k)
  qv:∀ k,Binds K (ye k) ["self"] []
  BR:Kd->Addr
  Dk:Kd->FuncData
  vS:∀ k,n8 K (c k) "told" (BR k)
  v5:∀ k,sk K "told" (Mp k) (Lx k) (BR k) (Dk k)
  wt:∀ k,Binds K (Dk k) ["self"] []
  xR:Kd->Addr
  yb:Kd->FuncData
  oh:∀ k,n8 K (c k) "depth" (xR k)
  qJ:∀ k,sk K "depth" (Ir k) (Iq k) (xR k) (yb k)
  n_:∀ k,Binds K (yb k) ["self"] []
  fi:Kd->Addr
  di:Kd->FuncData
  Oh:∀ k,Mk K (c k) (fi k)
  Fi:∀ k,sk K "__init__" (LK k) (MI k) (fi k) (di k)
  bi:∀ k,Binds K (di k) (MO k) []
  fJ:Addr
  dJ:FuncData
  cm:Wo K cJ "__init__" fJ
  FJ:sk K "__init__" "Joined.__init__" eU fJ dJ
  bJ:Binds K dJ ["self","word","mark","one","other"] []
  cC:Addr
  Fn:mg "Cursor"=some (.ref cC)
  pb:Au K cC
  XG:∀ f,f∈fC->il K cC f
  Xe:Addr
  Xv:FuncData
  mkC:Mk K cC Xe
  FiC:sk K "__init__" "Cursor.__init__" iw Xe Xv
  biC:Binds K Xv ["self","held","at"] []
  yc:Addr
  xT:FuncData
  qN:n8 K cC "seen" yc
  IJ:sk K "seen" "Cursor.seen" jT yc xT
  qy:Binds K xT ["self"] []
  qR:Addr
  qH:FuncData
  gu:n8 K cC "passes" qR
  Bc:sk K "passes" "Cursor.passes" iJ qR qH
  gn:Binds K qH ["self","word"] []
  vc:Addr
  ui:FuncData
  kh:n8 K cC "wants" vc
  DV:sk K "wants" "Cursor.wants" gS vc ui
  j5:Binds K ui ["self","word"] []
  kZ:Addr
  kX:FuncData
  g6:n8 K cC "take_name" kZ
  vb:sk K "take_name" "Cursor.take_name" c_ kZ kX
  g8:Binds K kX ["self"] []
  jQ:Addr
  jU:FuncData
  r6:n8 K cC "take_names" jQ
  rP:sk K "take_names" "Cursor.take_names" bD jQ jU
  si:Binds K jU ["self","most"] []
  i':Addr
  jc:FuncData
  lX:n8 K cC "sees_number" i'
  qg:sk K "sees_number" "Cursor.sees_number" gZ i' jc
  lO:Binds K jc ["self"] []
  i9:Addr
  jd:FuncData
  lQ:n8 K cC "take_number" i9
  p5:sk K "take_number" "Cursor.take_number" cx i9 jd
  lS:Binds K jd ["self"] []
  jR:Addr
  jW:FuncData
  rM:n8 K cC "take_ratio" jR
  r_:sk K "take_ratio" "Cursor.take_ratio" b6 jR jW
  rX:Binds K jW ["self"] []
  k4:Addr
  kS:FuncData
  tX:n8 K cC "take_keys" k4
  um:sk K "take_keys" "Cursor.take_keys" fY k4 kS
  uv:Binds K kS ["self"] []
  uw:Tok
  uY:mg "MOST_DEPTH"=some (.int 60 uw)
  wF:Tok
  wU:mg "MOST_OPEN"=some (.int 30 wF)
  wN:Tok
  wR:mg "MOST_SUMS"=some (.int 3 wN)
  cB:Addr
  cP:Addr
  c1:Addr
  c2:Addr
  c3:Addr
  c4:Addr
  c5:Addr
  c6:Addr
  c7:Addr
  X:ZW K mg cB cP c1 c2 c3 c4 c5 c6 c7
theorem dS.fld{K:PySem.W.Frag}{mg:Str->Option Value}(A:dS K mg){f:Str}(h:f∈SV):∀ C,Gb A.c C->Au K C/\il K C f:=fun C ⟨k,e⟩=>by subst e;exact⟨A.cl k,A.na k f h⟩
def NJ(c:Addr):Addr->Prop:=fun C=>C=c
theorem dS.fldC{K:PySem.W.Frag}{mg:Str->Option Value}(A:dS K mg){f:Str}(h:f∈fC):∀ C,NJ A.cC C->Au K C/\il K C f:=fun C e=>by cases e;exact⟨A.pb,A.XG f h⟩
def Kk(a:Fq):Tv:=.tup [.int a.1,.int a.2]
def sZ:Ct:=fun ts P=>∃ t b,ts=[.int t,.int b]/\b.natAbs<Kj/\b≠0/\P (.ok (.va (Kk (JT t b))))
theorem t_{P:Program}{w:World}{K:PySem.W.Frag}{mg:Str->Option Value}{base:Heap}(A:dS K mg)(B:pP mg):aQ P w K mg base (iP P w) 3 A.tN A.tw ["top","bottom"] (sN K sZ):=
  (DN A.dU B A.fV A.rN).imp fun vs H Q E ⟨p,ts,P,u,h2,r,⟨t,b,e,hb,h0,h1⟩,cQ,her⟩=>by
    subst e
    obtain⟨x,y,rfl,r1,r2⟩:=Cj r
    rw[ao.mp r1,ao.mp r2]
    refine⟨t,b,rfl,hb,fun z=>absurd z h0,fun z a n=>?_⟩
    have s0:bP (p 0) (upd (p 0) a (.tup [.int (ft t b),.int (fb t b)])):=fun c o' e=>by rw[aI (aU e (u.fresh n 0))];exact e
    refine cQ _ h1 _ _ _ (jv s0) (u.alloc n 0 _) (fun j hj=>by rw[aj (by omega)];exact h2 j (by omega)) ⟨by rw[aj (by decide)];exact h2 2 (by decide),_,rfl,?_⟩
    rw[az]
    exact la.mpr ⟨a,_,rfl,GR.of aH,.cons (ao.mpr rfl) (.cons (ao.mpr rfl) .nil)⟩
theorem tD{n k:Nat}(h:n<2 ^ k)(hk:k<=100000):n<BM:=WB h (Nat.le_trans hk (by decide))
inductive ir where
  | num (a:Fq) | ent (n:Str) (ks:List Str) | neg (t:ir) | bin (w:Fin 3) (a b:ir) | sum (b g:Str) (t:ir)
def kd:ir->Kd
  | .num _=>.num
  | .ent _ _=>.ent
  | .neg _=>.neg
  | .bin w _ _=>.bin w
  | .sum _ _ _=>.sum
def Hc:Kd->List Str
  | .num=>["worth"]
  | .ent=>["name","places"]
  | .neg=>["one"]
  | .bin _=>["word","mark","one","other"]
  | .sum=>["binder","group","one"]
def sj:Fin 3->Str
  | 0=>"plus"
  | 1=>"minus"
  | 2=>"times"
def markB:Fin 3->Str
  | 0=>"+"
  | 1=>"-"
  | 2=>"*"
def y9(ks:List Str):Tv:=.tup (ks.map Tv.str)
def vals(c:Kd->Addr):ir->List Tv
  | .num a=>[Kk a]
  | .ent n ks=>[.str n,y9 ks]
  | .neg t=>[.obj (c (kd t)) (Hc (kd t)) (vals c t)]
  | .bin w a b=>[.str (sj w),.str (markB w),.obj (c (kd a)) (Hc (kd a)) (vals c a),.obj (c (kd b)) (Hc (kd b)) (vals c b)]
  | .sum b g t=>[.str b,.str g,.obj (c (kd t)) (Hc (kd t)) (vals c t)]
abbrev enc(c:Kd->Addr)(t:ir):Tv:=.obj (c (kd t)) (Hc (kd t)) (vals c t)
def ud:ir->List Tv
  | .num a=>[.str "number",Kk a]
  | .ent n ks=>[.str "entry",.str n,y9 ks]
  | .neg t=>[.str "negative",.tup (ud t)]
  | .bin w a b=>[.str (sj w),.tup (ud a),.tup (ud b)]
  | .sum b g t=>[.str "sum",.str b,.str g,.tup (ud t)]
abbrev km(t:ir):Tv:=.tup (ud t)
def Qz:ir->List ir
  | .num _=>[]
  | .ent _ _=>[]
  | .neg t=>[t]
  | .bin _ a b=>[a,b]
  | .sum _ _ t=>[t]
def dp:ir->Nat
  | .num _=>1
  | .ent _ _=>1
  | .neg t=>1+dp t
  | .bin _ a b=>1+max (dp a) (dp b)
  | .sum _ _ t=>1+dp t
theorem lR:∀ t:ir,0<dp t
  | .num _=>by unfold dp;omega
  | .ent _ _=>by unfold dp;omega
  | .neg t=>by unfold dp;omega
  | .bin _ a b=>by unfold dp;omega
  | .sum _ _ t=>by unfold dp;omega
def iT(i:Int):Str:=Str.ofString (toString i)
def Tok:ir->Prop:=fun _=>True
theorem Q6:∀ {t s:ir},s∈Qz t->dp s<dp t
  | .num _,_,h=>by cases h
  | .ent _ _,_,h=>by cases h
  | .neg t,s,h=>by rw[List.mem_singleton.mp h];show _<1+dp t;omega
  | .bin _ a b,s,h=>by
    rcases List.mem_cons.mp h with e | e
    · subst e;show _<1+max (dp s) (dp b);omega
    · rw[List.mem_singleton.mp e];show _<1+max (dp a) (dp b);omega
  | .sum _ _ t,s,h=>by rw[List.mem_singleton.mp h];show _<1+dp t;omega
theorem Ql{t s:ir}(_:Tok t)(_:s∈Qz t):Tok s:=trivial
def CM(c:Kd->Addr)(res:ir->Tv)(n:Nat)(k:Kd):Ct:=fun ts P=>∃ t,kd t=k/\ts=[enc c t]/\dp t<=n/\Tok t/\P (.ok (.va (res t)))
def DM(c:Kd->Addr)(q:Kd->Ct):Addr->Ct->Prop:=fun C ct=>∃ k,C=c k/\ct=q k
theorem CM.len{c:Kd->Addr}{res:ir->Tv}{n:Nat}{k:Kd}:∀ ts Q,CM c res n k ts Q->ts.length=1:=fun ts Q ⟨_,_,e,_⟩=>by rw[e];rfl
theorem dD{X:Cx}{E:St->XK}{m:Str}{c f:Kd->Addr}{d:Kd->FuncData}{ps:List Str}{lv:Nat}{q:Kd->Ct}(F:∀ k,aQ X.prog X.w X.K X.mg X.base (iP X.prog X.w) lv (f k) (d k) ps (sN X.K (q k)))(M:∀ k,n8 X.K (c k) m (f k))(cl:∀ k,Au X.K (c k))
    (b:∀ k,Binds X.K (d k) ps []) (hr:eZ lv X.A) (hx:gA (iP X.prog X.w) X E):Pr X X.K E m (DM c q):=fun C ct ⟨k,e1,e2⟩=>by
  subst e1 e2
  exact⟨cl k,_,f k,d k,ps,lv,M k,F k,hr,b k,hx⟩
def DO(C:Addr)(fs:List Str)(c:Cm):Addr->List Str->Cm->Prop:=fun C' Hb c'=>C'=C/\Hb=fs/\c'=c
theorem aO{X:Cx}{E:St->XK}{m:Str}{C f:Addr}{d:FuncData}{ps:List Str}{lv:Nat}{fs:List Str}{c:Cm}(F:aQ X.prog X.w X.K X.mg X.base (iP X.prog X.w) lv f d ps (yf X.K C fs c))(M:n8 X.K C m f)(cl:Au X.K C)
    (b:Binds X.K d ps []) (hr:eZ lv X.A) (hx:gA (iP X.prog X.w) X E):L_ X X.K E m (DO C fs c):=fun C' Hb c' ⟨e1,e2,e3⟩=>by
  subst e1 e2 e3
  exact⟨cl,_,f,d,ps,lv,M,F,hr,b,hx⟩
end Pw
namespace Pw
open PySem L2
seal PE PT PW PA PS ju PG sg PI rA PO PJ
section
variable {P:Program} {w:World} {K:PySem.W.Frag} {mg:Str->Option Value} {base:Heap} {f:Addr} {fd:FuncData}
theorem zT:aA ["self","fraction"] ["self","fraction"] (ak jS):=⟨rfl,rfl,rfl,by decide +kernel,rfl,by decide +kernel,by decide +kernel⟩
theorem rE:Lk jS "self" .local:=by decide +kernel
theorem nu:Lk jS "fraction" .local:=by decide +kernel
def EY:List Tv->(List Tv->Prop)->Prop:=fun ts P=>∃ a0,ts=[a0]/\P [a0]
theorem A2(A:dS K mg):aQ P w K mg base yI 1 (A.fi .num) (A.di .num) ["self","fraction"] (Ao K (A.c .num) ["worth"] EY):=by
  refine (A.Fi .num).ok zT (Ao.len fun ts P ⟨_,e,_⟩=>by rw[e];rfl) fun c9 A_ outer s H vs Q E hr ⟨x,dx,us,p,ts,P',e,ne,u,e2,h3,r,⟨a0,e1,hP⟩,k⟩=>⟨_,cz (jK (aW (i:=0) rfl (Or.inl rE)) (aW (i:=1) rfl (Or.inl nu)) rfl),?_⟩
  subst e e1
  obtain⟨v0,r0,rfl,p0,h0⟩:=ax.mp r
  obtain rfl:=aP.mp h0
  have hx:H x=some (.ins (A.c .num) dx []):=u.sub 2 _ _ (by rw[e2];exact hX)
  refine⟨_,rfl,_,rfl,x,A.c .num,dx,_,rfl,hx,A.cl .num,A.na .num _ (by decide),aJ rfl,?_⟩
  rw[show jZ _ _ []=[_] from rfl]
  exact qE (fs:=["worth"]) (zs:=[v0]) u e2 h3 k hP rfl (aw.cons p0 aw.nil)
theorem vx:aA ["self","one"] ["self","one"] (ak iI):=⟨rfl,rfl,rfl,by decide +kernel,rfl,by decide +kernel,by decide +kernel⟩
theorem pz:Lk iI "self" .local:=by decide +kernel
theorem pZ:Lk iI "one" .local:=by decide +kernel
def zC:List Tv->(List Tv->Prop)->Prop:=fun ts P=>∃ a0,ts=[a0]/\P [a0]
theorem xy(A:dS K mg):aQ P w K mg base yI 1 (A.fi .neg) (A.di .neg) ["self","one"] (Ao K (A.c .neg) ["one"] zC):=by
  refine (A.Fi .neg).ok vx (Ao.len fun ts P ⟨_,e,_⟩=>by rw[e];rfl) fun c9 A_ outer s H vs Q E hr ⟨x,dx,us,p,ts,P',e,ne,u,e2,h3,r,⟨a0,e1,hP⟩,k⟩=>⟨_,cz (jK (aW (i:=0) rfl (Or.inl pz)) (aW (i:=1) rfl (Or.inl pZ)) rfl),?_⟩
  subst e e1
  obtain⟨v0,r0,rfl,p0,h0⟩:=ax.mp r
  obtain rfl:=aP.mp h0
  have hx:H x=some (.ins (A.c .neg) dx []):=u.sub 2 _ _ (by rw[e2];exact hX)
  refine⟨_,rfl,_,rfl,x,A.c .neg,dx,_,rfl,hx,A.cl .neg,A.na .neg _ (by decide),aJ rfl,?_⟩
  rw[show jZ _ _ []=[_] from rfl]
  exact qE (fs:=["one"]) (zs:=[v0]) u e2 h3 k hP rfl (aw.cons p0 aw.nil)
theorem EN:aA ["self","binder","group","one"] ["self","binder","group","one"] (ak jE):=⟨rfl,rfl,rfl,by decide +kernel,rfl,by decide +kernel,by decide +kernel⟩
theorem jO:Lk jE "self" .local:=by decide +kernel
theorem tq:Lk jE "binder" .local:=by decide +kernel
theorem uQ:Lk jE "group" .local:=by decide +kernel
theorem xF:Lk jE "one" .local:=by decide +kernel
def Pp:List Tv->(List Tv->Prop)->Prop:=fun ts P=>∃ a0 a1 a2,ts=[a0,a1,a2]/\P [a0,a1,a2]
theorem G8(A:dS K mg):aQ P w K mg base yI 1 (A.fi .sum) (A.di .sum) ["self","binder","group","one"] (Ao K (A.c .sum) ["binder","group","one"] Pp):=by
  refine (A.Fi .sum).ok EN (Ao.len fun ts P ⟨_,_,_,e,_⟩=>by rw[e];rfl) fun c9 A_ outer s H vs Q E hr ⟨x,dx,us,p,ts,P',e,ne,u,e2,h3,r,⟨a0,a1,a2,e1,hP⟩,k⟩=>⟨_,cF (jK (aW (i:=0) rfl (Or.inl jO)) (aW (i:=1) rfl (Or.inl tq)) rfl) (cF (jK (aW (i:=0) rfl (Or.inl jO)) (aW (i:=2) rfl (Or.inl uQ)) rfl) (cz (jK (aW (i:=0) rfl (Or.inl jO)) (aW (i:=3) rfl (Or.inl xF)) rfl))),?_⟩
  subst e e1
  obtain⟨v0,r0,rfl,p0,h0⟩:=ax.mp r
  obtain⟨v1,r1,rfl,p1,h1⟩:=ax.mp h0
  obtain⟨v2,r2,rfl,p2,h2⟩:=ax.mp h1
  obtain rfl:=aP.mp h2
  have hx:H x=some (.ins (A.c .sum) dx []):=u.sub 2 _ _ (by rw[e2];exact hX)
  refine⟨_,rfl,_,rfl,x,A.c .sum,dx,_,rfl,hx,A.cl .sum,A.na .sum _ (by decide),aJ rfl,_,rfl,_,rfl,x,A.c .sum,dx,_,rfl,aH,A.cl .sum,A.na .sum _ (by decide),aJ rfl,_,rfl,_,rfl,x,A.c .sum,dx,_,rfl,aH,A.cl .sum,A.na .sum _ (by decide),aJ rfl,?_⟩
  rw[iK,iK]
  exact qE (fs:=["binder","group","one"]) (zs:=[v0,v1,v2]) u e2 h3 k hP rfl (aw.cons p0 (aw.cons p1 (aw.cons p2 aw.nil)))
theorem AS:aA ["self","name","keys"] ["self","name","keys"] (ak g_):=⟨rfl,rfl,rfl,by decide +kernel,rfl,by decide +kernel,by decide +kernel⟩
theorem l6:Lk g_ "self" .local:=by decide +kernel
theorem sO:Lk g_ "name" .local:=by decide +kernel
theorem sq:Lk g_ "keys" .local:=by decide +kernel
theorem qY:Lk g_ "tuple" .globalImplicit:=by decide +kernel
def Dl:List Tv->(List Tv->Prop)->Prop:=fun ts P=>∃ a0 ks,ts=[a0,y9 ks]/\P [a0,y9 ks]
theorem tR(A:dS K mg)(B:pP mg):aQ P w K mg base yI 1 (A.fi .ent) (A.di .ent) ["self","name","keys"] (Ao K (A.c .ent) ["name","places"] Dl):=by
  refine (A.Fi .ent).ok AS (Ao.len fun ts P ⟨_,_,e,_⟩=>by rw[e];rfl) fun c9 A_ outer s H vs Q E hr ⟨x,dx,us,p,ts,P',e,ne,u,e2,h3,r,⟨a0,ks,e1,hP⟩,k⟩=>⟨_,cF (jK (aW (i:=0) rfl (Or.inl l6)) (aW (i:=1) rfl (Or.inl sO)) rfl)
    (cz (jK (aW (i:=0) rfl (Or.inl l6)) (Bp (BV (K:=K) rfl) qY B.tuple t5 (aV (aW (i:=2) rfl (Or.inl sq)) cD)) rfl)),?_⟩
  subst e e1
  obtain⟨v0,r0,rfl,p0,h0⟩:=ax.mp r
  obtain⟨v1,r1,rfl,p1,h1⟩:=ax.mp h0
  obtain rfl:=aP.mp h1
  have hx:H x=some (.ins (A.c .ent) dx []):=u.sub 2 _ _ (by rw[e2];exact hX)
  refine⟨_,rfl,_,rfl,x,A.c .ent,dx,_,rfl,hx,A.cl .ent,A.na .ent _ (by decide),aJ rfl,_,rfl,?_⟩
  have u2:=Im (g':=jZ "name" v0 []) u e2
  refine⟨_,[y9 ks],fun t=>t=y9 ks,u2,aw.cons (by rw[aj (by decide)];exact p1) aw.nil,rfl,fun t et v G' H' sm un rp=>?_⟩
  subst et
  rw[aj (by decide)] at sm
  have Na:H' x=some (.ins (A.c .ent) dx (jZ "name" v0 [])):=(un.mem _ _).mpr ⟨2,by rw[aj (by decide),az];exact hX⟩
  refine⟨_,rfl,x,A.c .ent,dx,_,rfl,Na,A.cl .ent,A.na .ent _ (by decide),aJ rfl,?_⟩
  have e3:a9 (a9 p 2 (i8 x dx (A.c .ent) (jZ "name" v0 []))) 0 G' 2=i8 x dx (A.c .ent) (jZ "name" v0 []):=by rw[aj (by decide),az]
  refine qE (fs:=["name","places"]) (zs:=[v0,v]) un e3 (fun j hj=>by rw[aj (by omega),aj (by omega)];exact h3 j hj) (fun l hl zs p' H2 g u' e' h' hf rz=>k l hl zs p' H2 ⟨?_,?_⟩ u' e' h' hf rz) hP rfl (aw.cons ?_ (aw.cons (by rw[az];exact rp) aw.nil))
  · have:=g.same;rw[az] at this;exact sm.trans this
  · have:=g.fr;rw[aj (by decide),aj (by decide)] at this;exact this
  · rw[az];exact p0.up sm
theorem zB:aA ["self","held","at"] ["self","held","at"] (ak iw):=⟨rfl,rfl,rfl,by decide +kernel,rfl,by decide +kernel,by decide +kernel⟩
theorem kH:Lk iw "self" .local:=by decide +kernel
theorem rg:Lk iw "held" .local:=by decide +kernel
theorem uN:Lk iw "at" .local:=by decide +kernel
def DK:List Tv->(List Tv->Prop)->Prop:=fun ts P=>∃ a0 a1,ts=[a0,a1]/\P [a0,a1]
theorem A3(A:dS K mg):aQ P w K mg base yI 1 A.Xe A.Xv ["self","held","at"] (Ao K A.cC fC DK):=by
  refine A.FiC.ok zB (Ao.len fun ts P ⟨_,_,e,_⟩=>by rw[e];rfl) fun c9 A_ outer s H vs Q E hr ⟨x,dx,us,p,ts,P',e,ne,u,e2,h3,r,⟨a0,a1,e1,hP⟩,k⟩=>⟨_,cF (jK (aW (i:=0) rfl (Or.inl kH)) (aW (i:=1) rfl (Or.inl rg)) rfl) (cz (jK (aW (i:=0) rfl (Or.inl kH)) (aW (i:=2) rfl (Or.inl uN)) rfl)),?_⟩
  subst e e1
  obtain⟨v0,r0,rfl,p0,h0⟩:=ax.mp r
  obtain⟨v1,r1,rfl,p1,h1⟩:=ax.mp h0
  obtain rfl:=aP.mp h1
  have hx:H x=some (.ins A.cC dx []):=u.sub 2 _ _ (by rw[e2];exact hX)
  refine⟨_,rfl,_,rfl,x,A.cC,dx,_,rfl,hx,A.pb,A.XG _ (by decide),aJ rfl,_,rfl,_,rfl,x,A.cC,dx,_,rfl,aH,A.pb,A.XG _ (by decide),aJ rfl,?_⟩
  rw[iK]
  exact qE (fs:=fC) (zs:=[v0,v1]) u e2 h3 k hP rfl (aw.cons p0 (aw.cons p1 aw.nil))
theorem z0:aA ["self","word","mark","one","other"] ["self","word","mark","one","other"] (ak eU):=⟨rfl,rfl,rfl,by decide +kernel,rfl,by decide +kernel,by decide +kernel⟩
theorem ff:Lk eU "self" .local:=by decide +kernel
theorem qV:Lk eU "word" .local:=by decide +kernel
theorem rF:Lk eU "mark" .local:=by decide +kernel
theorem tj:Lk eU "one" .local:=by decide +kernel
theorem pQ:Lk eU "other" .local:=by decide +kernel
def W4:List Tv->(List Tv->Prop)->Prop:=fun ts P=>∃ a0 a1 a2 a3,ts=[a0,a1,a2,a3]/\P [a0,a1,a2,a3]
theorem mG(A:dS K mg)(b:Fin 3):aQ P w K mg base yI 1 A.fJ A.dJ ["self","word","mark","one","other"] (Ao K (A.c (.bin b)) ["word","mark","one","other"] W4):=by
  refine A.FJ.ok z0 (Ao.len fun ts P ⟨_,_,_,_,e,_⟩=>by rw[e];rfl) fun c9 A_ outer s H vs Q E hr ⟨x,dx,us,p,ts,P',e,ne,u,e2,h3,r,⟨a0,a1,a2,a3,e1,hP⟩,k⟩=>⟨_,cF (jK (aW (i:=0) rfl (Or.inl ff)) (aW (i:=1) rfl (Or.inl qV)) rfl) (cF (jK (aW (i:=0) rfl (Or.inl ff)) (aW (i:=2) rfl (Or.inl rF)) rfl) (cF (jK (aW (i:=0) rfl (Or.inl ff)) (aW (i:=3) rfl (Or.inl tj)) rfl) (cz (jK (aW (i:=0) rfl (Or.inl ff)) (aW (i:=4) rfl (Or.inl pQ)) rfl)))),?_⟩
  subst e e1
  obtain⟨v0,r0,rfl,p0,h0⟩:=ax.mp r
  obtain⟨v1,r1,rfl,p1,h1⟩:=ax.mp h0
  obtain⟨v2,r2,rfl,p2,h2⟩:=ax.mp h1
  obtain⟨v3,r3,rfl,p3,h4⟩:=ax.mp h2
  obtain rfl:=aP.mp h4
  have hx:H x=some (.ins (A.c (.bin b)) dx []):=u.sub 2 _ _ (by rw[e2];exact hX)
  refine⟨_,rfl,_,rfl,x,A.c (.bin b),dx,_,rfl,hx,A.cl (.bin b),A.na (.bin b) _ (by decide),aJ rfl,_,rfl,_,rfl,x,A.c (.bin b),dx,_,rfl,aH,A.cl (.bin b),A.na (.bin b) _ (by decide),aJ rfl,_,rfl,_,rfl,x,A.c (.bin b),dx,_,rfl,aH,A.cl (.bin b),A.na (.bin b) _ (by decide),aJ rfl,_,rfl,_,rfl,x,A.c (.bin b),dx,_,rfl,aH,A.cl (.bin b),A.na (.bin b) _ (by decide),aJ rfl,?_⟩
  rw[iK,iK,iK]
  exact qE (fs:=["word","mark","one","other"]) (zs:=[v0,v1,v2,v3]) u e2 h3 k hP rfl (aw.cons p0 (aw.cons p1 (aw.cons p2 (aw.cons p3 aw.nil))))
theorem Cw:aA ["self","one","other"] ["self","one","other"] (ak i3):=⟨rfl,rfl,rfl,by decide +kernel,rfl,by decide +kernel,by decide +kernel⟩
theorem vf:Lk i3 "self" .local:=by decide +kernel
theorem vN:Lk i3 "one" .local:=by decide +kernel
theorem tL:Lk i3 "other" .local:=by decide +kernel
theorem qS:Lk i3 "Joined" .globalImplicit:=by decide +kernel
def Mh:List Tv->(List Tv->Prop)->Prop:=fun ts P=>∃ a0 a1,ts=[a0,a1]/\P [.str "plus",.str "+",a0,a1]
theorem E6(A:dS K mg):aQ P w K mg base yI 2 (A.fi (.bin 0)) (A.di (.bin 0)) ["self","one","other"] (Ao K (A.c (.bin 0)) ["word","mark","one","other"] Mh):=by
  refine (A.Fi (.bin 0)).ok Cw (Ao.len fun ts P ⟨_,_,e,_⟩=>by rw[e];rfl) fun c9 A_ outer s H vs Q E hr ⟨x,dx,us,p,ts,P',e,ne,u,e2,h3,r,⟨a0,a1,e1,hP⟩,k⟩=>⟨_,cz (uH (Cd qS A.uV A.cm (mG A 0) hr A.bJ DP
    (aV (aW (i:=0) rfl (Or.inl vf)) (aV fR (aV fR (aV (aW (i:=1) rfl (Or.inl vN)) (aV (aW (i:=2) rfl (Or.inl tL)) cD))))))),?_⟩
  subst e e1
  obtain⟨v0,r0,rfl,p0,h0⟩:=ax.mp r
  obtain⟨v1,r1,rfl,p1,h1⟩:=ax.mp h0
  obtain rfl:=aP.mp h1
  exact⟨_,rfl,_,rfl,_,rfl,x,dx,[.str "plus",.str "+",v0,v1],p,[.str "plus",.str "+",a0,a1],P',rfl,ne,u,e2,h3,aw.cons (aC.mpr rfl) (aw.cons (aC.mpr rfl) (aw.cons p0 (aw.cons p1 aw.nil))),⟨_,_,_,_,rfl,hP⟩,k⟩
theorem AN:aA ["self","one","other"] ["self","one","other"] (ak h8):=⟨rfl,rfl,rfl,by decide +kernel,rfl,by decide +kernel,by decide +kernel⟩
theorem sy:Lk h8 "self" .local:=by decide +kernel
theorem uP:Lk h8 "one" .local:=by decide +kernel
theorem rm:Lk h8 "other" .local:=by decide +kernel
theorem qk:Lk h8 "Joined" .globalImplicit:=by decide +kernel
def ID:List Tv->(List Tv->Prop)->Prop:=fun ts P=>∃ a0 a1,ts=[a0,a1]/\P [.str "minus",.str "-",a0,a1]
theorem B7(A:dS K mg):aQ P w K mg base yI 2 (A.fi (.bin 1)) (A.di (.bin 1)) ["self","one","other"] (Ao K (A.c (.bin 1)) ["word","mark","one","other"] ID):=by
  refine (A.Fi (.bin 1)).ok AN (Ao.len fun ts P ⟨_,_,e,_⟩=>by rw[e];rfl) fun c9 A_ outer s H vs Q E hr ⟨x,dx,us,p,ts,P',e,ne,u,e2,h3,r,⟨a0,a1,e1,hP⟩,k⟩=>⟨_,cz (uH (Cd qk A.uV A.cm (mG A 1) hr A.bJ DP
    (aV (aW (i:=0) rfl (Or.inl sy)) (aV fR (aV fR (aV (aW (i:=1) rfl (Or.inl uP)) (aV (aW (i:=2) rfl (Or.inl rm)) cD))))))),?_⟩
  subst e e1
  obtain⟨v0,r0,rfl,p0,h0⟩:=ax.mp r
  obtain⟨v1,r1,rfl,p1,h1⟩:=ax.mp h0
  obtain rfl:=aP.mp h1
  exact⟨_,rfl,_,rfl,_,rfl,x,dx,[.str "minus",.str "-",v0,v1],p,[.str "minus",.str "-",a0,a1],P',rfl,ne,u,e2,h3,aw.cons (aC.mpr rfl) (aw.cons (aC.mpr rfl) (aw.cons p0 (aw.cons p1 aw.nil))),⟨_,_,_,_,rfl,hP⟩,k⟩
theorem AJ:aA ["self","one","other"] ["self","one","other"] (ak h_):=⟨rfl,rfl,rfl,by decide +kernel,rfl,by decide +kernel,by decide +kernel⟩
theorem sv:Lk h_ "self" .local:=by decide +kernel
theorem vd:Lk h_ "one" .local:=by decide +kernel
theorem q_:Lk h_ "other" .local:=by decide +kernel
theorem p7:Lk h_ "Joined" .globalImplicit:=by decide +kernel
def Ii:List Tv->(List Tv->Prop)->Prop:=fun ts P=>∃ a0 a1,ts=[a0,a1]/\P [.str "times",.str "*",a0,a1]
theorem Cz(A:dS K mg):aQ P w K mg base yI 2 (A.fi (.bin 2)) (A.di (.bin 2)) ["self","one","other"] (Ao K (A.c (.bin 2)) ["word","mark","one","other"] Ii):=by
  refine (A.Fi (.bin 2)).ok AJ (Ao.len fun ts P ⟨_,_,e,_⟩=>by rw[e];rfl) fun c9 A_ outer s H vs Q E hr ⟨x,dx,us,p,ts,P',e,ne,u,e2,h3,r,⟨a0,a1,e1,hP⟩,k⟩=>⟨_,cz (uH (Cd p7 A.uV A.cm (mG A 2) hr A.bJ DP
    (aV (aW (i:=0) rfl (Or.inl sv)) (aV fR (aV fR (aV (aW (i:=1) rfl (Or.inl vd)) (aV (aW (i:=2) rfl (Or.inl q_)) cD))))))),?_⟩
  subst e e1
  obtain⟨v0,r0,rfl,p0,h0⟩:=ax.mp r
  obtain⟨v1,r1,rfl,p1,h1⟩:=ax.mp h0
  obtain rfl:=aP.mp h1
  exact⟨_,rfl,_,rfl,_,rfl,x,dx,[.str "times",.str "*",v0,v1],p,[.str "times",.str "*",a0,a1],P',rfl,ne,u,e2,h3,aw.cons (aC.mpr rfl) (aw.cons (aC.mpr rfl) (aw.cons p0 (aw.cons p1 aw.nil))),⟨_,_,_,_,rfl,hP⟩,k⟩
end
end Pw
namespace Pw
open PySem L2
seal PE PT PW PA PS ju PG sg PI rA PO PJ
section
variable {P:Program} {w:World} {K:PySem.W.Frag} {mg:Str->Option Value} {base:Heap} {f:Addr} {fd:FuncData}
theorem mr{m:Str}(h:m∈(["parts","told","depth"]:List Str)):∀ k:Kd,(Hc k).contains m=false:=by
  have:∀ x∈(["parts","told","depth"]:List Str),∀ k:Kd,(Hc k).contains x=false:=by
    intro x hx k
    simp only [List.mem_cons,List.not_mem_nil,or_false] at hx
    rcases hx with rfl | rfl | rfl <;> cases k <;> rfl
  exact this m h
def kW(cc:Kd->Addr)(n:Nat):Sv:=
  gk (fG [])
theorem sh:aA ["self"] ["self"] (ak oH):=⟨rfl,rfl,rfl,by decide +kernel,rfl,by decide +kernel,by decide +kernel⟩
def nF(cc:Kd->Addr)(n:Nat):Sv:=
  gk (fG [sQ (Gb cc) "one" (ag 0)])
theorem ux:aA ["self"] ["self"] (ak jL):=⟨rfl,rfl,rfl,by decide +kernel,rfl,by decide +kernel,by decide +kernel⟩
theorem nQ:Lk jL "self" .local:=by decide +kernel
def pI(cc:Kd->Addr)(n:Nat):Sv:=
  gk (fG [sQ (Gb cc) "one" (ag 0),sQ (Gb cc) "other" (ag 0)])
theorem xw:aA ["self"] ["self"] (ak lT):=⟨rfl,rfl,rfl,by decide +kernel,rfl,by decide +kernel,by decide +kernel⟩
theorem kc:Lk lT "self" .local:=by decide +kernel
def w5(cc:Kd->Addr)(n:Nat):Sv:=
  gk (fG [sQ (Gb cc) "one" (ag 0)])
theorem B8:aA ["self"] ["self"] (ak qo):=⟨rfl,rfl,rfl,by decide +kernel,rfl,by decide +kernel,by decide +kernel⟩
theorem uJ:Lk qo "self" .local:=by decide +kernel
def Hy(c:Kd->Addr)(t:ir):Tv:=.tup ((Qz t).map (enc c))
theorem uW{c:Kd->Addr}{n:Nat}:∀ ts Q,CM c (Hy c) n .num ts Q->fu 1 (kW c n) ts Q:=by
  rintro ts Q ⟨t,hk,rfl,hd,ok,q⟩
  cases t with
  | num a=>exact q
  | _=>cases hk
theorem tU{c:Kd->Addr}{n:Nat}:∀ ts Q,CM c (Hy c) n .ent ts Q->fu 1 (kW c n) ts Q:=by
  rintro ts Q ⟨t,hk,rfl,hd,ok,q⟩
  cases t with
  | ent a b=>exact q
  | _=>cases hk
theorem pw{c:Kd->Addr}{n:Nat}:∀ ts Q,CM c (Hy c) n .neg ts Q->fu 1 (nF c n) ts Q:=by
  rintro ts Q ⟨t,hk,rfl,hd,ok,q⟩
  cases t with
  | neg t=>exact⟨⟨_,rfl⟩,_,rfl,q⟩
  | _=>cases hk
theorem uO{c:Kd->Addr}{n:Nat}{w:Fin 3}:∀ ts Q,CM c (Hy c) n (.bin w) ts Q->fu 1 (pI c n) ts Q:=by
  rintro ts Q ⟨t,hk,rfl,hd,ok,q⟩
  cases t with
  | bin w a b=>exact⟨⟨_,rfl⟩,_,rfl,⟨_,rfl⟩,_,rfl,q⟩
  | _=>cases hk
theorem vm{c:Kd->Addr}{n:Nat}:∀ ts Q,CM c (Hy c) n .sum ts Q->fu 1 (w5 c n) ts Q:=by
  rintro ts Q ⟨t,hk,rfl,hd,ok,q⟩
  cases t with
  | sum b g t=>exact⟨⟨_,rfl⟩,_,rfl,q⟩
  | _=>cases hk
theorem qd(A:dS K mg)(B:pP mg)(n:Nat):∀ k,aQ P w K mg base (iP P w) 1 (A.xY k) (A.ye k) ["self"] (sN K (CM A.c (Hy A.c) n k))
  | .num=>i7 (A.qB .num) sh (kW A.c n) CM.len uW fun c9 A_ outer s H E hr=>have hu:=hr.units
        av (a_ (cy ae))
  | .ent=>i7 (A.qB .ent) sh (kW A.c n) CM.len tU fun c9 A_ outer s H E hr=>have hu:=hr.units
        av (a_ (cy ae))
  | .neg=>i7 (A.qB .neg) ux (nF A.c n) CM.len pw fun c9 A_ outer s H E hr=>have hu:=hr.units
        av (a_ (cy (hz:=aJ rfl) (cj (mq rfl (A.fld (by decide)) (v_var (i:=0) rfl (Or.inl nQ))) ae)))
  | .bin b=>i7 (A.qB (.bin b)) xw (pI A.c n) CM.len uO fun c9 A_ outer s H E hr=>have hu:=hr.units
        av (a_ (cy (hz:=aJ rfl) (cj (mq rfl (A.fld (by decide)) (v_var (i:=0) rfl (Or.inl kc))) (cj (mq rfl (A.fld (by decide)) (v_var (i:=0) rfl (Or.inl kc))) ae))))
  | .sum=>i7 (A.qB .sum) B8 (w5 A.c n) CM.len vm fun c9 A_ outer s H E hr=>have hu:=hr.units
        av (a_ (cy (hz:=aJ rfl) (cj (mq rfl (A.fld (by decide)) (v_var (i:=0) rfl (Or.inl uJ))) ae)))
def rZ(cc:Kd->Addr)(n:Nat):Sv:=
  gk (fG [vC (.str "number"),sQ (Gb cc) "worth" (ag 0)])
theorem yn:aA ["self"] ["self"] (ak mK):=⟨rfl,rfl,rfl,by decide +kernel,rfl,by decide +kernel,by decide +kernel⟩
theorem rG:Lk mK "self" .local:=by decide +kernel
def uh(cc:Kd->Addr)(n:Nat):Sv:=
  gk (fG [vC (.str "entry"),sQ (Gb cc) "name" (ag 0),sQ (Gb cc) "places" (ag 0)])
theorem AO:aA ["self"] ["self"] (ak nK):=⟨rfl,rfl,rfl,by decide +kernel,rfl,by decide +kernel,by decide +kernel⟩
theorem lZ:Lk nK "self" .local:=by decide +kernel
def oT(cc:Kd->Addr)(n:Nat):Sv:=
  gk (fG [vC (.str "negative"),sf (DM cc (CM cc km n)) "told" (sQ (Gb cc) "one" (ag 0)) []])
theorem vn:aA ["self"] ["self"] (ak kA):=⟨rfl,rfl,rfl,by decide +kernel,rfl,by decide +kernel,by decide +kernel⟩
theorem o5:Lk kA "self" .local:=by decide +kernel
def rT(cc:Kd->Addr)(n:Nat):Sv:=
  gk (fG [sQ (Gb cc) "word" (ag 0),sf (DM cc (CM cc km n)) "told" (sQ (Gb cc) "one" (ag 0)) [],sf (DM cc (CM cc km n)) "told" (sQ (Gb cc) "other" (ag 0)) []])
theorem zY:aA ["self"] ["self"] (ak mQ):=⟨rfl,rfl,rfl,by decide +kernel,rfl,by decide +kernel,by decide +kernel⟩
theorem ig:Lk mQ "self" .local:=by decide +kernel
def yZ(cc:Kd->Addr)(n:Nat):Sv:=
  gk (fG [vC (.str "sum"),sQ (Gb cc) "binder" (ag 0),sQ (Gb cc) "group" (ag 0),sf (DM cc (CM cc km n)) "told" (sQ (Gb cc) "one" (ag 0)) []])
theorem FC:aA ["self"] ["self"] (ak tI):=⟨rfl,rfl,rfl,by decide +kernel,rfl,by decide +kernel,by decide +kernel⟩
theorem jM:Lk tI "self" .local:=by decide +kernel
theorem wj{c:Kd->Addr}{n:Nat}:∀ ts Q,CM c km (n+1) .num ts Q->fu 1 (rZ c n) ts Q:=by
  rintro ts Q ⟨t,hk,rfl,hd,ok,q⟩
  cases t with
  | num a=>exact⟨⟨_,rfl⟩,_,rfl,q⟩
  | _=>cases hk
theorem xI{c:Kd->Addr}{n:Nat}:∀ ts Q,CM c km (n+1) .ent ts Q->fu 1 (uh c n) ts Q:=by
  rintro ts Q ⟨t,hk,rfl,hd,ok,q⟩
  cases t with
  | ent m ks=>exact⟨⟨_,rfl⟩,_,rfl,⟨_,rfl⟩,_,rfl,q⟩
  | _=>cases hk
theorem sx{c:Kd->Addr}{n:Nat}:∀ ts Q,CM c km (n+1) .neg ts Q->fu 1 (oT c n) ts Q:=by
  rintro ts Q ⟨t,hk,rfl,hd,ok,q⟩
  cases t with
  | neg t=>exact⟨⟨_,rfl⟩,_,rfl,mr (by decide) _,_,⟨_,rfl,rfl⟩,t,rfl,rfl,(by have:1+dp t<=n+1:=hd;omega),ok,q⟩
  | _=>cases hk
theorem vt{c:Kd->Addr}{n:Nat}{w:Fin 3}:∀ ts Q,CM c km (n+1) (.bin w) ts Q->fu 1 (rT c n) ts Q:=by
  rintro ts Q ⟨t,hk,rfl,hd,ok,q⟩
  cases t with
  | bin w a b=>
    have h:1+max (dp a) (dp b)<=n+1:=hd
    exact⟨⟨_,rfl⟩,_,rfl,⟨_,rfl⟩,_,rfl,mr (by decide) _,_,⟨_,rfl,rfl⟩,a,rfl,rfl,by omega,trivial,⟨_,rfl⟩,_,rfl,mr (by decide) _,_,⟨_,rfl,rfl⟩,b,rfl,rfl,by omega,trivial,q⟩
  | _=>cases hk
theorem A4{c:Kd->Addr}{n:Nat}:∀ ts Q,CM c km (n+1) .sum ts Q->fu 1 (yZ c n) ts Q:=by
  rintro ts Q ⟨t,hk,rfl,hd,ok,q⟩
  cases t with
  | sum b g t=>exact⟨⟨_,rfl⟩,_,rfl,⟨_,rfl⟩,_,rfl,⟨_,rfl⟩,_,rfl,mr (by decide) _,_,⟨_,rfl,rfl⟩,t,rfl,rfl,(by have:1+dp t<=n+1:=hd;omega),trivial,q⟩
  | _=>cases hk
theorem CM.zero{c:Kd->Addr}{res:ir->Tv}{k:Kd}:∀ ts Q,CM c res 0 k ts Q->False:=fun ts Q ⟨t,_,_,h,_⟩=>absurd (lR t) (by omega)
theorem IH(A:dS K mg)(B:pP mg):∀ n k,aQ P w K mg base (iP P w) (1+n) (A.BR k) (A.Dk k) ["self"] (sN K (CM A.c km n k))
  | 0,_=>aQ.none CM.zero
  | n+1,k=>by
    have ih:=IH A B n
    cases k with
    | num=>
      exact i7 (A.v5 .num) yn (rZ A.c n) CM.len wj fun c9 A_ outer s H E hr=>have hu:=hr.units
        av (a_ (cy (hz:=aJ rfl) (aa (aq) (cj (mq rfl (A.fld (by decide)) (v_var (i:=0) rfl (Or.inl rG))) ae))))
    | ent=>
      exact i7 (A.v5 .ent) AO (uh A.c n) CM.len xI fun c9 A_ outer s H E hr=>have hu:=hr.units
        av (a_ (cy (hz:=aJ rfl) (aa (aq) (cj (mq rfl (A.fld (by decide)) (v_var (i:=0) rfl (Or.inl lZ))) (cj (mq rfl (A.fld (by decide)) (v_var (i:=0) rfl (Or.inl lZ))) ae)))))
    | neg=>
      exact i7 (A.v5 .neg) vn (oT A.c n) CM.len sx fun c9 A_ outer s H E hr=>have hu:=hr.units
        av (a_ (cy (hz:=aJ rfl) (aa (aq) (aM (fh (dD (fun k=>ih k) A.vS A.cl A.wt hr af) (mq rfl (A.fld (by decide)) (v_var (i:=0) rfl (Or.inl o5)))) ae))))
    | bin b=>
      exact i7 (A.v5 (.bin b)) zY (rT A.c n) CM.len vt fun c9 A_ outer s H E hr=>have hu:=hr.units
        av (a_ (cy (hz:=aJ rfl) (cj (mq rfl (A.fld (by decide)) (v_var (i:=0) rfl (Or.inl ig))) (aM (fh (dD (fun k=>ih k) A.vS A.cl A.wt hr af) (mq rfl (A.fld (by decide)) (v_var (i:=0) rfl (Or.inl ig)))) (aM (fh (dD (fun k=>ih k) A.vS A.cl A.wt hr af) (mq rfl (A.fld (by decide)) (v_var (i:=0) rfl (Or.inl ig)))) ae)))))
    | sum=>
      exact i7 (A.v5 .sum) FC (yZ A.c n) CM.len A4 fun c9 A_ outer s H E hr=>have hu:=hr.units
        av (a_ (cy (hz:=aJ rfl) (aa (aq) (cj (mq rfl (A.fld (by decide)) (v_var (i:=0) rfl (Or.inl jM))) (cj (mq rfl (A.fld (by decide)) (v_var (i:=0) rfl (Or.inl jM))) (aM (fh (dD (fun k=>ih k) A.vS A.cl A.wt hr af) (mq rfl (A.fld (by decide)) (v_var (i:=0) rfl (Or.inl jM)))) ae))))))
end
end Pw
namespace Pw
open PySem L2
seal PE PT PW PA PS ju PG sg PI rA PO PJ
section
variable {P:Program} {w:World} {K:PySem.W.Frag} {mg:Str->Option Value} {base:Heap} {f:Addr} {fd:FuncData}
theorem j4{n:Nat}(h:n<1180591620717411303424):n<BM:=tD (k:=70) (Nat.lt_of_lt_of_le h (by decide)) (by decide)
theorem gp{n:Nat}(h:n<=100000):n<=sizeLine:=Nat.le_of_lt (d3 h)
theorem Rh{i:Int}{k:Nat}(h:i.natAbs<2 ^ k):(iT i).length<=k+2:=by
  have hl:i.natAbs.log2<=k:=by
    rcases Nat.eq_zero_or_pos i.natAbs with e | e
    · rw[e];exact Nat.zero_le _
    · exact Nat.le_of_lt ((Nat.log2_lt (Nat.ne_of_gt e)).mpr h)
  have:=int_text_length_le (a:=i) (k:=i.natAbs.log2+1) (Nat.succ_pos _) (Nat.lt_succ_self _)
  unfold iT
  rw[PySem.ofString_length]
  omega
def Vr(t:ir):Tv:=.int (dp t)
def hZ(cc:Kd->Addr)(n:Nat):Sv:=
  gk (ck fM (vC (.int 1)) (Pd (BC 1 [] (K1 (sf (DM cc (CM cc (Hy cc) (n+1))) "parts" (ag 0) [])) (gV 0) (OU) (sf (DM cc (CM cc Vr n)) "depth" (ag 0) [])) (vC (.int 0))))
theorem iD:aA ["self"] ["self"] (ak eI):=⟨rfl,rfl,rfl,by decide +kernel,rfl,by decide +kernel,by decide +kernel⟩
theorem dY:Lk eI "self" .local:=by decide +kernel
theorem eF:Lk eI "max" .globalImplicit:=by decide +kernel
theorem S1:∀ {t:ir} {M:Int},Lq ((Qz t).map fun s=>(dp s:Int)) 0 M->1+M=dp t
  | .num _,M,h=>by rw[h.1 rfl];rfl
  | .ent _ _,M,h=>by rw[h.1 rfl];rfl
  | .neg t,M,h=>by
    have e:M=(dp t:Int):=List.mem_singleton.mp (h.2 (by intro z;cases z)).1
    show _=((1+dp t:Nat):Int);omega
  | .sum _ _ t,M,h=>by
    have e:M=(dp t:Int):=List.mem_singleton.mp (h.2 (by intro z;cases z)).1
    show _=((1+dp t:Nat):Int);omega
  | .bin _ a b,M,h=>by
    obtain⟨h1,h2⟩:=h.2 (by intro z;cases z)
    have ha:(dp a:Int)<=M:=h2 (dp a) (List.mem_cons_self ..)
    have hb:(dp b:Int)<=M:=h2 (dp b) (List.mem_cons_of_mem _ (List.mem_cons_self ..))
    show _=((1+max (dp a) (dp b):Nat):Int)
    rcases List.mem_cons.mp h1 with e | e
    · have e:M=(dp a:Int):=e;omega
    · have e:M=(dp b:Int):=List.mem_singleton.mp e;omega
theorem ON:∀ t:ir,(Qz t).length<=2
  | .num _=>Nat.zero_le _
  | .ent _ _=>Nat.zero_le _
  | .neg _=>Nat.le_succ _
  | .bin _ _ _=>Nat.le_refl _
  | .sum _ _ _=>Nat.le_succ _
theorem gi{c:Kd->Addr}{n:Nat}{k:Kd}:∀ ts Q,CM c Vr (n+1) k ts Q->fu 1 (hZ c n) ts Q:=by
  rintro ts Q ⟨t,hk,rfl,hd,ok,q⟩
  have hl:((Qz t).map (enc c)).length<sizeLine:=d3 (by rw[List.length_map];have:=ON t;omega)
  refine⟨mr (by decide) _,_,⟨_,rfl,rfl⟩,t,rfl,rfl,hd,ok,hl,JK (enc c) Vr (fun s hs Ky Kn hk=>⟨_,rfl,rfl,mr (by decide) _,_,⟨_,rfl,rfl⟩,s,rfl,rfl,?_,Ql ok hs,rfl,hk⟩) ⟨(Qz t).map fun s=>(dp s:Int),?_,fun M hM=>?_⟩⟩
  · have:=Q6 hs;omega
  · rw[List.map_map];rfl
  · show Q (.ok (.va (.int (1+M))))
    rw[S1 hM]
    exact q
theorem EU(A:dS K mg)(B:pP mg):∀ n k,aQ P w K mg base (iP P w) (2+n) (A.xR k) (A.yb k) ["self"] (sN K (CM A.c Vr n k))
  | 0,_=>aQ.none CM.zero
  | n+1,k=>by
    have ih:=EU A B n
    cases k with
    | num=>
      exact i7 (A.qJ .num) iD (hZ A.c n) CM.len gi fun c9 A_ outer s H E hr=>have hu:=hr.units
        av (a_ (bI (cn rfl) (au) (Aj rfl rfl eF B.max (pL rfl (j7 ["part"] [] ["self"] (by decide +kernel)) (vp rfl) (by decide +kernel) rfl (by decide +kernel) (fun y hy=>PySem.mem_of_lookup hy) rfl (gD 0) (gL (by decide)) i4 (vX rfl (fh (dD (fun k=>qd A B (n+1) k) A.qL A.cl A.qv (hr.mono (by show 1<=_+n;omega)) af) (v_var (i:=0) rfl (Or.inl dY)))) (fun cl C s H fp pins=>gh (i:=0) (show (["part"]:List Str).Nodup by decide +kernel) rfl (Or.inl (kj (by decide +kernel))) (.inr (kj (by decide +kernel)))) (fun cl C s H fp pins=>nW) (fun cl C s H fp pins=>fh (dD (fun k=>ih k) A.oh A.cl A.n_ hr zK) (v_var (i:=0) rfl (oQ (by decide +kernel))))) (au))))
    | ent=>
      exact i7 (A.qJ .ent) iD (hZ A.c n) CM.len gi fun c9 A_ outer s H E hr=>have hu:=hr.units
        av (a_ (bI (cn rfl) (au) (Aj rfl rfl eF B.max (pL rfl (j7 ["part"] [] ["self"] (by decide +kernel)) (vp rfl) (by decide +kernel) rfl (by decide +kernel) (fun y hy=>PySem.mem_of_lookup hy) rfl (gD 0) (gL (by decide)) i4 (vX rfl (fh (dD (fun k=>qd A B (n+1) k) A.qL A.cl A.qv (hr.mono (by show 1<=_+n;omega)) af) (v_var (i:=0) rfl (Or.inl dY)))) (fun cl C s H fp pins=>gh (i:=0) (show (["part"]:List Str).Nodup by decide +kernel) rfl (Or.inl (kj (by decide +kernel))) (.inr (kj (by decide +kernel)))) (fun cl C s H fp pins=>nW) (fun cl C s H fp pins=>fh (dD (fun k=>ih k) A.oh A.cl A.n_ hr zK) (v_var (i:=0) rfl (oQ (by decide +kernel))))) (au))))
    | neg=>
      exact i7 (A.qJ .neg) iD (hZ A.c n) CM.len gi fun c9 A_ outer s H E hr=>have hu:=hr.units
        av (a_ (bI (cn rfl) (au) (Aj rfl rfl eF B.max (pL rfl (j7 ["part"] [] ["self"] (by decide +kernel)) (vp rfl) (by decide +kernel) rfl (by decide +kernel) (fun y hy=>PySem.mem_of_lookup hy) rfl (gD 0) (gL (by decide)) i4 (vX rfl (fh (dD (fun k=>qd A B (n+1) k) A.qL A.cl A.qv (hr.mono (by show 1<=_+n;omega)) af) (v_var (i:=0) rfl (Or.inl dY)))) (fun cl C s H fp pins=>gh (i:=0) (show (["part"]:List Str).Nodup by decide +kernel) rfl (Or.inl (kj (by decide +kernel))) (.inr (kj (by decide +kernel)))) (fun cl C s H fp pins=>nW) (fun cl C s H fp pins=>fh (dD (fun k=>ih k) A.oh A.cl A.n_ hr zK) (v_var (i:=0) rfl (oQ (by decide +kernel))))) (au))))
    | bin b=>
      exact i7 (A.qJ (.bin b)) iD (hZ A.c n) CM.len gi fun c9 A_ outer s H E hr=>have hu:=hr.units
        av (a_ (bI (cn rfl) (au) (Aj rfl rfl eF B.max (pL rfl (j7 ["part"] [] ["self"] (by decide +kernel)) (vp rfl) (by decide +kernel) rfl (by decide +kernel) (fun y hy=>PySem.mem_of_lookup hy) rfl (gD 0) (gL (by decide)) i4 (vX rfl (fh (dD (fun k=>qd A B (n+1) k) A.qL A.cl A.qv (hr.mono (by show 1<=_+n;omega)) af) (v_var (i:=0) rfl (Or.inl dY)))) (fun cl C s H fp pins=>gh (i:=0) (show (["part"]:List Str).Nodup by decide +kernel) rfl (Or.inl (kj (by decide +kernel))) (.inr (kj (by decide +kernel)))) (fun cl C s H fp pins=>nW) (fun cl C s H fp pins=>fh (dD (fun k=>ih k) A.oh A.cl A.n_ hr zK) (v_var (i:=0) rfl (oQ (by decide +kernel))))) (au))))
    | sum=>
      exact i7 (A.qJ .sum) iD (hZ A.c n) CM.len gi fun c9 A_ outer s H E hr=>have hu:=hr.units
        av (a_ (bI (cn rfl) (au) (Aj rfl rfl eF B.max (pL rfl (j7 ["part"] [] ["self"] (by decide +kernel)) (vp rfl) (by decide +kernel) rfl (by decide +kernel) (fun y hy=>PySem.mem_of_lookup hy) rfl (gD 0) (gL (by decide)) i4 (vX rfl (fh (dD (fun k=>qd A B (n+1) k) A.qL A.cl A.qv (hr.mono (by show 1<=_+n;omega)) af) (v_var (i:=0) rfl (Or.inl dY)))) (fun cl C s H fp pins=>gh (i:=0) (show (["part"]:List Str).Nodup by decide +kernel) rfl (Or.inl (kj (by decide +kernel))) (.inr (kj (by decide +kernel)))) (fun cl C s H fp pins=>nW) (fun cl C s H fp pins=>fh (dD (fun k=>ih k) A.oh A.cl A.n_ hr zK) (v_var (i:=0) rfl (oQ (by decide +kernel))))) (au))))
end
end Pw
namespace Pw
open PySem L2
seal PE PT PW PA PS ju PG sg PI rA PO PJ
section
variable {P:Program} {w:World} {K:PySem.W.Frag} {mg:Str->Option Value} {base:Heap} {f:Addr} {fd:FuncData}
def sn(W:List Str)(p:Nat):Str:=W.getD p ""
abbrev cur(W:List Str)(p:Nat):List Tv:=[.lst (W.map Tv.str),.int p]
def Nm(x:Str):Prop:=Txt.isalpha x=true/\kept.any (·==x)=false
theorem WH{W:List Str}{p:Nat}(h:p<W.length):W[p]?=some (sn W p):=by
  unfold sn
  rw[List.getD_eq_getElem?_getD,List.getElem?_eq_getElem h]
  rfl
theorem HL{W:List Str}{p:Nat}(h:¬ p<W.length):sn W p="":=by
  unfold sn
  rw[List.getD_eq_getElem?_getD,List.getElem?_eq_none (by omega)]
  rfl
def pO:Cm:=fun l ts P=>∃ W p,l=cur W p/\ts=[]/\P (.ok (.str (sn W p))) (cur W p)
def gm:Cm:=fun l ts P=>∃ W p x,l=cur W p/\ts=[.str x]/\(sn W p=x->P (.ok (.bl true)) (cur W (p+1)))/\(sn W p≠x->P (.ok (.bl false)) (cur W p))
def jV:Cm:=fun l ts P=>∃ W p x,l=cur W p/\ts=[.str x]/\sn W p=x/\P (.ok .non) (cur W (p+1))
def fI:Cm:=fun l ts P=>∃ W p,l=cur W p/\ts=[]/\Nm (sn W p)/\P (.ok (.str (sn W p))) (cur W (p+1))
def qO(W:List Str):Nat->List Str->Prop
  | _,[]=>False
  | p,[k]=>sn W p=k/\Nm k/\sn W (p+1)≠","
  | p,k::k2::ks=>sn W p=k/\Nm k/\sn W (p+1)=","/\qO W (p+2) (k2::ks)
def k8:Cm:=fun l ts P=>∃ W p ks,∃ m:Int,l=cur W p/\ts=[.int m]/\qO W p ks/\(ks.length:Int)<=m/\m<=1000/\P (.ok (y9 ks)) (cur W (p+2*ks.length-1))
def mn:Cm:=fun l ts P=>∃ W p ks,l=cur W p/\ts=[]/\qO W p ks/\ks.length<=2/\sn W (p+2*ks.length-1)=")"/\P (.ok (y9 ks)) (cur W (p+2*ks.length))
def iA:Cm:=fun l ts P=>∃ W p,l=cur W p/\ts=[]/\P (.ok (.bl (Txt.isdigit (sn W p)))) (cur W p)
def Nu(x:Str)(n:Int):Prop:=Txt.isdigit x=true/\PySem.intText? x=some n/\x.length<=640
def iG:Cm:=fun l ts P=>∃ W p n,l=cur W p/\ts=[]/\Nu (sn W p) n/\P (.ok (.int n)) (cur W (p+1))
def IE(W:List Str)(p:Nat)(a:Fq)(p':Nat):Prop:=∃ n:Int,Nu (sn W p) n/\((sn W (p+1)≠"/"/\a=JT n 1/\p'=p+1)\/(sn W (p+1)="/"/\∃ m:Int,Nu (sn W (p+2)) m/\m≠0/\m.natAbs<Kj/\a=JT n m/\p'=p+3))
def kR:Cm:=fun l ts P=>∃ W p a p',l=cur W p/\ts=[]/\IE W p a p'/\P (.ok (Kk a)) (cur W p')
theorem GG(W:List Str)(p:Nat):Kf fC (cur W p) "at" (.int ((p:Int)+1))=some (cur W (p+1)):=rfl
theorem bS{m:Str}(h:m∈(["seen","passes","wants","take_name","take_names","sees_number","take_number","take_ratio","take_keys"]:List Str)):fC.contains m=false:=by
  have:∀ x∈(["seen","passes","wants","take_name","take_names","sees_number","take_number","take_ratio","take_keys"]:List Str),fC.contains x=false:=by decide +kernel
  exact this m h
def rO(cC cB:Addr):Sv:=
  aE (f_ (eK T1 (yB (NJ cC) 0 "at") (rh yR [yB (NJ cC) 0 "held"])) (ib (ck lj (yB (NJ cC) 0 "held") (yB (NJ cC) 0 "at"))) (dc))
  (ib (vC (.str "")))
theorem yN:aA ["self"] ["self"] (ak jT):=⟨rfl,rfl,rfl,by decide +kernel,rfl,by decide +kernel,by decide +kernel⟩
theorem fc:Lk jT "self" .local:=by decide +kernel
theorem sE:Lk jT "len" .globalImplicit:=by decide +kernel
theorem HI:∀ l ts Q,pO l ts Q->ts.length+1=1:=fun l ts Q ⟨_,_,_,e,_⟩=>by rw[e];rfl
theorem FN{cC cB:Addr}:∀ l ts Q,pO l ts Q->fC.length=l.length->∀ y dy,rO cC cB (.oo y dy cC fC l::(ts.map Sl.va++List.replicate (1-(ts.length+1)) Sl.un)) (lr y dy cC fC Q):=by
  rintro l ts Q ⟨W,p,rfl,rfl,q⟩ _ y dy
  refine⟨rfl,_,rfl,rfl,_,rfl,bF (fun e=>?_) fun e=>?_⟩
  · have h:p<W.length:=by have:=of_decide_eq_true e;rw[List.length_map] at this;omega
    refine⟨rfl,_,rfl,rfl,_,rfl,QK (t:=.str (sn W p)) (by rw[List.getElem?_map,WH h];rfl) ⟨_,rfl,q⟩⟩
  · have h:¬ p<W.length:=by have:=of_decide_eq_false e;rw[List.length_map] at this;omega
    rw[HL h] at q
    exact⟨_,rfl,q⟩
theorem nr(A:dS K mg)(B:pP mg):aQ P w K mg base (iP P w) 1 A.yc A.xT ["self"] (yf K A.cC fC pO):=
  u4 A.IJ yN (rO A.cC A.cB) HI FN fun c9 A_ outer s H E hr=>have hu:=hr.units
  ah (cM (aZ Ml (yk (i:=0) rfl (A.fldC (by decide)) rfl (Or.inl fc)) (my (r9 rfl) sE B.len lU (cj (yk (i:=0) rfl (A.fldC (by decide)) rfl (Or.inl fc)) ae)) (aL _)) (av (dj (d9 (d_ rfl) (yk (i:=0) rfl (A.fldC (by decide)) rfl (Or.inl fc)) (yk (i:=0) rfl (A.fldC (by decide)) rfl (Or.inl fc)) (fun _ _=>rfl)))) (cg))
  (av (dj (aq)))
def ue(cC cB:Addr):Sv:=ib (vC (.bl true))
def sY(cC cB:Addr):Sv:=DX (NJ cC) 0 "at" (vC (.int 1))
def uD(cC cB:Addr):Sv:=aE (sY cC cB) (ue cC cB)
def sJ(cC cB:Addr):Sv:=f_ (eK Pe (bE (DO cC fC pO) 0 "seen" []) (ag 1)) (ib (vC (.bl false))) (dc)
def o3(cC cB:Addr):Sv:=
  aE (sJ cC cB) (uD cC cB)
theorem vz:aA ["self","word"] ["self","word"] (ak iJ):=⟨rfl,rfl,rfl,by decide +kernel,rfl,by decide +kernel,by decide +kernel⟩
theorem jx:Lk iJ "self" .local:=by decide +kernel
theorem pk:Lk iJ "word" .local:=by decide +kernel
theorem CF:∀ l ts Q,gm l ts Q->ts.length+1=2:=fun l ts Q ⟨_,_,_,_,e,_⟩=>by rw[e];rfl
theorem AX{cC cB:Addr}:∀ l ts Q,gm l ts Q->fC.length=l.length->∀ y dy,o3 cC cB (.oo y dy cC fC l::(ts.map Sl.va++List.replicate (2-(ts.length+1)) Sl.un)) (lr y dy cC fC Q):=by
  rintro l ts Q ⟨W,p,x,rfl,rfl,q1,q2⟩ _ y dy
  refine⟨bS (by decide),_,⟨rfl,rfl,rfl⟩,_,rfl,W,p,rfl,rfl,bF (fun e=>?_) fun e=>?_⟩
  · have h:sn W p≠x:=by simpa using e
    exact⟨_,rfl,q2 h⟩
  · have h:sn W p=x:=by simpa using e
    exact⟨rfl,aJ rfl,_,rfl,rfl,_,GG W p,_,rfl,q1 h⟩
theorem eR(A:dS K mg)(B:pP mg):aQ P w K mg base (iP P w) 2 A.qR A.qH ["self","word"] (yf K A.cC fC gm):=
  u4 A.Bc vz (o3 A.cC A.cB) CF AX fun c9 A_ outer s H E hr=>have hu:=hr.units
  ah (cM (aZ (Hr rfl hu) (dC (i:=0) (aO (nr A B) A.qN A.pb A.qy (hr.mono (by decide)) af) rfl (Or.inl jx)) (v_var (i:=1) rfl (Or.inl pk)) (aL _)) (av (dj (JR))) (cg))
  (ah (Df (i:=0) rfl (A.fldC (by decide)) rfl (Or.inl jx) (au))
  (av (dj (JR))))
def pN(cC cB:Addr):Sv:=
  f_ (Dh (j' pf (bE (DO cC fC gm) 0 "passes" [ag 1]))) (oq cB [Pt [UC (ag 1),vC (.str " is wanted")]]) (dc)
theorem xj:aA ["self","word"] ["self","word"] (ak gS):=⟨rfl,rfl,rfl,by decide +kernel,rfl,by decide +kernel,by decide +kernel⟩
theorem qu:Lk gS "self" .local:=by decide +kernel
theorem jY:Lk gS "word" .local:=by decide +kernel
theorem mW:Lk gS "BadText" .globalImplicit:=by decide +kernel
theorem F4:∀ l ts Q,jV l ts Q->ts.length+1=2:=fun l ts Q ⟨_,_,_,_,e,_⟩=>by rw[e];rfl
theorem Cf{cC cB:Addr}:∀ l ts Q,jV l ts Q->fC.length=l.length->∀ y dy,pN cC cB (.oo y dy cC fC l::(ts.map Sl.va++List.replicate (2-(ts.length+1)) Sl.un)) (lr y dy cC fC Q):=by
  rintro l ts Q ⟨W,p,x,rfl,rfl,h,q⟩ _ y dy
  exact⟨bS (by decide),_,⟨rfl,rfl,rfl⟩,_,rfl,W,p,x,rfl,rfl,fun _=>⟨_,rfl,q⟩,fun z=>absurd h z⟩
theorem iQ(A:dS K mg)(B:pP mg):aQ P w K mg base (iP P w) 3 A.vc A.ui ["self","word"] (yf K A.cC fC jV):=
  u4 A.DV xj (pN A.cC A.cB) F4 Cf fun c9 A_ outer s H E hr=>have hu:=hr.units
  av (cM (p8 (ic rfl (eS (i:=0) (aO (eR A B) A.gu A.pb A.gn (hr.mono (by decide)) af) rfl (Or.inl qu) (ai (v_var (i:=1) rfl (Or.inl jY)) ae)))) (av (j6 rfl gq A.X.eb mW A.X.mb (CN (SU (IC (V8 (v_var (i:=1) rfl (Or.inl jY))) (IC (aq) (Qf)))) ae))) (cg))
def qh(cC cB:Addr):Sv:=ib (ag 1)
def pd(cC cB:Addr):Sv:=DX (NJ cC) 0 "at" (vC (.int 1))
def ql(cC cB:Addr):Sv:=aE (pd cC cB) (qh cC cB)
def pB(cC cB:Addr):Sv:=f_ (Ma (Dh (j' pf (R8 Txt.isalpha (ag 1)))) (eK ZK (ag 1) (vC (.tup (kept.map Tv.str))))) (oq cB [vC (.str "a name is wanted")]) (dc)
def pR(cC cB:Addr):Sv:=aE (pB cC cB) (ql cC cB)
def o8(cC cB:Addr):Sv:=bM 1 (bE (DO cC fC pO) 0 "seen" [])
def ly(cC cB:Addr):Sv:=
  aE (o8 cC cB) (pR cC cB)
theorem kF:aA ["self","word"] ["self"] (ak c_):=⟨rfl,rfl,rfl,by decide +kernel,rfl,by decide +kernel,by decide +kernel⟩
theorem iC:Lk c_ "self" .local:=by decide +kernel
theorem df:Lk c_ "word" .local:=by decide +kernel
theorem kY:Lk c_ "BadText" .globalImplicit:=by decide +kernel
theorem jC:Lk c_ "KEPT_WORDS" .globalImplicit:=by decide +kernel
theorem xi:∀ l ts Q,fI l ts Q->ts.length+1=1:=fun l ts Q ⟨_,_,_,e,_⟩=>by rw[e];rfl
theorem wm{cC cB:Addr}:∀ l ts Q,fI l ts Q->fC.length=l.length->∀ y dy,ly cC cB (.oo y dy cC fC l::(ts.map Sl.va++List.replicate (2-(ts.length+1)) Sl.un)) (lr y dy cC fC Q):=by
  rintro l ts Q ⟨W,p,rfl,rfl,⟨h1,h2⟩,q⟩ _ y dy
  refine⟨bS (by decide),_,⟨rfl,rfl,rfl⟩,_,rfl,W,p,rfl,rfl,?_⟩
  refine bF (fun e=>by rw[h1] at e;cases e) fun _=>⟨kept,rfl,bF (fun e=>?_) fun _=>?_⟩
  · rw[show id (kept.any (·==sn W p))=false from h2] at e;cases e
  exact⟨rfl,aJ rfl,_,rfl,rfl,_,GG W _,_,rfl,q⟩
theorem gY(A:dS K mg)(B:pP mg):aQ P w K mg base (iP P w) 2 A.kZ A.kX ["self"] (yf K A.cC fC fI):=
  u4 A.vb kF (ly A.cC A.cB) xi wm fun c9 A_ outer s H E hr=>have hu:=hr.units
  ah (aD (i:=1) kF.nd rfl (Or.inl df) (dC (i:=0) (aO (nr A B) A.qN A.pb A.qy (hr.mono (by decide)) af) rfl (Or.inl iC)))
  (ah (cM (PW.pt (rL (p8 (ic rfl (Pz PySem.F.slot_str_isalpha PySem.F.type_str_isalpha Hl (v_var (i:=1) rfl (Or.inl df))))) (vY (aZ (Vv rfl) (v_var (i:=1) rfl (Or.inl df)) (Ac (v:=.ref A.k6) jC A.uM rfl A.u9) (by with_unfolding_all rfl))))) (av (j6 rfl gq A.X.eb kY A.X.mb (aa (aq) ae))) (cg))
  (ah (Df (i:=0) rfl (A.fldC (by decide)) rfl (Or.inl iC) (au))
  (av (dj (v_var (i:=1) rfl (Or.inl df))))))
def jX(cC cB:Addr):Sv:=
  ib (R8 Txt.isdigit (bE (DO cC fC pO) 0 "seen" []))
theorem pj:aA ["self"] ["self"] (ak gZ):=⟨rfl,rfl,rfl,by decide +kernel,rfl,by decide +kernel,by decide +kernel⟩
theorem l7:Lk gZ "self" .local:=by decide +kernel
theorem uX:∀ l ts Q,iA l ts Q->ts.length+1=1:=fun l ts Q ⟨_,_,_,e,_⟩=>by rw[e];rfl
theorem sD{cC cB:Addr}:∀ l ts Q,iA l ts Q->fC.length=l.length->∀ y dy,jX cC cB (.oo y dy cC fC l::(ts.map Sl.va++List.replicate (1-(ts.length+1)) Sl.un)) (lr y dy cC fC Q):=by
  rintro l ts Q ⟨W,p,rfl,rfl,q⟩ _ y dy
  exact⟨bS (by decide),_,⟨rfl,rfl,rfl⟩,_,rfl,W,p,rfl,rfl,_,rfl,q⟩
theorem nz(A:dS K mg)(B:pP mg):aQ P w K mg base (iP P w) 2 A.i' A.jc ["self"] (yf K A.cC fC iA):=
  u4 A.qg pj (jX A.cC A.cB) uX sD fun c9 A_ outer s H E hr=>have hu:=hr.units
  av (dj (Pz PySem.F.slot_str_isdigit PySem.F.type_str_isdigit Gd (dC (i:=0) (aO (nr A B) A.qN A.pb A.qy (hr.mono (by decide)) af) rfl (Or.inl l7))))
def oE(cC cB:Addr):Sv:=ib (rh Po [ag 1])
def mX(cC cB:Addr):Sv:=DX (NJ cC) 0 "at" (vC (.int 1))
def nX(cC cB:Addr):Sv:=aE (mX cC cB) (oE cC cB)
def m8(cC cB:Addr):Sv:=bM 1 (bE (DO cC fC pO) 0 "seen" [])
def nJ(cC cB:Addr):Sv:=aE (m8 cC cB) (nX cC cB)
def ny(cC cB:Addr):Sv:=f_ (Dh (j' pf (bE (DO cC fC iA) 0 "sees_number" []))) (oq cB [vC (.str "a number is wanted")]) (dc)
def j9(cC cB:Addr):Sv:=
  aE (ny cC cB) (nJ cC cB)
theorem jt:aA ["self","word"] ["self"] (ak cx):=⟨rfl,rfl,rfl,by decide +kernel,rfl,by decide +kernel,by decide +kernel⟩
theorem dZ:Lk cx "self" .local:=by decide +kernel
theorem gR:Lk cx "word" .local:=by decide +kernel
theorem ke:Lk cx "BadText" .globalImplicit:=by decide +kernel
theorem l9:Lk cx "int" .globalImplicit:=by decide +kernel
theorem uI:∀ l ts Q,iG l ts Q->ts.length+1=1:=fun l ts Q ⟨_,_,_,_,e,_⟩=>by rw[e];rfl
theorem sW{cC cB:Addr}:∀ l ts Q,iG l ts Q->fC.length=l.length->∀ y dy,j9 cC cB (.oo y dy cC fC l::(ts.map Sl.va++List.replicate (2-(ts.length+1)) Sl.un)) (lr y dy cC fC Q):=by
  rintro l ts Q ⟨W,p,n,rfl,rfl,⟨h1,h2,h3⟩,q⟩ _ y dy
  refine⟨bS (by decide),_,⟨rfl,rfl,rfl⟩,_,rfl,W,p,rfl,rfl,?_⟩
  refine bF (fun e=>by rw[h1] at e;cases e) fun _=>?_
  exact⟨bS (by decide),_,⟨rfl,rfl,rfl⟩,_,rfl,W,p,rfl,rfl,rfl,aJ rfl,_,rfl,rfl,_,GG W _,n,h2,h3,_,rfl,q⟩
theorem mT(A:dS K mg)(B:pP mg):aQ P w K mg base (iP P w) 3 A.i9 A.jd ["self"] (yf K A.cC fC iG):=
  u4 A.p5 jt (j9 A.cC A.cB) uI sW fun c9 A_ outer s H E hr=>have hu:=hr.units
  ah (cM (p8 (ic rfl (dC (i:=0) (aO (nz A B) A.lX A.pb A.lO (hr.mono (by decide)) af) rfl (Or.inl dZ)))) (av (j6 rfl gq A.X.eb ke A.X.mb (aa (aq) ae))) (cg))
  (ah (aD (i:=1) jt.nd rfl (Or.inl gR) (dC (i:=0) (aO (nr A B) A.qN A.pb A.qy (hr.mono (by decide)) af) rfl (Or.inl dZ)))
  (ah (Df (i:=0) rfl (A.fldC (by decide)) rfl (Or.inl dZ) (au))
  (av (dj (kI RU l9 B.int tF (ai (v_var (i:=1) rfl (Or.inl gR)) ae))))))
end
end Pw
namespace Pw
open PySem L2
seal PE PT PW PA PS ju PG sg PI rA PO PJ
section
variable {P:Program} {w:World} {K:PySem.W.Frag} {mg:Str->Option Value} {base:Heap} {f:Addr} {fd:FuncData}
def pe(cC cB:Addr):Sv:=ib (bB sZ [ag 1,ag 2])
def nU(cC cB:Addr):Sv:=f_ (eK xG (ag 2) (vC (.int 0))) (oq cB [vC (.str "a number is divided by 0")]) (dc)
def o_(cC cB:Addr):Sv:=aE (nU cC cB) (pe cC cB)
def oM(cC cB:Addr):Sv:=bM 2 (bE (DO cC fC iG) 0 "take_number" [])
def pA(cC cB:Addr):Sv:=aE (oM cC cB) (o_ cC cB)
def oI(cC cB:Addr):Sv:=f_ (Dh (j' pf (bE (DO cC fC gm) 0 "passes" [vC (.str "/")]))) (ib (M_ sZ (.int 1) [ag 1])) (dc)
def o7(cC cB:Addr):Sv:=aE (oI cC cB) (pA cC cB)
def oS(cC cB:Addr):Sv:=bM 1 (bE (DO cC fC iG) 0 "take_number" [])
def kK(cC cB:Addr):Sv:=
  aE (oS cC cB) (o7 cC cB)
theorem gW:aA ["self","top","bottom"] ["self"] (ak b6):=⟨rfl,rfl,rfl,by decide +kernel,rfl,by decide +kernel,by decide +kernel⟩
theorem ek:Lk b6 "self" .local:=by decide +kernel
theorem eX:Lk b6 "top" .local:=by decide +kernel
theorem dN:Lk b6 "bottom" .local:=by decide +kernel
theorem ku:Lk b6 "BadText" .globalImplicit:=by decide +kernel
theorem fL:Lk b6 "fraction" .globalImplicit:=by decide +kernel
theorem v9:∀ l ts Q,kR l ts Q->ts.length+1=1:=fun l ts Q ⟨_,_,_,_,_,e,_⟩=>by rw[e];rfl
theorem tY{cC cB:Addr}:∀ l ts Q,kR l ts Q->fC.length=l.length->∀ y dy,kK cC cB (.oo y dy cC fC l::(ts.map Sl.va++List.replicate (3-(ts.length+1)) Sl.un)) (lr y dy cC fC Q):=by
  rintro l ts Q ⟨W,p,a,p2,rfl,rfl,⟨n,h1,h⟩,q⟩ _ y dy
  refine⟨bS (by decide),_,⟨rfl,rfl,rfl⟩,_,rfl,W,p,n,rfl,rfl,h1,?_⟩
  rcases h with ⟨h2,rfl,rfl⟩ | ⟨h2,m,h3,h4,h5,rfl,rfl⟩
  · exact⟨bS (by decide),_,⟨rfl,rfl,rfl⟩,_,rfl,W,p+1,_,rfl,rfl,(fun z=>absurd z h2),fun _=>⟨n,1,rfl,yC (k:=1) (by decide) (by decide),by decide,_,rfl,q⟩⟩
  · refine⟨bS (by decide),_,⟨rfl,rfl,rfl⟩,_,rfl,W,p+1,_,rfl,rfl,(fun _=>?_),fun z=>absurd h2 z⟩
    refine⟨bS (by decide),_,⟨rfl,rfl,rfl⟩,_,rfl,W,p+2,m,rfl,rfl,h3,?_⟩
    refine bF (fun e=>absurd (of_decide_eq_true e) h4) fun _=>?_
    exact⟨n,m,rfl,h5,h4,_,rfl,q⟩
theorem xE(A:dS K mg)(B:pP mg):aQ P w K mg base (iP P w) 4 A.jR A.jW ["self"] (yf K A.cC fC kR):=
  u4 A.r_ gW (kK A.cC A.cB) v9 tY fun c9 A_ outer s H E hr=>have hu:=hr.units
  ah (aD (i:=1) gW.nd rfl (Or.inl eX) (dC (i:=0) (aO (mT A B) A.lQ A.pb A.lS (hr.mono (by decide)) af) rfl (Or.inl ek)))
  (ah (cM (p8 (ic rfl (eS (i:=0) (aO (eR A B) A.gu A.pb A.gn (hr.mono (by decide)) af) rfl (Or.inl ek) (aa (aq) ae)))) (av (dj (Os rfl (t_ A B) (hr.mono (by decide)) fL A.dU.m A.dU.F.kp A.dU.d A.dU.v (fun _=>ao.mpr rfl) af (ai (v_var (i:=1) rfl (Or.inl eX)) ae)))) (cg))
  (ah (aD (i:=2) gW.nd rfl (Or.inl dN) (dC (i:=0) (aO (mT A B) A.lQ A.pb A.lS (hr.mono (by decide)) af) rfl (Or.inl ek)))
  (ah (cM (aZ (k9 rfl hu) (v_var (i:=2) rfl (Or.inl dN)) (au) (aL _)) (av (j6 rfl gq A.X.eb ku A.X.mb (aa (aq) ae))) (cg))
  (av (dj (aT rfl (t_ A B) (hr.mono (by decide)) fL A.dU.m A.dU.F.kp A.dU.b af (ai (v_var (i:=1) rfl (Or.inl eX)) (ai (v_var (i:=2) rfl (Or.inl dN)) ae))))))))
def pq(cC cB:Addr):Sv:=Gr 2 (ib (rh Hd [ag 2]))
def og(cC cB:Addr):Sv:=f_ (eK Wf (MQ 2) (ag 1)) (oq cB [vC (.str "there are more names than may stand here")]) (dc)
def o9(cC cB:Addr):Sv:=aE (og cC cB) (pq cC cB)
def oA(cC cB:Addr):Sv:=Ab (j' pf (bE (DO cC fC gm) 0 "passes" [vC (.str ",")])) (Ke 2 (bE (DO cC fC fI) 0 "take_name" []))
def ph(cC cB:Addr):Sv:=aE (oA cC cB) (o9 cC cB)
def ox(cC cB:Addr):Sv:=EA 2 [bE (DO cC fC fI) 0 "take_name" []]
def kJ(cC cB:Addr):Sv:=
  aE (ox cC cB) (ph cC cB)
theorem kg:aA ["self","most","names"] ["self","most"] (ak bD):=⟨rfl,rfl,rfl,by decide +kernel,rfl,by decide +kernel,by decide +kernel⟩
theorem ez:Lk bD "self" .local:=by decide +kernel
theorem md:Lk bD "most" .local:=by decide +kernel
theorem cA:Lk bD "names" .local:=by decide +kernel
theorem kD:Lk bD "BadText" .globalImplicit:=by decide +kernel
theorem mP:Lk bD "len" .globalImplicit:=by decide +kernel
theorem l8:Lk bD "tuple" .globalImplicit:=by decide +kernel
theorem wb:∀ l ts Q,k8 l ts Q->ts.length+1=2:=fun l ts Q ⟨_,_,_,_,_,e,_⟩=>by rw[e];rfl
theorem u0{cC cB:Addr}:∀ l ts Q,k8 l ts Q->fC.length=l.length->∀ y dy,kJ cC cB (.oo y dy cC fC l::(ts.map Sl.va++List.replicate (3-(ts.length+1)) Sl.un)) (lr y dy cC fC Q):=by
  rintro l ts Q ⟨W,p,ks,m,rfl,rfl,hn,hm,hm2,q⟩ _ y dy
  cases ks with
  | nil=>exact hn.elim
  | cons k ks=>
  have h0:sn W p=k/\Nm k:=by
    cases ks with
    | nil=>exact⟨hn.1,hn.2.1⟩
    | cons k2 ks=>exact⟨hn.1,hn.2.1⟩
  have q2:Q (.ok (y9 (k::ks))) (cur W (p+2*ks.length+1)):=by
    rw[show p+2*ks.length+1=p+2*(k::ks).length-1 by rw[List.length_cons];omega];exact q
  refine⟨bS (by decide),_,⟨rfl,rfl,rfl⟩,_,rfl,W,p,rfl,rfl,(by rw[h0.1];exact h0.2),fun D=>?_⟩
  rw[h0.1]
  refine⟨fun c ρ=>∃ pre x rest p0,k::ks=pre++x::rest/\qO W p0 (x::rest)/\p0=p+2*pre.length/\ρ=[.oo y dy cC fC (cur W (p0+1)),.va (.int m),.ow D ((pre++[x]).map Tv.str)]/\c=rest.length,⟨_,[],k,ks,p,rfl,hn,rfl,rfl,rfl⟩,?_⟩
  rintro c ρ ⟨pre,x,rest,p0,hk,hx,hp,rfl,rfl⟩
  have hl:ks.length=pre.length+rest.length:=by have:=congrArg List.length hk;rw[List.length_cons,List.length_append,List.length_cons] at this;omega
  have hl2:((ks.length+1:Nat):Int)<=m:=hm
  cases rest with
  | nil=>
    refine⟨bS (by decide),_,⟨rfl,rfl,rfl⟩,_,rfl,W,p0+1,_,rfl,rfl,(fun z=>absurd z hx.2.2),fun _=>?_⟩
    rw[List.length_nil] at hl
    refine bF (fun e=>?_) fun e=>?_
    · exfalso
      have:=of_decide_eq_true e
      rw[List.length_map,List.length_append,List.length_singleton] at this
      omega
    · refine⟨_,rfl,?_⟩
      rw[show p0+1=p+2*ks.length+1 by omega,← hk]
      exact q2
  | cons x2 rest=>
    obtain⟨e1,e2,e3,Na⟩:=hx
    have h2:sn W (p0+2)=x2/\Nm x2:=by
      cases rest with
      | nil=>exact⟨Na.1,Na.2.1⟩
      | cons _ _=>exact⟨Na.1,Na.2.1⟩
    refine⟨bS (by decide),_,⟨rfl,rfl,rfl⟩,_,rfl,W,p0+1,_,rfl,rfl,(fun _=>?_),fun z=>absurd e3 z⟩
    refine⟨bS (by decide),_,⟨rfl,rfl,rfl⟩,_,rfl,W,p0+2,rfl,rfl,(by rw[h2.1];exact h2.2),d3 (by rw[List.length_map,List.length_append,List.length_singleton];omega),rest.length,Nat.lt_succ_self _,pre++[x],x2,rest,p0+2,?_,Na,?_,?_,rfl⟩
    · rw[hk,List.append_assoc];rfl
    · rw[hp,List.length_append,List.length_singleton];omega
    · rw[h2.1,List.map_append (l₁:=pre++[x])];rfl
theorem xM(A:dS K mg)(B:pP mg):aQ P w K mg base (iP P w) 3 A.jQ A.jU ["self","most"] (yf K A.cC fC k8):=
  u4 A.rP kg (kJ A.cC A.cB) wb u0 fun c9 A_ outer s H E hr=>have hu:=hr.units
  ah (xW (hz:=aJ rfl) (i:=2) kg.nd rfl (Or.inl cA) (aM (dC (i:=0) (aO (gY A B) A.g6 A.pb A.g8 (hr.mono (by decide)) af) rfl (Or.inl ez)) ae))
  (ah (uq jj (ic rfl (eS (i:=0) (aO (eR A B) A.gu A.pb A.gn (hr.mono (by decide)) af) rfl (Or.inl ez) (aa (aq) ae))) (av (CT (i:=2) rfl rfl (Or.inl cA) (dC (i:=0) (aO (gY A B) A.g6 A.pb A.g8 (hr.mono (by decide)) af) rfl (Or.inl ez)))))
  (ah (cM (aZ Nd (Sq (i:=2) rfl mP B.len rfl (Or.inl cA)) (v_var (i:=1) rfl (Or.inl md)) (aL _)) (av (j6 rfl gq A.X.eb kD A.X.mb (aa (aq) ae))) (cg))
  (av (we 2 (dj (kI (BV rfl) l8 B.tuple t5 (ai (v_var (i:=2) rfl (Or.inl cA)) ae)))))))
def qr(cC cB:Addr):Sv:=ib (ag 1)
def o6(cC cB:Addr):Sv:=B6 (bE (DO cC fC jV) 0 "wants" [vC (.str ")")])
def qj(cC cB:Addr):Sv:=aE (o6 cC cB) (qr cC cB)
def pD(cC cB:Addr):Sv:=bM 1 (bE (DO cC fC k8) 0 "take_names" [vC (.int 2)])
def lx(cC cB:Addr):Sv:=
  aE (pD cC cB) (qj cC cB)
theorem kQ:aA ["self","keys"] ["self"] (ak fY):=⟨rfl,rfl,rfl,by decide +kernel,rfl,by decide +kernel,by decide +kernel⟩
theorem iE:Lk fY "self" .local:=by decide +kernel
theorem iF:Lk fY "keys" .local:=by decide +kernel
theorem xD:∀ l ts Q,mn l ts Q->ts.length+1=1:=fun l ts Q ⟨_,_,_,_,e,_⟩=>by rw[e];rfl
theorem wc{cC cB:Addr}:∀ l ts Q,mn l ts Q->fC.length=l.length->∀ y dy,lx cC cB (.oo y dy cC fC l::(ts.map Sl.va++List.replicate (2-(ts.length+1)) Sl.un)) (lr y dy cC fC Q):=by
  rintro l ts Q ⟨W,p,ks,rfl,rfl,hn,hl,h1,q⟩ _ y dy
  have h0:0<ks.length:=by
    cases ks with
    | nil=>exact hn.elim
    | cons _ _=>rw[List.length_cons];omega
  refine⟨bS (by decide),_,⟨rfl,rfl,rfl⟩,_,rfl,W,p,ks,2,rfl,rfl,hn,(by omega),(by decide),bS (by decide),_,⟨rfl,rfl,rfl⟩,_,rfl,W,_,_,rfl,rfl,h1,_,rfl,?_⟩
  rw[show p+2*ks.length-1+1=p+2*ks.length by omega]
  exact q
theorem y'(A:dS K mg)(B:pP mg):aQ P w K mg base (iP P w) 4 A.k4 A.kS ["self"] (yf K A.cC fC mn):=
  u4 A.um kQ (lx A.cC A.cB) xD wc fun c9 A_ outer s H E hr=>have hu:=hr.units
  ah (aD (i:=1) kQ.nd rfl (Or.inl iF) (eS (i:=0) (aO (xM A B) A.r6 A.pb A.si (hr.mono (by decide)) af) rfl (Or.inl iE) (aa (au) ae)))
  (ah (mz (eS (i:=0) (aO (iQ A B) A.kh A.pb A.j5 (hr.mono (by decide)) af) rfl (Or.inl iE) (aa (aq) ae)))
  (av (dj (v_var (i:=1) rfl (Or.inl iF)))))
end
end Pw
namespace Pw
open PySem L2
seal PE PT PW PA PS ju PG sg PI rA PO PJ
section
variable {P:Program} {w:World} {K:PySem.W.Frag} {mg:Str->Option Value} {base:Heap} {f:Addr} {fd:FuncData}
def oV(cc:Kd->Addr)(cC cB:Addr):Sv:=
  aE (f_ (eK Wf (sf (DM cc (CM cc Vr 61)) "depth" (ag 0) []) (vC (.int 60))) (oq cB [vC (.str "a term is too deep")]) (dc))
  (gk (ag 0))
def cL(cc:Kd->Addr)(cC cB:Addr):Ct:=fun ts P=>∃ t,ts=[enc cc t]/\dp t<=61/\(dp t<=60->P (.ok (.va (enc cc t))))/\(60<dp t->P (.er cB))
theorem vU:aA ["term"] ["term"] (ak eA):=⟨rfl,rfl,rfl,by decide +kernel,rfl,by decide +kernel,by decide +kernel⟩
theorem jq:Lk eA "term" .local:=by decide +kernel
theorem mH:Lk eA "BadText" .globalImplicit:=by decide +kernel
theorem kT:Lk eA "MOST_DEPTH" .globalImplicit:=by decide +kernel
theorem uu{cc:Kd->Addr}{cC cB:Addr}:∀ ts Q,cL cc cC cB ts Q->ts.length=1:=fun ts Q ⟨_,e,_⟩=>by rw[e];rfl
theorem sF{cc:Kd->Addr}{cC cB:Addr}:∀ ts Q,cL cc cC cB ts Q->fu 1 (oV cc cC cB) ts Q:=by
  rintro ts Q ⟨t,rfl,hd,q1,q2⟩
  refine⟨mr (by decide) _,_,⟨_,rfl,rfl⟩,t,rfl,rfl,hd,trivial,bF (fun e=>?_) fun e=>?_⟩
  · exact q2 (by have:=of_decide_eq_true e;omega)
  · exact q1 (by have:=of_decide_eq_false e;omega)
theorem fE(A:dS K mg)(B:pP mg):aQ P w K mg base (iP P w) 64 A.kB A.kq ["term"] (sN K (cL A.c A.cC A.cB)):=
  i7 A.aF.F vU (oV A.c A.cC A.cB) uu sF fun c9 A_ outer s H E hr=>have hu:=hr.units
  ah (cM (aZ Nd (fh (dD (fun k=>EU A B 61 k) A.oh A.cl A.n_ (hr.mono (by decide)) af) (v_var (i:=0) rfl (Or.inl jq))) (Ac (v:=.int 60) kT A.uY ⟨_,rfl⟩ (fun _=>ao.mpr rfl)) (aL _)) (av (j6 rfl gq A.X.eb mH A.X.mb (aa (aq) ae))) (cg))
  (av (a_ (v_var (i:=0) rfl (Or.inl jq))))
def oY(cc:Kd->Addr)(cC cB:Addr):Sv:=
  aE (f_ (eK xG (ag 0) (vC (.int 30))) (oq cB [vC (.str "too many things stand open at once")]) (dc))
  (gk (ck fM (ag 0) (vC (.int 1))))
def dB(cc:Kd->Addr)(cC cB:Addr):Ct:=fun ts P=>∃ o:Nat,ts=[.int o]/\(o≠30->P (.ok (.va (.int ((o+1:Nat):Int)))))/\(o=30->P (.er cB))
theorem vR:aA ["opened"] ["opened"] (ak eC):=⟨rfl,rfl,rfl,by decide +kernel,rfl,by decide +kernel,by decide +kernel⟩
theorem iZ:Lk eC "opened" .local:=by decide +kernel
theorem mM:Lk eC "BadText" .globalImplicit:=by decide +kernel
theorem lP:Lk eC "MOST_OPEN" .globalImplicit:=by decide +kernel
theorem ur{cc:Kd->Addr}{cC cB:Addr}:∀ ts Q,dB cc cC cB ts Q->ts.length=1:=fun ts Q ⟨_,e,_⟩=>by rw[e];rfl
theorem tK{cc:Kd->Addr}{cC cB:Addr}:∀ ts Q,dB cc cC cB ts Q->fu 1 (oY cc cC cB) ts Q:=by
  rintro ts Q ⟨o,rfl,q1,q2⟩
  refine bF (fun e=>?_) fun e=>?_
  · exact q2 (by have:=of_decide_eq_true e;omega)
  · exact q1 (by have:=of_decide_eq_false e;omega)
theorem g7(A:dS K mg)(B:pP mg):aQ P w K mg base (iP P w) 1 A.kx A.kz ["opened"] (sN K (dB A.c A.cC A.cB)):=
  i7 A.aK.F vR (oY A.c A.cC A.cB) ur tK fun c9 A_ outer s H E hr=>have hu:=hr.units
  ah (cM (aZ (k9 rfl hu) (v_var (i:=0) rfl (Or.inl iZ)) (Ac (v:=.int 30) lP A.wU ⟨_,rfl⟩ (fun _=>ao.mpr rfl)) (aL _)) (av (j6 rfl gq A.X.eb mM A.X.mb (aa (aq) ae))) (cg))
  (av (a_ (bI (cn rfl) (v_var (i:=0) rfl (Or.inl iZ)) (au))))
end
end Pw
namespace Pw
open PySem L2
seal PE PT PW PA PS ju PG sg PI rA PO PJ
section
variable {P:Program} {w:World} {K:PySem.W.Frag} {mg:Str->Option Value} {base:Heap} {f:Addr} {fd:FuncData}
inductive Lv where
  | term | tl (t:ir) | prod | pl (t:ir) | part | sum | ent
def Rd(W:List Str):Nat->Lv->Nat->Nat->Nat->Option ir->Nat->Prop
  | 0,_,_,_,_,_,_=>False
  | n+1,.term,o,s,p,r,p'=>∃ r1 p1,Rd W n .prod o s p r1 p1/\((r1=none/\r=none/\p'=p1)\/∃ t,r1=some t/\dp t<=60/\Rd W n (.tl t) o s p1 r p')
  | n+1,.tl t,o,s,p,r,p'=>
    (sn W p="+"/\∃ r1 p1,Rd W n .prod o s (p+1) r1 p1/\((r1=none/\r=none/\p'=p1)\/∃ u,r1=some u/\dp u<=60/\((60<dp (.bin 0 t u)/\r=none/\p'=p1)\/(dp (.bin 0 t u)<=60/\Rd W n (.tl (.bin 0 t u)) o s p1 r p')))) ∨
    (sn W p="-"/\∃ r1 p1,Rd W n .prod o s (p+1) r1 p1/\((r1=none/\r=none/\p'=p1)\/∃ u,r1=some u/\dp u<=60/\((60<dp (.bin 1 t u)/\r=none/\p'=p1)\/(dp (.bin 1 t u)<=60/\Rd W n (.tl (.bin 1 t u)) o s p1 r p')))) ∨
    (sn W p≠"+"/\sn W p≠"-"/\r=some t/\p'=p)
  | n+1,.prod,o,s,p,r,p'=>∃ r1 p1,Rd W n .part o s p r1 p1/\((r1=none/\r=none/\p'=p1)\/∃ t,r1=some t/\dp t<=60/\Rd W n (.pl t) o s p1 r p')
  | n+1,.pl t,o,s,p,r,p'=>
    (sn W p="*"/\∃ r1 p1,Rd W n .part o s (p+1) r1 p1/\((r1=none/\r=none/\p'=p1)\/∃ u,r1=some u/\dp u<=60/\((60<dp (.bin 2 t u)/\r=none/\p'=p1)\/(dp (.bin 2 t u)<=60/\Rd W n (.pl (.bin 2 t u)) o s p1 r p')))) ∨
    (sn W p≠"*"/\r=some t/\p'=p)
  | n+1,.part,o,s,p,r,p'=>
    (sn W p="-"/\((o=30/\r=none/\p'=p+1)\/(o≠30/\∃ r1 p1,Rd W n .part (o+1) s (p+1) r1 p1/\((r1=none/\r=none/\p'=p1)\/∃ u,r1=some u/\dp (.neg u)<=60/\r=some (.neg u)/\p'=p1)))) ∨
    (sn W p="("/\((o=30/\r=none/\p'=p+1)\/(o≠30/\∃ r1 p1,Rd W n .term (o+1) s (p+1) r1 p1/\((r1=none/\r=none/\p'=p1)\/∃ u,r1=some u/\sn W p1=")"/\r=some u/\p'=p1+1)))) ∨
    (sn W p="sum"/\Rd W n .sum o s (p+1) r p') ∨
    ((sn W p≠"-"/\sn W p≠"("/\sn W p≠"sum")/\((Txt.isdigit (sn W p)=true/\∃ a,IE W p a p'/\r=some (.num a))\/(Txt.isdigit (sn W p)=false/\Rd W n .ent o s p r p')))
  | n+1,.sum,o,s,p,r,p'=>
    (s=3/\r=none/\p'=p)\/(s≠3/\sn W p="("/\Nm (sn W (p+1))/\sn W (p+2)="in"/\Nm (sn W (p+3))/\sn W (p+4)="," /\
      ((o=30/\r=none/\p'=p+5)\/(o≠30/\∃ r1 p1,Rd W n .term (o+1) (s+1) (p+5) r1 p1/\((r1=none/\r=none/\p'=p1)\/∃ u,r1=some u/\sn W p1=")"/\dp (.sum (sn W (p+1)) (sn W (p+3)) u)<=60/\r=some (.sum (sn W (p+1)) (sn W (p+3)) u)/\p'=p1+1))))
  | n+1,.ent,o,s,p,r,p'=>
    Nm (sn W p)/\((sn W (p+1)≠"("/\r=some (.ent (sn W p) [])/\p'=p+1) ∨
      (sn W (p+1)="("/\((o=30/\r=none/\p'=p+2)\/(o≠30/\∃ ks,qO W (p+2) ks/\ks.length<=2/\sn W (p+2+2*ks.length-1)=")"/\r=some (.ent (sn W p) ks)/\p'=p+2+2*ks.length))))
def Uq(cc:Kd->Addr)(cB:Addr)(P:yh Tv->List Tv->Prop)(W:List Str)(p':Nat):Option ir->Prop
  | some t=>P (.ok (enc cc t)) (cur W p')
  | none=>P (.er cB) (cur W p')
def CR(cc:Kd->Addr)(cB:Addr)(n:Nat)(lv:Lv):Cm:=fun l ts P=>∃ m W p o s r p',m<=n/\l=cur W p/\ts=[.int (o:Nat),.int (s:Nat)]/\Rd W m lv o s p r p'/\Uq cc cB P W p' r
def On(cc:Kd->Addr)(cB:Addr)(n:Nat):Cm:=fun l ts P=>∃ m W p o s r p',m<=n/\l=cur W p/\ts=[.int (o:Nat)]/\Rd W m .ent o s p r p'/\Uq cc cB P W p' r
theorem CR.len{cc:Kd->Addr}{cB:Addr}{n:Nat}{lv:Lv}:∀ l ts Q,CR cc cB n lv l ts Q->ts.length+1=3:=fun l ts Q ⟨_,_,_,_,_,_,_,_,_,e,_⟩=>by rw[e];rfl
theorem On.len{cc:Kd->Addr}{cB:Addr}{n:Nat}:∀ l ts Q,On cc cB n l ts Q->ts.length+1=2:=fun l ts Q ⟨_,_,_,_,_,_,_,_,_,e,_⟩=>by rw[e];rfl
theorem CR.zero{cc:Kd->Addr}{cB:Addr}{lv:Lv}:∀ l ts Q,CR cc cB 0 lv l ts Q->False:=fun l ts Q ⟨m,_,_,_,_,_,_,hm,_,_,h,_⟩=>by
  obtain rfl:m=0:=by omega
  exact h
theorem On.zero{cc:Kd->Addr}{cB:Addr}:∀ l ts Q,On cc cB 0 l ts Q->False:=fun l ts Q ⟨m,_,_,_,_,_,_,hm,_,_,h,_⟩=>by
  obtain rfl:m=0:=by omega
  exact h
theorem aQ.noneM{k:Nat}{f:Addr}{fd:FuncData}{ps:List Str}{C:Addr}{fs:List Str}{c:Cm}{CX:wQ}(h:∀ l ts Q,c l ts Q->False):aQ P w K mg base CX k f fd ps (yf K C fs c):=
  ⟨fun vs H Q E ⟨_,_,_,_,l,ts,P,_,_,_,_,_,_,_,_,_,cc,_⟩=>(h l ts P cc).elim,fun _ _ _ _ _ _ _ _ _ _ _ _ _ ⟨_,_,_,_,l,ts,P,_,_,_,_,_,_,_,_,_,cc,_⟩=>(h l ts P cc).elim⟩
def Dq(cc:Kd->Addr)(cC cB:Addr)(n:Nat):Sv:=bM 3 (bB (cL cc cC cB) [CJ (cc (.bin 1)) ["word","mark","one","other"] ID [ag 3,jN cC fC (CR cc cB n .prod) 0 [ag 1,ag 2]]])
def AK(cc:Kd->Addr)(cC cB:Addr)(n:Nat):Sv:=B6 (bE (DO cC fC jV) 0 "wants" [vC (.str "-")])
def C_(cc:Kd->Addr)(cC cB:Addr)(n:Nat):Sv:=aE (AK cc cC cB n) (Dq cc cC cB n)
def D1(cc:Kd->Addr)(cC cB:Addr)(n:Nat):Sv:=ib (ag 3)
def Dw(cc:Kd->Addr)(cC cB:Addr)(n:Nat):Sv:=Ab (eK ZK (bE (DO cC fC pO) 0 "seen" []) (fG [vC (.str "+"),vC (.str "-")])) (f_ (j' pf (bE (DO cC fC gm) 0 "passes" [vC (.str "+")])) (bM 3 (bB (cL cc cC cB) [CJ (cc (.bin 0)) ["word","mark","one","other"] Mh [ag 3,jN cC fC (CR cc cB n .prod) 0 [ag 1,ag 2]]])) ((C_ cc cC cB n)))
def Ee(cc:Kd->Addr)(cC cB:Addr)(n:Nat):Sv:=aE (Dw cc cC cB n) (D1 cc cC cB n)
def BZ(cc:Kd->Addr)(cC cB:Addr)(n:Nat):Sv:=bM 3 (jN cC fC (CR cc cB n .prod) 0 [ag 1,ag 2])
def BK(cc:Kd->Addr)(cC cB:Addr)(n:Nat):Sv:=
  aE (BZ cc cC cB n) (Ee cc cC cB n)
theorem oK:aA ["cursor","opened","sums","term"] ["cursor","opened","sums"] (ak fk):=⟨rfl,rfl,rfl,by decide +kernel,rfl,by decide +kernel,by decide +kernel⟩
theorem dA:Lk fk "cursor" .local:=by decide +kernel
theorem jk:Lk fk "opened" .local:=by decide +kernel
theorem kr:Lk fk "sums" .local:=by decide +kernel
theorem eB:Lk fk "term" .local:=by decide +kernel
theorem vw:Lk fk "Minus" .globalImplicit:=by decide +kernel
theorem xk:Lk fk "Plus" .globalImplicit:=by decide +kernel
theorem iB:Lk fk "checked_depth" .globalImplicit:=by decide +kernel
theorem gz:Lk fk "product_at" .globalImplicit:=by decide +kernel
theorem Cu{cc:Kd->Addr}{cC cB:Addr}{n:Nat}:∀ l ts Q,CR cc cB (n+1) .term l ts Q->fC.length=l.length->∀ y dy,BK cc cC cB n (.oo y dy cC fC l::(ts.map Sl.va++List.replicate (4-(ts.length+1)) Sl.un)) (lr y dy cC fC Q):=by
  rintro l ts Q ⟨m,W,p,o,s,r,p2,hm,rfl,rfl,h,q⟩ _ y dy
  cases m with
  | zero=>exact h.elim
  | succ m=>
  have hm:m<=n:=by omega
  obtain⟨r1,p1,h1,h2⟩:=h
  refine⟨⟨rfl,rfl⟩,_,rfl,m,W,p,o,s,r1,p1,hm,rfl,rfl,h1,?_⟩
  rcases h2 with ⟨rfl,rfl,rfl⟩ | ⟨t,rfl,hd,h2⟩
  · exact⟨_,rfl,q⟩
  refine⟨fun c ρ=>∃ t p3,Rd W c (.tl t) o s p3 r p2/\c<=m/\dp t<=60/\ρ=[.oo y dy cC fC (cur W p3),.va (.int o),.va (.int s),.va (enc cc t)],⟨m,t,p1,h2,Nat.le_refl _,hd,rfl⟩,?_⟩
  rintro c ρ ⟨t,p3,hc,hcm,hd,rfl⟩
  cases c with
  | zero=>exact hc.elim
  | succ c=>
  rcases hc with ⟨hp,r1,p4,h4,h5⟩ | ⟨hp,r1,p4,h4,h5⟩ | ⟨hp1,hp2,rfl,rfl⟩
  · refine⟨bS (by decide),_,⟨rfl,rfl,rfl⟩,_,rfl,W,p3,rfl,rfl,["+","-"],rfl,xU (fun _=>?_) fun e=>absurd e (by rw[hp];decide)⟩
    refine⟨bS (by decide),_,⟨rfl,rfl,rfl⟩,_,rfl,W,p3,_,rfl,rfl,(fun _=>?_),fun z=>absurd hp z⟩
    refine⟨⟨rfl,rfl⟩,_,rfl,c,W,p3+1,o,s,r1,p4,by omega,rfl,rfl,h4,?_⟩
    rcases h5 with ⟨rfl,rfl,rfl⟩ | ⟨u,rfl,hu,h5⟩
    · exact⟨_,rfl,q⟩
    · refine⟨_,_,rfl,.bin 0 t u,rfl,(by show 1+max (dp t) (dp u)<=61;omega),(fun h6=>?_),fun h6=>?_⟩
      · rcases h5 with ⟨h7,_⟩ | ⟨_,h7⟩
        · omega
        · exact⟨c,Nat.lt_succ_self _,_,p4,h7,by omega,h6,rfl⟩
      · rcases h5 with ⟨_,rfl,rfl⟩ | ⟨h7,_⟩
        · exact⟨_,rfl,q⟩
        · omega
  · refine⟨bS (by decide),_,⟨rfl,rfl,rfl⟩,_,rfl,W,p3,rfl,rfl,["+","-"],rfl,xU (fun _=>?_) fun e=>absurd e (by rw[hp];decide)⟩
    refine⟨bS (by decide),_,⟨rfl,rfl,rfl⟩,_,rfl,W,p3,_,rfl,rfl,(fun z=>absurd (hp.symm.trans z) (by decide)),fun _=>?_⟩
    refine⟨bS (by decide),_,⟨rfl,rfl,rfl⟩,_,rfl,W,p3,_,rfl,rfl,hp,?_⟩
    refine⟨⟨rfl,rfl⟩,_,rfl,c,W,p3+1,o,s,r1,p4,by omega,rfl,rfl,h4,?_⟩
    rcases h5 with ⟨rfl,rfl,rfl⟩ | ⟨u,rfl,hu,h5⟩
    · exact⟨_,rfl,q⟩
    · refine⟨_,_,rfl,.bin 1 t u,rfl,(by show 1+max (dp t) (dp u)<=61;omega),(fun h6=>?_),fun h6=>?_⟩
      · rcases h5 with ⟨h7,_⟩ | ⟨_,h7⟩
        · omega
        · exact⟨c,Nat.lt_succ_self _,_,p4,h7,by omega,h6,rfl⟩
      · rcases h5 with ⟨_,rfl,rfl⟩ | ⟨h7,_⟩
        · exact⟨_,rfl,q⟩
        · omega
  · refine⟨bS (by decide),_,⟨rfl,rfl,rfl⟩,_,rfl,W,p2,rfl,rfl,["+","-"],rfl,xU (fun e=>?_) fun _=>?_⟩
    · exfalso
      have e:(["+","-"]:List Str).any (·==sn W p2)=true:=e
      rw[List.any_cons,List.any_cons,List.any_nil,Bool.or_false,Bool.or_eq_true] at e
      rcases e with e | e
      · exact hp1 (eq_of_beq e).symm
      · exact hp2 (eq_of_beq e).symm
    · exact⟨_,rfl,q⟩
def Ak(cc:Kd->Addr)(cC cB:Addr)(n:Nat):Sv:=ib (ag 3)
def xr(cc:Kd->Addr)(cC cB:Addr)(n:Nat):Sv:=Ab (j' pf (bE (DO cC fC gm) 0 "passes" [vC (.str "*")])) (bM 3 (bB (cL cc cC cB) [CJ (cc (.bin 2)) ["word","mark","one","other"] Ii [ag 3,jN cC fC (CR cc cB n .part) 0 [ag 1,ag 2]]]))
def zy(cc:Kd->Addr)(cC cB:Addr)(n:Nat):Sv:=aE (xr cc cC cB n) (Ak cc cC cB n)
def xx(cc:Kd->Addr)(cC cB:Addr)(n:Nat):Sv:=bM 3 (jN cC fC (CR cc cB n .part) 0 [ag 1,ag 2])
def tQ(cc:Kd->Addr)(cC cB:Addr)(n:Nat):Sv:=
  aE (xx cc cC cB n) (zy cc cC cB n)
theorem mJ:aA ["cursor","opened","sums","term"] ["cursor","opened","sums"] (ak dm):=⟨rfl,rfl,rfl,by decide +kernel,rfl,by decide +kernel,by decide +kernel⟩
theorem gO:Lk dm "cursor" .local:=by decide +kernel
theorem j8:Lk dm "opened" .local:=by decide +kernel
theorem lz:Lk dm "sums" .local:=by decide +kernel
theorem fS:Lk dm "term" .local:=by decide +kernel
theorem ro:Lk dm "Times" .globalImplicit:=by decide +kernel
theorem k_:Lk dm "checked_depth" .globalImplicit:=by decide +kernel
theorem jy:Lk dm "part_at" .globalImplicit:=by decide +kernel
theorem xC{cc:Kd->Addr}{cC cB:Addr}{n:Nat}:∀ l ts Q,CR cc cB (n+1) .prod l ts Q->fC.length=l.length->∀ y dy,tQ cc cC cB n (.oo y dy cC fC l::(ts.map Sl.va++List.replicate (4-(ts.length+1)) Sl.un)) (lr y dy cC fC Q):=by
  rintro l ts Q ⟨m,W,p,o,s,r,p2,hm,rfl,rfl,h,q⟩ _ y dy
  cases m with
  | zero=>exact h.elim
  | succ m=>
  have hm:m<=n:=by omega
  obtain⟨r1,p1,h1,h2⟩:=h
  refine⟨⟨rfl,rfl⟩,_,rfl,m,W,p,o,s,r1,p1,hm,rfl,rfl,h1,?_⟩
  rcases h2 with ⟨rfl,rfl,rfl⟩ | ⟨t,rfl,hd,h2⟩
  · exact⟨_,rfl,q⟩
  refine⟨fun c ρ=>∃ t p3,Rd W c (.pl t) o s p3 r p2/\c<=m/\dp t<=60/\ρ=[.oo y dy cC fC (cur W p3),.va (.int o),.va (.int s),.va (enc cc t)],⟨m,t,p1,h2,Nat.le_refl _,hd,rfl⟩,?_⟩
  rintro c ρ ⟨t,p3,hc,hcm,hd,rfl⟩
  cases c with
  | zero=>exact hc.elim
  | succ c=>
  rcases hc with ⟨hp,r1,p4,h4,h5⟩ | ⟨hp1,rfl,rfl⟩
  · refine⟨bS (by decide),_,⟨rfl,rfl,rfl⟩,_,rfl,W,p3,_,rfl,rfl,(fun _=>?_),fun z=>absurd hp z⟩
    refine⟨⟨rfl,rfl⟩,_,rfl,c,W,p3+1,o,s,r1,p4,by omega,rfl,rfl,h4,?_⟩
    rcases h5 with ⟨rfl,rfl,rfl⟩ | ⟨u,rfl,hu,h5⟩
    · exact⟨_,rfl,q⟩
    · refine⟨_,_,rfl,.bin 2 t u,rfl,(by show 1+max (dp t) (dp u)<=61;omega),(fun h6=>?_),fun h6=>?_⟩
      · rcases h5 with ⟨h7,_⟩ | ⟨_,h7⟩
        · omega
        · exact⟨c,Nat.lt_succ_self _,_,p4,h7,by omega,h6,rfl⟩
      · rcases h5 with ⟨_,rfl,rfl⟩ | ⟨h7,_⟩
        · exact⟨_,rfl,q⟩
        · omega
  · refine⟨bS (by decide),_,⟨rfl,rfl,rfl⟩,_,rfl,W,p2,_,rfl,rfl,(fun z=>absurd z hp1),fun _=>?_⟩
    exact⟨_,rfl,q⟩
def Ci(cc:Kd->Addr)(cC cB:Addr)(n:Nat):Sv:=ib (ag 3)
def AM(cc:Kd->Addr)(cC cB:Addr)(n:Nat):Sv:=B6 (bE (DO cC fC jV) 0 "wants" [vC (.str ")")])
def Dz(cc:Kd->Addr)(cC cB:Addr)(n:Nat):Sv:=aE (AM cc cC cB n) (Ci cc cC cB n)
def AF(cc:Kd->Addr)(cC cB:Addr)(n:Nat):Sv:=bM 3 (jN cC fC (CR cc cB n .term) 0 [bB (dB cc cC cB) [ag 1],ag 2])
def Dg(cc:Kd->Addr)(cC cB:Addr)(n:Nat):Sv:=aE (AF cc cC cB n) (Dz cc cC cB n)
def Es(cc:Kd->Addr)(cC cB:Addr)(n:Nat):Sv:=ib (jN cC fC (On cc cB n) 0 [ag 1])
def C9(cc:Kd->Addr)(cC cB:Addr)(n:Nat):Sv:=f_ (j' pf (bE (DO cC fC iA) 0 "sees_number" [])) (ib (CJ (cc .num) ["worth"] EY [bE (DO cC fC kR) 0 "take_ratio" []])) (dc)
def EW(cc:Kd->Addr)(cC cB:Addr)(n:Nat):Sv:=aE (C9 cc cC cB n) (Es cc cC cB n)
def Cb(cc:Kd->Addr)(cC cB:Addr)(n:Nat):Sv:=f_ (j' pf (bE (DO cC fC gm) 0 "passes" [vC (.str "sum")])) (ib (jN cC fC (CR cc cB n .sum) 0 [ag 1,ag 2])) (dc)
def Ew(cc:Kd->Addr)(cC cB:Addr)(n:Nat):Sv:=aE (Cb cc cC cB n) (EW cc cC cB n)
def DB(cc:Kd->Addr)(cC cB:Addr)(n:Nat):Sv:=f_ (j' pf (bE (DO cC fC gm) 0 "passes" [vC (.str "(")])) ((Dg cc cC cB n)) (dc)
def DL(cc:Kd->Addr)(cC cB:Addr)(n:Nat):Sv:=aE (DB cc cC cB n) (Ew cc cC cB n)
def DC(cc:Kd->Addr)(cC cB:Addr)(n:Nat):Sv:=f_ (j' pf (bE (DO cC fC gm) 0 "passes" [vC (.str "-")])) (ib (bB (cL cc cC cB) [CJ (cc .neg) ["one"] zC [jN cC fC (CR cc cB n .part) 0 [bB (dB cc cC cB) [ag 1],ag 2]]])) (dc)
def Bh(cc:Kd->Addr)(cC cB:Addr)(n:Nat):Sv:=
  aE (DC cc cC cB n) (DL cc cC cB n)
theorem zu:aA ["cursor","opened","sums","term"] ["cursor","opened","sums"] (ak cX):=⟨rfl,rfl,rfl,by decide +kernel,rfl,by decide +kernel,by decide +kernel⟩
theorem bh:Lk cX "cursor" .local:=by decide +kernel
theorem gG:Lk cX "opened" .local:=by decide +kernel
theorem kC:Lk cX "sums" .local:=by decide +kernel
theorem oW:Lk cX "term" .local:=by decide +kernel
theorem ri:Lk cX "Negative" .globalImplicit:=by decide +kernel
theorem uz:Lk cX "Number" .globalImplicit:=by decide +kernel
theorem mB:Lk cX "checked_depth" .globalImplicit:=by decide +kernel
theorem rJ:Lk cX "entry_at" .globalImplicit:=by decide +kernel
theorem iH:Lk cX "one_more_open" .globalImplicit:=by decide +kernel
theorem s_:Lk cX "part_at" .globalImplicit:=by decide +kernel
theorem u6:Lk cX "sum_at" .globalImplicit:=by decide +kernel
theorem sG:Lk cX "term_at" .globalImplicit:=by decide +kernel
theorem Di{cc:Kd->Addr}{cC cB:Addr}{n:Nat}:∀ l ts Q,CR cc cB (n+1) .part l ts Q->fC.length=l.length->∀ y dy,Bh cc cC cB n (.oo y dy cC fC l::(ts.map Sl.va++List.replicate (4-(ts.length+1)) Sl.un)) (lr y dy cC fC Q):=by
  rintro l ts Q ⟨m,W,p,o,s,r,p2,hm,rfl,rfl,h,q⟩ _ y dy
  cases m with
  | zero=>exact h.elim
  | succ m=>
  have hm:m<=n:=by omega
  have h:(sn W p="-"/\((o=30/\r=none/\p2=p+1)\/(o≠30/\∃ r1 p1,Rd W m .part (o+1) s (p+1) r1 p1/\((r1=none/\r=none/\p2=p1)\/∃ u,r1=some u/\dp (.neg u)<=60/\r=some (.neg u)/\p2=p1)))) ∨
    (sn W p="("/\((o=30/\r=none/\p2=p+1)\/(o≠30/\∃ r1 p1,Rd W m .term (o+1) s (p+1) r1 p1/\((r1=none/\r=none/\p2=p1)\/∃ u,r1=some u/\sn W p1=")"/\r=some u/\p2=p1+1)))) ∨
    (sn W p="sum"/\Rd W m .sum o s (p+1) r p2) ∨
    ((sn W p≠"-"/\sn W p≠"("/\sn W p≠"sum")/\((Txt.isdigit (sn W p)=true/\∃ a,IE W p a p2/\r=some (.num a))\/(Txt.isdigit (sn W p)=false/\Rd W m .ent o s p r p2))):=h
  rcases h with ⟨hp,h⟩ | ⟨hp,h⟩ | ⟨hp,h⟩ | ⟨⟨hp1,hp2,hp3⟩,h⟩
  · refine⟨bS (by decide),_,⟨rfl,rfl,rfl⟩,_,rfl,W,p,_,rfl,rfl,(fun _=>?_),fun z=>absurd hp z⟩
    rcases h with ⟨rfl,rfl,rfl⟩ | ⟨ho,r1,p1,h4,h5⟩
    · exact⟨⟨rfl,rfl⟩,30,rfl,(fun z=>absurd rfl z),fun _=>⟨_,rfl,q⟩⟩
    · refine⟨⟨rfl,rfl⟩,o,rfl,(fun _=>?_),fun z=>absurd z ho⟩
      refine⟨_,rfl,m,W,p+1,o+1,s,r1,p1,hm,rfl,rfl,h4,?_⟩
      rcases h5 with ⟨rfl,rfl,rfl⟩ | ⟨u,rfl,hu,rfl,rfl⟩
      · exact⟨_,rfl,q⟩
      · exact⟨_,rfl,.neg u,rfl,(by omega),(fun _=>⟨_,rfl,q⟩),fun z=>absurd hu (by omega)⟩
  · refine⟨bS (by decide),_,⟨rfl,rfl,rfl⟩,_,rfl,W,p,_,rfl,rfl,(fun z=>absurd (hp.symm.trans z) (by decide)),fun _=>?_⟩
    refine⟨bS (by decide),_,⟨rfl,rfl,rfl⟩,_,rfl,W,p,_,rfl,rfl,(fun _=>?_),fun z=>absurd hp z⟩
    rcases h with ⟨rfl,rfl,rfl⟩ | ⟨ho,r1,p1,h4,h5⟩
    · exact⟨⟨rfl,rfl⟩,30,rfl,(fun z=>absurd rfl z),fun _=>⟨_,rfl,q⟩⟩
    · refine⟨⟨rfl,rfl⟩,o,rfl,(fun _=>?_),fun z=>absurd z ho⟩
      refine⟨_,rfl,m,W,p+1,o+1,s,r1,p1,hm,rfl,rfl,h4,?_⟩
      rcases h5 with ⟨rfl,rfl,rfl⟩ | ⟨u,rfl,hu,rfl,rfl⟩
      · exact⟨_,rfl,q⟩
      · exact⟨bS (by decide),_,⟨rfl,rfl,rfl⟩,_,rfl,W,p1,_,rfl,rfl,hu,_,rfl,q⟩
  · refine⟨bS (by decide),_,⟨rfl,rfl,rfl⟩,_,rfl,W,p,_,rfl,rfl,(fun z=>absurd (hp.symm.trans z) (by decide)),fun _=>?_⟩
    refine⟨bS (by decide),_,⟨rfl,rfl,rfl⟩,_,rfl,W,p,_,rfl,rfl,(fun z=>absurd (hp.symm.trans z) (by decide)),fun _=>?_⟩
    refine⟨bS (by decide),_,⟨rfl,rfl,rfl⟩,_,rfl,W,p,_,rfl,rfl,(fun _=>?_),fun z=>absurd hp z⟩
    refine⟨⟨rfl,rfl⟩,_,rfl,m,W,p+1,o,s,r,p2,hm,rfl,rfl,h,?_⟩
    cases r with
    | none=>exact⟨_,rfl,q⟩
    | some t=>exact⟨_,rfl,q⟩
  · refine⟨bS (by decide),_,⟨rfl,rfl,rfl⟩,_,rfl,W,p,_,rfl,rfl,(fun z=>absurd z hp1),fun _=>?_⟩
    refine⟨bS (by decide),_,⟨rfl,rfl,rfl⟩,_,rfl,W,p,_,rfl,rfl,(fun z=>absurd z hp2),fun _=>?_⟩
    refine⟨bS (by decide),_,⟨rfl,rfl,rfl⟩,_,rfl,W,p,_,rfl,rfl,(fun z=>absurd z hp3),fun _=>?_⟩
    refine⟨bS (by decide),_,⟨rfl,rfl,rfl⟩,_,rfl,W,p,rfl,rfl,?_⟩
    rcases h with ⟨hd,a,h9,rfl⟩ | ⟨hd,h9⟩
    · refine bF (fun _=>?_) fun e=>by rw[hd] at e;cases e
      exact⟨bS (by decide),_,⟨rfl,rfl,rfl⟩,_,rfl,W,p,a,p2,rfl,rfl,h9,_,rfl,_,rfl,q⟩
    · refine bF (fun e=>by rw[hd] at e;cases e) fun _=>?_
      refine⟨⟨rfl,rfl⟩,_,rfl,m,W,p,o,s,r,p2,hm,rfl,rfl,h9,?_⟩
      cases r with
      | none=>exact⟨_,rfl,q⟩
      | some t=>exact⟨_,rfl,q⟩
def Gi(cc:Kd->Addr)(cC cB:Addr)(n:Nat):Sv:=ib (bB (cL cc cC cB) [CJ (cc .sum) ["binder","group","one"] Pp [ag 3,ag 4,ag 5]])
def Ep(cc:Kd->Addr)(cC cB:Addr)(n:Nat):Sv:=B6 (bE (DO cC fC jV) 0 "wants" [vC (.str ")")])
def Ht(cc:Kd->Addr)(cC cB:Addr)(n:Nat):Sv:=aE (Ep cc cC cB n) (Gi cc cC cB n)
def EH(cc:Kd->Addr)(cC cB:Addr)(n:Nat):Sv:=bM 5 (jN cC fC (CR cc cB n .term) 0 [bB (dB cc cC cB) [ag 1],ck fM (ag 2) (vC (.int 1))])
def Gm(cc:Kd->Addr)(cC cB:Addr)(n:Nat):Sv:=aE (EH cc cC cB n) (Ht cc cC cB n)
def EC(cc:Kd->Addr)(cC cB:Addr)(n:Nat):Sv:=B6 (bE (DO cC fC jV) 0 "wants" [vC (.str ",")])
def GZ(cc:Kd->Addr)(cC cB:Addr)(n:Nat):Sv:=aE (EC cc cC cB n) (Gm cc cC cB n)
def F7(cc:Kd->Addr)(cC cB:Addr)(n:Nat):Sv:=bM 4 (bE (DO cC fC fI) 0 "take_name" [])
def HB(cc:Kd->Addr)(cC cB:Addr)(n:Nat):Sv:=aE (F7 cc cC cB n) (GZ cc cC cB n)
def DH(cc:Kd->Addr)(cC cB:Addr)(n:Nat):Sv:=B6 (bE (DO cC fC jV) 0 "wants" [vC (.str "in")])
def GS(cc:Kd->Addr)(cC cB:Addr)(n:Nat):Sv:=aE (DH cc cC cB n) (HB cc cC cB n)
def EL(cc:Kd->Addr)(cC cB:Addr)(n:Nat):Sv:=bM 3 (bE (DO cC fC fI) 0 "take_name" [])
def Hs(cc:Kd->Addr)(cC cB:Addr)(n:Nat):Sv:=aE (EL cc cC cB n) (GS cc cC cB n)
def ED(cc:Kd->Addr)(cC cB:Addr)(n:Nat):Sv:=B6 (bE (DO cC fC jV) 0 "wants" [vC (.str "(")])
def G4(cc:Kd->Addr)(cC cB:Addr)(n:Nat):Sv:=aE (ED cc cC cB n) (Hs cc cC cB n)
def D6(cc:Kd->Addr)(cC cB:Addr)(n:Nat):Sv:=f_ (eK xG (ag 2) (vC (.int 3))) (oq cB [vC (.str "too many sums stand one within another")]) (dc)
def FK(cc:Kd->Addr)(cC cB:Addr)(n:Nat):Sv:=
  aE (D6 cc cC cB n) (G4 cc cC cB n)
theorem qx:aA ["cursor","opened","sums","binder","group","term"] ["cursor","opened","sums"] (ak d4):=⟨rfl,rfl,rfl,by decide +kernel,rfl,by decide +kernel,by decide +kernel⟩
theorem cW:Lk d4 "cursor" .local:=by decide +kernel
theorem vF:Lk d4 "opened" .local:=by decide +kernel
theorem qq:Lk d4 "sums" .local:=by decide +kernel
theorem nj:Lk d4 "binder" .local:=by decide +kernel
theorem oU:Lk d4 "group" .local:=by decide +kernel
theorem pY:Lk d4 "term" .local:=by decide +kernel
theorem uA:Lk d4 "BadText" .globalImplicit:=by decide +kernel
theorem q8:Lk d4 "MOST_SUMS" .globalImplicit:=by decide +kernel
theorem A7:Lk d4 "Sum" .globalImplicit:=by decide +kernel
theorem m9:Lk d4 "checked_depth" .globalImplicit:=by decide +kernel
theorem mZ:Lk d4 "one_more_open" .globalImplicit:=by decide +kernel
theorem uU:Lk d4 "term_at" .globalImplicit:=by decide +kernel
theorem Fy{cc:Kd->Addr}{cC cB:Addr}{n:Nat}:∀ l ts Q,CR cc cB (n+1) .sum l ts Q->fC.length=l.length->∀ y dy,FK cc cC cB n (.oo y dy cC fC l::(ts.map Sl.va++List.replicate (6-(ts.length+1)) Sl.un)) (lr y dy cC fC Q):=by
  rintro l ts Q ⟨m,W,p,o,s,r,p2,hm,rfl,rfl,h,q⟩ _ y dy
  cases m with
  | zero=>exact h.elim
  | succ m=>
  have hm:m<=n:=by omega
  rcases h with ⟨rfl,rfl,rfl⟩ | ⟨hs,h1,h2,h3,h4,h5,h⟩
  · exact⟨_,rfl,q⟩
  refine bF (fun e=>absurd (of_decide_eq_true e) (by omega)) fun _=>?_
  refine⟨bS (by decide),_,⟨rfl,rfl,rfl⟩,_,rfl,W,p,_,rfl,rfl,h1,?_⟩
  refine⟨bS (by decide),_,⟨rfl,rfl,rfl⟩,_,rfl,W,p+1,rfl,rfl,h2,?_⟩
  refine⟨bS (by decide),_,⟨rfl,rfl,rfl⟩,_,rfl,W,p+2,_,rfl,rfl,h3,?_⟩
  refine⟨bS (by decide),_,⟨rfl,rfl,rfl⟩,_,rfl,W,p+3,rfl,rfl,h4,?_⟩
  refine⟨bS (by decide),_,⟨rfl,rfl,rfl⟩,_,rfl,W,p+4,_,rfl,rfl,h5,?_⟩
  rcases h with ⟨rfl,rfl,rfl⟩ | ⟨ho,r1,p1,h4,h5⟩
  · exact⟨⟨rfl,rfl⟩,30,rfl,(fun z=>absurd rfl z),fun _=>⟨_,rfl,q⟩⟩
  refine⟨⟨rfl,rfl⟩,o,rfl,(fun _=>?_),fun z=>absurd z ho⟩
  refine⟨_,rfl,m,W,p+5,o+1,s+1,r1,p1,hm,rfl,rfl,h4,?_⟩
  rcases h5 with ⟨rfl,rfl,rfl⟩ | ⟨u,rfl,hu,hd,rfl,rfl⟩
  · exact⟨_,rfl,q⟩
  · exact⟨bS (by decide),_,⟨rfl,rfl,rfl⟩,_,rfl,W,p1,_,rfl,rfl,hu,_,_,_,rfl,.sum (sn W (p+1)) (sn W (p+3)) u,rfl,(by omega),(fun _=>⟨_,rfl,q⟩),fun z=>absurd hd (by omega)⟩
def CV(cc:Kd->Addr)(cC cB:Addr)(n:Nat):Sv:=ib (CJ (cc .ent) ["name","places"] Dl [ag 2,bE (DO cC fC mn) 0 "take_keys" []])
def Av(cc:Kd->Addr)(cC cB:Addr)(n:Nat):Sv:=B6 (bB (dB cc cC cB) [ag 1])
def BY(cc:Kd->Addr)(cC cB:Addr)(n:Nat):Sv:=aE (Av cc cC cB n) (CV cc cC cB n)
def A5(cc:Kd->Addr)(cC cB:Addr)(n:Nat):Sv:=f_ (Dh (j' pf (bE (DO cC fC gm) 0 "passes" [vC (.str "(")]))) (ib (CJ (cc .ent) ["name","places"] Dl [ag 2,fG []])) (dc)
def B3(cc:Kd->Addr)(cC cB:Addr)(n:Nat):Sv:=aE (A5 cc cC cB n) (BY cc cC cB n)
def AH(cc:Kd->Addr)(cC cB:Addr)(n:Nat):Sv:=bM 2 (bE (DO cC fC fI) 0 "take_name" [])
def ym(cc:Kd->Addr)(cC cB:Addr)(n:Nat):Sv:=
  aE (AH cc cC cB n) (B3 cc cC cB n)
theorem wM:aA ["cursor","opened","name"] ["cursor","opened"] (ak gM):=⟨rfl,rfl,rfl,by decide +kernel,rfl,by decide +kernel,by decide +kernel⟩
theorem iX:Lk gM "cursor" .local:=by decide +kernel
theorem sL:Lk gM "opened" .local:=by decide +kernel
theorem jB:Lk gM "name" .local:=by decide +kernel
theorem mj:Lk gM "Entry" .globalImplicit:=by decide +kernel
theorem mf:Lk gM "one_more_open" .globalImplicit:=by decide +kernel
theorem AZ{cc:Kd->Addr}{cC cB:Addr}{n:Nat}:∀ l ts Q,On cc cB (n+1) l ts Q->fC.length=l.length->∀ y dy,ym cc cC cB n (.oo y dy cC fC l::(ts.map Sl.va++List.replicate (3-(ts.length+1)) Sl.un)) (lr y dy cC fC Q):=by
  rintro l ts Q ⟨m,W,p,o,s,r,p2,hm,rfl,rfl,h,q⟩ _ y dy
  cases m with
  | zero=>exact h.elim
  | succ m=>
  have hm:m<=n:=by omega
  obtain⟨h1,h⟩:=h
  refine⟨bS (by decide),_,⟨rfl,rfl,rfl⟩,_,rfl,W,p,rfl,rfl,h1,?_⟩
  rcases h with ⟨h2,rfl,rfl⟩ | ⟨h2,h⟩
  · refine⟨bS (by decide),_,⟨rfl,rfl,rfl⟩,_,rfl,W,p+1,_,rfl,rfl,(fun z=>absurd z h2),fun _=>?_⟩
    exact⟨_,[],rfl,_,rfl,q⟩
  · refine⟨bS (by decide),_,⟨rfl,rfl,rfl⟩,_,rfl,W,p+1,_,rfl,rfl,(fun _=>?_),fun z=>absurd h2 z⟩
    rcases h with ⟨rfl,rfl,rfl⟩ | ⟨ho,ks,h3,h4,h5,rfl,rfl⟩
    · exact⟨30,rfl,(fun z=>absurd rfl z),fun _=>⟨_,rfl,q⟩⟩
    · refine⟨o,rfl,(fun _=>?_),fun z=>absurd z ho⟩
      exact⟨bS (by decide),_,⟨rfl,rfl,rfl⟩,_,rfl,W,p+2,ks,rfl,rfl,h3,h4,h5,_,ks,rfl,_,rfl,q⟩
def OkP(P:Program)(w:World)(K:PySem.W.Frag)(mg:Str->Option Value)(base:Heap)(A:dS K mg)(n:Nat):Prop:=
  aQ P w K mg base (iP P w) (70+n) A.v8 A.vE ["cursor","opened","sums"] (yf K A.cC fC (CR A.c A.cB n .term)) /\
  aQ P w K mg base (iP P w) (70+n) A.nZ A.nL ["cursor","opened","sums"] (yf K A.cC fC (CR A.c A.cB n .prod)) /\
  aQ P w K mg base (iP P w) (70+n) A.vy A.vQ ["cursor","opened","sums"] (yf K A.cC fC (CR A.c A.cB n .part)) /\
  aQ P w K mg base (iP P w) (70+n) A.zj A.zV ["cursor","opened","sums"] (yf K A.cC fC (CR A.c A.cB n .sum)) /\
  aQ P w K mg base (iP P w) (70+n) A.sC A.sP ["cursor","opened"] (yf K A.cC fC (On A.c A.cB n))
theorem Er(A:dS K mg)(B:pP mg):∀ n,OkP P w K mg base A n
  | 0=>⟨aQ.noneM CR.zero,aQ.noneM CR.zero,aQ.noneM CR.zero,aQ.noneM CR.zero,aQ.noneM On.zero⟩
  | n+1=>by
    have ih:OkP P w K mg base A n:=Er A B n
    refine⟨?_,?_,?_,?_,?_⟩
    · exact u4 A.dQ.F oK (BK A.c A.cC A.cB n) CR.len Cu fun c9 A_ outer s H E hr=>have hu:=hr.units
        ah (aD (i:=3) oK.nd rfl (Or.inl eB) (jm (i:=0) (ih.2.1) (hr.mono (by show _<=70+n;omega)) gz A.bV.m A.bV.F.kp A.bV.b af rfl (Or.inl dA) (ai (v_var (i:=1) rfl (Or.inl jk)) (ai (v_var (i:=2) rfl (Or.inl kr)) ae))))
          (ah (uq jj (aZ (Vv rfl) (dC (i:=0) (aO (nr A B) A.qN A.pb A.qy (hr.mono (by show _<=70+n;omega)) af) rfl (Or.inl dA)) (cy (hz:=aJ rfl) (aa (aq) (aa (aq) ae))) (by with_unfolding_all rfl)) (av (cM (ic rfl (eS (i:=0) (aO (eR A B) A.gu A.pb A.gn (hr.mono (by show _<=70+n;omega)) af) rfl (Or.inl dA) (aa (aq) ae))) (av (aD (i:=3) oK.nd rfl (Or.inl eB) (aT rfl (fE A B) (hr.mono (by show _<=70+n;omega)) iB A.aF.m A.aF.F.kp A.aF.b af (aM (wC rfl (A.Oh (.bin 0)) (E6 A) (hr.mono (by show _<=70+n;omega)) xk A.La (A.bi (.bin 0)) (ai (v_var (i:=3) rfl (Or.inl eB)) (aM (jm (i:=0) (ih.2.1) (hr.mono (by show _<=70+n;omega)) gz A.bV.m A.bV.F.kp A.bV.b af rfl (Or.inl dA) (ai (v_var (i:=1) rfl (Or.inl jk)) (ai (v_var (i:=2) rfl (Or.inl kr)) ae))) ae))) ae)))) (ah (mz (eS (i:=0) (aO (iQ A B) A.kh A.pb A.j5 (hr.mono (by show _<=70+n;omega)) af) rfl (Or.inl dA) (aa (aq) ae)))
          (av (aD (i:=3) oK.nd rfl (Or.inl eB) (aT rfl (fE A B) (hr.mono (by show _<=70+n;omega)) iB A.aF.m A.aF.F.kp A.aF.b af (aM (wC rfl (A.Oh (.bin 1)) (B7 A) (hr.mono (by show _<=70+n;omega)) vw A.HX (A.bi (.bin 1)) (ai (v_var (i:=3) rfl (Or.inl eB)) (aM (jm (i:=0) (ih.2.1) (hr.mono (by show _<=70+n;omega)) gz A.bV.m A.bV.F.kp A.bV.b af rfl (Or.inl dA) (ai (v_var (i:=1) rfl (Or.inl jk)) (ai (v_var (i:=2) rfl (Or.inl kr)) ae))) ae))) ae))))))))
          (av (dj (v_var (i:=3) rfl (Or.inl eB)))))
    · exact u4 A.bV.F mJ (tQ A.c A.cC A.cB n) CR.len xC fun c9 A_ outer s H E hr=>have hu:=hr.units
        ah (aD (i:=3) mJ.nd rfl (Or.inl fS) (jm (i:=0) (ih.2.2.1) (hr.mono (by show _<=70+n;omega)) jy A.dR.m A.dR.F.kp A.dR.b af rfl (Or.inl gO) (ai (v_var (i:=1) rfl (Or.inl j8)) (ai (v_var (i:=2) rfl (Or.inl lz)) ae))))
          (ah (uq jj (ic rfl (eS (i:=0) (aO (eR A B) A.gu A.pb A.gn (hr.mono (by show _<=70+n;omega)) af) rfl (Or.inl gO) (aa (aq) ae))) (av (aD (i:=3) mJ.nd rfl (Or.inl fS) (aT rfl (fE A B) (hr.mono (by show _<=70+n;omega)) k_ A.aF.m A.aF.F.kp A.aF.b af (aM (wC rfl (A.Oh (.bin 2)) (Cz A) (hr.mono (by show _<=70+n;omega)) ro A.Jn (A.bi (.bin 2)) (ai (v_var (i:=3) rfl (Or.inl fS)) (aM (jm (i:=0) (ih.2.2.1) (hr.mono (by show _<=70+n;omega)) jy A.dR.m A.dR.F.kp A.dR.b af rfl (Or.inl gO) (ai (v_var (i:=1) rfl (Or.inl j8)) (ai (v_var (i:=2) rfl (Or.inl lz)) ae))) ae))) ae)))))
          (av (dj (v_var (i:=3) rfl (Or.inl fS)))))
    · exact u4 A.dR.F zu (Bh A.c A.cC A.cB n) CR.len Di fun c9 A_ outer s H E hr=>have hu:=hr.units
        ah (cM (ic rfl (eS (i:=0) (aO (eR A B) A.gu A.pb A.gn (hr.mono (by show _<=70+n;omega)) af) rfl (Or.inl bh) (aa (aq) ae))) (av (dj (aT rfl (fE A B) (hr.mono (by show _<=70+n;omega)) mB A.aF.m A.aF.F.kp A.aF.b af (aM (wC rfl (A.Oh .neg) (xy A) (hr.mono (by show _<=70+n;omega)) ri A.ze (A.bi .neg) (aM (jm (i:=0) (ih.2.2.1) (hr.mono (by show _<=70+n;omega)) s_ A.dR.m A.dR.F.kp A.dR.b af rfl (Or.inl bh) (aM (aT rfl (g7 A B) (hr.mono (by show _<=70+n;omega)) iH A.aK.m A.aK.F.kp A.aK.b af (ai (v_var (i:=1) rfl (Or.inl gG)) ae)) (ai (v_var (i:=2) rfl (Or.inl kC)) ae))) ae)) ae)))) (cg))
          (ah (cM (ic rfl (eS (i:=0) (aO (eR A B) A.gu A.pb A.gn (hr.mono (by show _<=70+n;omega)) af) rfl (Or.inl bh) (aa (aq) ae))) (ah (aD (i:=3) zu.nd rfl (Or.inl oW) (jm (i:=0) (ih.1) (hr.mono (by show _<=70+n;omega)) sG A.dQ.m A.dQ.F.kp A.dQ.b af rfl (Or.inl bh) (aM (aT rfl (g7 A B) (hr.mono (by show _<=70+n;omega)) iH A.aK.m A.aK.F.kp A.aK.b af (ai (v_var (i:=1) rfl (Or.inl gG)) ae)) (ai (v_var (i:=2) rfl (Or.inl kC)) ae))))
          (ah (mz (eS (i:=0) (aO (iQ A B) A.kh A.pb A.j5 (hr.mono (by show _<=70+n;omega)) af) rfl (Or.inl bh) (aa (aq) ae)))
          (av (dj (v_var (i:=3) rfl (Or.inl oW)))))) (cg))
          (ah (cM (ic rfl (eS (i:=0) (aO (eR A B) A.gu A.pb A.gn (hr.mono (by show _<=70+n;omega)) af) rfl (Or.inl bh) (aa (aq) ae))) (av (dj (jm (i:=0) (ih.2.2.2.1) (hr.mono (by show _<=70+n;omega)) u6 A.lM.m A.lM.F.kp A.lM.b af rfl (Or.inl bh) (ai (v_var (i:=1) rfl (Or.inl gG)) (ai (v_var (i:=2) rfl (Or.inl kC)) ae))))) (cg))
          (ah (cM (ic rfl (dC (i:=0) (aO (nz A B) A.lX A.pb A.lO (hr.mono (by show _<=70+n;omega)) af) rfl (Or.inl bh))) (av (dj (wC rfl (A.Oh .num) (A2 A) (hr.mono (by show _<=70+n;omega)) uz A.Fg (A.bi .num) (aM (dC (i:=0) (aO (xE A B) A.rM A.pb A.rX (hr.mono (by show _<=70+n;omega)) af) rfl (Or.inl bh)) ae)))) (cg))
          (av (dj (jm (i:=0) (ih.2.2.2.2) (hr.mono (by show _<=70+n;omega)) rJ A.iO.m A.iO.F.kp A.iO.b af rfl (Or.inl bh) (ai (v_var (i:=1) rfl (Or.inl gG)) ae)))))))
    · exact u4 A.lM.F qx (FK A.c A.cC A.cB n) CR.len Fy fun c9 A_ outer s H E hr=>have hu:=hr.units
        ah (cM (aZ (k9 rfl hu) (v_var (i:=2) rfl (Or.inl qq)) (Ac (v:=.int 3) q8 A.wR ⟨_,rfl⟩ (fun _=>ao.mpr rfl)) (aL _)) (av (j6 rfl gq A.X.eb uA A.X.mb (aa (aq) ae))) (cg))
          (ah (mz (eS (i:=0) (aO (iQ A B) A.kh A.pb A.j5 (hr.mono (by show _<=70+n;omega)) af) rfl (Or.inl cW) (aa (aq) ae)))
          (ah (aD (i:=3) qx.nd rfl (Or.inl nj) (dC (i:=0) (aO (gY A B) A.g6 A.pb A.g8 (hr.mono (by show _<=70+n;omega)) af) rfl (Or.inl cW)))
          (ah (mz (eS (i:=0) (aO (iQ A B) A.kh A.pb A.j5 (hr.mono (by show _<=70+n;omega)) af) rfl (Or.inl cW) (aa (aq) ae)))
          (ah (aD (i:=4) qx.nd rfl (Or.inl oU) (dC (i:=0) (aO (gY A B) A.g6 A.pb A.g8 (hr.mono (by show _<=70+n;omega)) af) rfl (Or.inl cW)))
          (ah (mz (eS (i:=0) (aO (iQ A B) A.kh A.pb A.j5 (hr.mono (by show _<=70+n;omega)) af) rfl (Or.inl cW) (aa (aq) ae)))
          (ah (aD (i:=5) qx.nd rfl (Or.inl pY) (jm (i:=0) (ih.1) (hr.mono (by show _<=70+n;omega)) uU A.dQ.m A.dQ.F.kp A.dQ.b af rfl (Or.inl cW) (aM (aT rfl (g7 A B) (hr.mono (by show _<=70+n;omega)) mZ A.aK.m A.aK.F.kp A.aK.b af (ai (v_var (i:=1) rfl (Or.inl vF)) ae)) (bQ (bI (cn rfl) (v_var (i:=2) rfl (Or.inl qq)) (au)) ae))))
          (ah (mz (eS (i:=0) (aO (iQ A B) A.kh A.pb A.j5 (hr.mono (by show _<=70+n;omega)) af) rfl (Or.inl cW) (aa (aq) ae)))
          (av (dj (aT rfl (fE A B) (hr.mono (by show _<=70+n;omega)) m9 A.aF.m A.aF.F.kp A.aF.b af (aM (wC rfl (A.Oh .sum) (G8 A) (hr.mono (by show _<=70+n;omega)) A7 A.P0 (A.bi .sum) (ai (v_var (i:=3) rfl (Or.inl nj)) (ai (v_var (i:=4) rfl (Or.inl oU)) (ai (v_var (i:=5) rfl (Or.inl pY)) ae)))) ae)))))))))))
    · exact u4 A.iO.F wM (ym A.c A.cC A.cB n) On.len AZ fun c9 A_ outer s H E hr=>have hu:=hr.units
        ah (aD (i:=2) wM.nd rfl (Or.inl jB) (dC (i:=0) (aO (gY A B) A.g6 A.pb A.g8 (hr.mono (by show _<=70+n;omega)) af) rfl (Or.inl iX)))
          (ah (cM (p8 (ic rfl (eS (i:=0) (aO (eR A B) A.gu A.pb A.gn (hr.mono (by show _<=70+n;omega)) af) rfl (Or.inl iX) (aa (aq) ae)))) (av (dj (wC rfl (A.Oh .ent) (tR A B) (hr.mono (by show _<=70+n;omega)) mj A.CS (A.bi .ent) (ai (v_var (i:=2) rfl (Or.inl jB)) (gX (cy ae) ae))))) (cg))
          (ah (mz (aT rfl (g7 A B) (hr.mono (by show _<=70+n;omega)) mf A.aK.m A.aK.F.kp A.aK.b af (ai (v_var (i:=1) rfl (Or.inl sL)) ae)))
          (av (dj (wC rfl (A.Oh .ent) (tR A B) (hr.mono (by show _<=70+n;omega)) mj A.CS (A.bi .ent) (ai (v_var (i:=2) rfl (Or.inl jB)) (aM (dC (i:=0) (aO (y' A B) A.tX A.pb A.uv (hr.mono (by show _<=70+n;omega)) af) rfl (Or.inl iX)) ae)))))))
end
end Pw
namespace Pw
open PySem L2
seal PE PT PW PA PS ju PG sg PI rA PO PJ
section
variable {P:Program} {w:World} {K:PySem.W.Frag} {mg:Str->Option Value} {base:Heap} {f:Addr} {fd:FuncData}
def DW(cc:Kd->Addr)(cC cB:Addr):Sv:=gk (fG [ag 3,yB (NJ cC) 2 "at"])
def Dn(cc:Kd->Addr)(cC cB:Addr):Sv:=bM 3 (jN cC fC (CR cc cB 140 .term) 2 [vC (.int 0),vC (.int 0)])
def FE(cc:Kd->Addr)(cC cB:Addr):Sv:=aE (Dn cc cC cB) (DW cc cC cB)
def B0(cc:Kd->Addr)(cC cB:Addr):Sv:=PU 2 cC fC DK [ag 0,ag 1]
def By(cc:Kd->Addr)(cC cB:Addr):Sv:=
  aE (B0 cc cC cB) (FE cc cC cB)
def vI(cc:Kd->Addr)(cC cB:Addr):Ct:=fun ts P=>∃ m W p r p',ts=[.lst (W.map Tv.str),.int (p:Nat)]/\m<=140/\Rd W m .term 0 0 p r p'/\match r with | some t=>P (.ok (.va (.tup [enc cc t,.int (p':Nat)]))) | none=>P (.er cB)
theorem su:aA ["words","at","cursor","term"] ["words","at"] (ak hU):=⟨rfl,rfl,rfl,by decide +kernel,rfl,by decide +kernel,by decide +kernel⟩
theorem vD:Lk hU "words" .local:=by decide +kernel
theorem Aq:Lk hU "at" .local:=by decide +kernel
theorem jh:Lk hU "cursor" .local:=by decide +kernel
theorem oX:Lk hU "term" .local:=by decide +kernel
theorem uE:Lk hU "Cursor" .globalImplicit:=by decide +kernel
theorem tH:Lk hU "term_at" .globalImplicit:=by decide +kernel
theorem DJ{cc:Kd->Addr}{cC cB:Addr}:∀ ts Q,vI cc cC cB ts Q->ts.length=2:=fun ts Q ⟨_,_,_,_,_,e,_⟩=>by rw[e];rfl
theorem Dx{cc:Kd->Addr}{cC cB:Addr}:∀ ts Q,vI cc cC cB ts Q->fu 4 (By cc cC cB) ts Q:=by
  rintro ts Q ⟨m,W,p,r,p2,rfl,hm,h,q⟩
  refine⟨_,_,rfl,fun x dx=>?_⟩
  refine⟨⟨rfl,rfl⟩,_,rfl,m,W,p,0,0,r,p2,hm,rfl,rfl,h,?_⟩
  cases r with
  | none=>exact q
  | some t=>exact⟨rfl,_,rfl,q⟩
theorem Hh(A:dS K mg)(B:pP mg):aQ P w K mg base (iP P w) 211 A.vh A.vP ["words","at"] (sN K (vI A.c A.cC A.cB)):=
  i7 A.jF.F su (By A.c A.cC A.cB) DJ Dx fun c9 A_ outer s H E hr=>have hu:=hr.units
  ah (NK (i:=2) su.nd rfl (Or.inl jh) rfl A.mkC (A3 A) (hr.mono (by decide)) uE A.Fn A.biC (ai (v_var (i:=0) rfl (Or.inl vD)) (ai (v_var (i:=1) rfl (Or.inl Aq)) ae)))
  (ah (aD (i:=3) su.nd rfl (Or.inl oX) (jm (i:=2) ((Er A B 140).1) (hr.mono (by decide)) tH A.dQ.m A.dQ.F.kp A.dQ.b af rfl (Or.inl jh) (aa (au) (aa (au) ae))))
  (av (a_ (cy (hz:=aJ rfl) (ai (v_var (i:=3) rfl (Or.inl oX)) (cj (yk (i:=2) rfl (A.fldC (by decide)) rfl (Or.inl jh)) ae))))))
end
end Pw
namespace Pw
open PySem L2
theorem e9{W:List Str}:∀ {n:Nat} {lv:Lv} {o s p:Nat} {r:Option ir} {p':Nat},Rd W n lv o s p r p'->Rd W (n+1) lv o s p r p'
  | 0,_,_,_,_,_,_,h=>h.elim
  | n+1,.term,_,_,_,_,_,h=>by
    obtain⟨r1,p1,h1,h2⟩:=h
    refine⟨r1,p1,e9 h1,h2.imp id fun⟨t,e,d,h3⟩=>⟨t,e,d,e9 h3⟩⟩
  | n+1,.tl t,_,_,_,_,_,h=>by
    rcases h with ⟨e,r1,p1,h1,h2⟩ | ⟨e,r1,p1,h1,h2⟩ | h
    · exact .inl ⟨e,r1,p1,e9 h1,h2.imp id fun⟨u,e,d,h3⟩=>⟨u,e,d,h3.imp id fun⟨d,h4⟩=>⟨d,e9 h4⟩⟩⟩
    · exact .inr (.inl ⟨e,r1,p1,e9 h1,h2.imp id fun⟨u,e,d,h3⟩=>⟨u,e,d,h3.imp id fun⟨d,h4⟩=>⟨d,e9 h4⟩⟩⟩)
    · exact .inr (.inr h)
  | n+1,.prod,_,_,_,_,_,h=>by
    obtain⟨r1,p1,h1,h2⟩:=h
    refine⟨r1,p1,e9 h1,h2.imp id fun⟨t,e,d,h3⟩=>⟨t,e,d,e9 h3⟩⟩
  | n+1,.pl t,_,_,_,_,_,h=>by
    rcases h with ⟨e,r1,p1,h1,h2⟩ | h
    · exact .inl ⟨e,r1,p1,e9 h1,h2.imp id fun⟨u,e,d,h3⟩=>⟨u,e,d,h3.imp id fun⟨d,h4⟩=>⟨d,e9 h4⟩⟩⟩
    · exact .inr h
  | n+1,.part,_,_,_,_,_,h=>by
    rcases h with ⟨e,h⟩ | ⟨e,h⟩ | ⟨e,h⟩ | ⟨e,h⟩
    · exact .inl ⟨e,h.imp id fun⟨ho,r1,p1,h1,h2⟩=>⟨ho,r1,p1,e9 h1,h2⟩⟩
    · exact .inr (.inl ⟨e,h.imp id fun⟨ho,r1,p1,h1,h2⟩=>⟨ho,r1,p1,e9 h1,h2⟩⟩)
    · exact .inr (.inr (.inl ⟨e,e9 h⟩))
    · exact .inr (.inr (.inr ⟨e,h.imp id fun⟨e,h⟩=>⟨e,e9 h⟩⟩))
  | n+1,.sum,_,_,_,_,_,h=>by
    rcases h with h | ⟨h0,h1,h2,h3,h4,h5,h⟩
    · exact .inl h
    · exact .inr ⟨h0,h1,h2,h3,h4,h5,h.imp id fun⟨ho,r1,p1,h1,h2⟩=>⟨ho,r1,p1,e9 h1,h2⟩⟩
  | n+1,.ent,_,_,_,_,_,h=>h
theorem bH{W:List Str}{lv:Lv}{o s p:Nat}{r:Option ir}{p':Nat}{n m:Nat}(h:Rd W n lv o s p r p')(hm:n<=m):Rd W m lv o s p r p':=by
  induction hm with
  | refl=>exact h
  | step _ ih=>exact e9 ih
def At(W:List Str):Nat->List Str->Prop
  | _,[]=>True
  | p,w::ws=>sn W p=w/\At W (p+1) ws
theorem At.app{W:List Str}:∀ {u v:List Str} {p:Nat},At W p (u++v)->At W p u/\At W (p+u.length) v
  | [],_,_,h=>⟨trivial,h⟩
  | _::u,v,p,⟨h1,h2⟩=>by
    obtain⟨a,b⟩:=At.app (u:=u) h2
    exact⟨⟨h1,a⟩,by rw[List.length_cons,show p+(u.length+1)=p+1+u.length by omega];exact b⟩
theorem At.self:∀ (A ws B:List Str),At (A++ws++B) A.length ws
  | A,[],B=>trivial
  | A,w::ws,B=>by
    refine⟨?_,?_⟩
    · unfold sn
      rw[List.getD_eq_getElem?_getD,List.append_assoc,List.getElem?_append_right (Nat.le_refl _),Nat.sub_self]
      rfl
    · have:=At.self (A++[w]) ws B
      rw[List.append_assoc,List.append_assoc] at this
      rw[List.append_assoc]
      simpa using this
theorem Sg{A ws:List Str}{b:Str}{B:List Str}:sn (A++ws++(b::B)) (A.length+ws.length)=b:=by
  unfold sn
  rw[List.getD_eq_getElem?_getD,← List.length_append,List.getElem?_append_right (Nat.le_refl _),Nat.sub_self]
  rfl
theorem N9{A ws:List Str}:sn (A++ws++[]) (A.length+ws.length)="":=HL (by rw[List.append_nil,List.length_append];omega)
def J3:Fin 3->Nat
  | 2=>2
  | _=>1
def Br(k l:Nat)(w ws:List Str):Prop:=ws=("(":Str)::(w++[(")":Str)])\/(l<=k/\ws=w)
def d6:List Str->List Str
  | []=>[]
  | [k]=>["(",k,")"]
  | k::ks=>("(":Str)::k::((ks.flatMap fun x=>[(",": Str),x])++[(")":Str)])
def Nf(a:Fq):Prop:=VM a/\0<=a.1/\a.1<1000000000/\a.2<=999
def mE(a:Fq)(w:List Str):Prop:=(∃ m:Int,1<=m/\m<=3/\w=[iT (a.1*m),"/",iT (a.2*m)])\/(a.2=1/\w=[iT a.1])
def Row:ir->Nat->List Str->Prop
  | .num a,l,ws=>∃ w,mE a w/\Br 4 l w ws
  | .ent n ks,l,ws=>Br 4 l (n::d6 ks) ws
  | .neg t,l,ws=>∃ w,Row t 3 w/\Br 3 l ("-"::w) ws
  | .bin b x y,l,ws=>∃ u v,Row x (J3 b) u/\Row y (J3 b+1) v/\Br (J3 b) l (u++markB b::v) ws
  | .sum b g t,l,ws=>∃ w,Row t 1 w/\Br 4 l ("sum"::"("::b::"in"::g::","::(w++[(")":Str)])) ws
theorem PD{P:Nat->Bool}{x:Str}(h0:x.cps.toList≠[])(h:∀ c∈x.cps.toList,P c=true):(decide (x.length > 0)&&x.cps.all P)=true:=by
  rw[Bool.and_eq_true]
  refine⟨decide_eq_true ?_,?_⟩
  · have:0<x.cps.toList.length:=List.length_pos_iff.mpr h0
    rw[Array.length_toList] at this
    exact this
  · rw[← Array.all_toList,List.all_eq_true]
    exact h
def Lw(x:Str):Prop:=x.cps.toList≠[]/\∀ c∈x.cps.toList,97<=c/\c<=122
def Nw(x:Str):Prop:=Lw x/\kept.any (·==x)=false/\x.length<=20
theorem BA:∀ c:Nat,97<=c/\c<=122->Unicode.isAlpha c=true/\Unicode.isDigit c=false:=by
  have:∀ k∈List.range 26,Unicode.isAlpha (97+k)=true/\Unicode.isDigit (97+k)=false:=by decide +kernel
  intro c hc
  have:=this (c-97) (List.mem_range.mpr (by omega))
  rw[show 97+(c-97)=c by omega] at this
  exact this
theorem J1:∀ c:Nat,48<=c/\c<=57->Unicode.isDigit c=true:=by
  have:∀ k∈List.range 10,Unicode.isDigit (48+k)=true:=by decide +kernel
  intro c hc
  have:=this (c-48) (List.mem_range.mpr (by omega))
  rw[show 48+(c-48)=c by omega] at this
  exact this
theorem Nw.nm{x:Str}(h:Nw x):Nm x:=⟨PD h.1.1 fun c hc=>(BA c (h.1.2 c hc)).1,h.2.1⟩
theorem Nw.nd{x:Str}(h:Nw x):Txt.isdigit x=false:=by
  cases e:Txt.isdigit x with
  | false=>rfl
  | true=>
    exfalso
    unfold Txt.isdigit at e
    rw[Bool.and_eq_true,← Array.all_toList,List.all_eq_true] at e
    obtain⟨c,hc⟩:=List.exists_mem_of_ne_nil _ h.1.1
    have:=e.2 c hc
    rw[(BA c (h.1.2 c hc)).2] at this
    cases this
theorem Nw.ne{x:Str}(h:Nw x){y:Str}(hy:Txt.isalpha y=false):x≠y:=fun e=>by
  have:=h.nm.1
  rw[e,hy] at this
  cases this
theorem Nw.nsum{x:Str}(h:Nw x):x≠"sum":=fun e=>by
  have:=h.2.1
  rw[e] at this
  revert this
  decide +kernel
theorem ME{n:Int}(h0:0<=n)(h1:n<10 ^ 10):Nu (iT n) n:=by
  refine⟨?_,PySem.W.KIN.num_reads h0 h1,?_⟩
  · obtain⟨m,rfl⟩:=Int.eq_ofNat_of_zero_le h0
    have e:=PySem.W.KIN.signs_num m
    refine PD (x:=iT (m:Int)) ?_ fun c hc=>?_
    · show (Str.ofString (toString ((m:Nat):Int))).cps.toList≠[]
      rw[e]
      intro z
      have:(Nat.toDigits 10 m).length=0:=by rw[← List.length_map (f:=Char.toNat),z];rfl
      have h2:=Nat.length_toDigits_pos (b:=10) (n:=m)
      omega
    · have hc:c∈(Str.ofString (toString ((m:Nat):Int))).cps.toList:=hc
      rw[e] at hc
      obtain⟨ch,Kv,e⟩:=List.mem_map.mp hc
      have r:=PyProof.Rows.digit_range (Nat.isDigit_of_mem_toDigits (by decide) (by decide) Kv)
      rw[← e]
      exact J1 _ r
  · have:=Rh (i:=n) (k:=34) (by have:(10:Int) ^ 10=10000000000:=rfl;have:(2:Nat) ^ 34=17179869184:=rfl;omega)
    omega
theorem Be{a:Fq}(ha:VM a){m:Int}(hm:1<=m):JT (a.1*m) (a.2*m)=a:=by
  have h0:a.2*m≠0:=by
    have:=ha.1
    intro z
    rcases Int.mul_eq_zero.mp z with z | z <;> omega
  have c:=Eo (t:=a.1*m) h0
  refine Mn (HQ h0) ha ?_
  refine Int.eq_of_mul_eq_mul_right (a:=m) (by omega) ?_
  rw[Int.mul_assoc,c,Int.mul_assoc,Int.mul_assoc,Int.mul_comm m]
theorem Ov{W:List Str}{a:Fq}(h:Nf a){w:List Str}(hw:mE a w){p:Nat}(hA:At W p w)(hn:sn W (p+w.length)≠"/"):IE W p a (p+w.length):=by
  obtain⟨hr,h1,h2,h3⟩:=h
  have h4:=hr.1
  rcases hw with ⟨m,m1,m3,rfl⟩ | ⟨e,rfl⟩
  · obtain⟨e1,e2,e3,_⟩:=hA
    have b1:0<=a.1*m:=Int.mul_nonneg h1 (by omega)
    have b2:a.1*m<=1000000000*3:=Int.mul_le_mul (by omega) m3 (by omega) (by decide)
    have b3:1*1<=a.2*m:=Int.mul_le_mul h4 m1 (by decide) (by omega)
    have b4:a.2*m<=999*3:=Int.mul_le_mul h3 m3 (by omega) (by decide)
    have P10:(10:Int) ^ 10=10000000000:=rfl
    refine⟨a.1*m,by rw[e1];exact ME b1 (by omega),.inr ⟨e2,a.2*m,by rw[show p+2=p+1+1 from rfl,e3];exact ME (by omega) (by omega),by omega,yC (k:=40) (by have:(2:Nat) ^ 40=1099511627776:=rfl;omega) (by decide),(Be hr m1).symm,rfl⟩⟩
  · obtain⟨e1,_⟩:=hA
    have P10:(10:Int) ^ 10=10000000000:=rfl
    refine⟨a.1,by rw[e1];exact ME h1 (by omega),.inl ⟨hn,?_,rfl⟩⟩
    have:=Be hr (m:=1) (by decide)
    rw[Int.mul_one,Int.mul_one,e] at this
    exact this.symm
def TK:Nat->ir->Prop
  | _,.num a=>Nf a
  | _,.ent n ks=>Nw n/\ks.length<=2/\∀ k∈ks,Nw k
  | s,.neg t=>TK s t
  | s,.bin _ x y=>TK s x/\TK s y
  | 0,.sum _ _ _=>False
  | s+1,.sum b g t=>Nw b/\Nw g/\TK s t
def Af:Nat->Nat
  | 0=>0
  | d+1=>Af d+4*(d+1)+1
theorem Mt{a b:Nat}(h:a<=b):Af a<=Af b:=by
  induction h with
  | refl=>exact Nat.le_refl _
  | step _ ih=>exact Nat.le_trans ih (by show _<=Af _+_+1;omega)
section
variable (W:List Str)
def fq(σ:Nat)(t:ir)(w:List Str)(f b:Nat):Prop:=∀ p o s,At W p w->sn W (p+w.length)≠"("->sn W (p+w.length)≠"/"->o+2*dp t<=b->s+σ<=3->Rd W f .part o s p (some t) (p+w.length)
def mD(σ:Nat)(t:ir)(w:List Str)(f b:Nat):Prop:=∀ p o s k r p',At W p w->sn W (p+w.length)≠"("->sn W (p+w.length)≠"/"->o+2*dp t<=b->s+σ<=3->f<=k->Rd W k (.pl t) o s (p+w.length) r p'->Rd W (k+dp t) .prod o s p r p'
def pV(σ:Nat)(t:ir)(w:List Str)(f b:Nat):Prop:=∀ p o s k r p',At W p w->sn W (p+w.length)≠"("->sn W (p+w.length)≠"/"->sn W (p+w.length)≠"*"->o+2*dp t<=b->s+σ<=3->f+dp t<=k->Rd W k (.tl t) o s (p+w.length) r p'->Rd W (k+dp t) .term o s p r p'
end
section
variable {W:List Str} {σ:Nat} {t:ir} {w:List Str} {f b f' b':Nat}
theorem fq.weak(h:fq W σ t w f b)(hf:f<=f')(hb:b'<=b):fq W σ t w f' b':=fun p o s a n1 n2 ho hs=>bH (h p o s a n1 n2 (by omega) hs) hf
theorem mD.weak(h:mD W σ t w f b)(hf:f<=f')(hb:b'<=b):mD W σ t w f' b':=fun p o s k r p' a n1 n2 ho hs hk=>h p o s k r p' a n1 n2 (by omega) hs (by omega)
theorem pV.weak(h:pV W σ t w f b)(hf:f<=f')(hb:b'<=b):pV W σ t w f' b':=fun p o s k r p' a n1 n2 n3 ho hs hk=>h p o s k r p' a n1 n2 n3 (by omega) hs (by omega)
theorem fq.prod(hd:dp t<=60)(h:fq W σ t w f b):mD W σ t w f b:=fun p o s k r p' a n1 n2 ho hs hk hR=>by
  have:=lR t
  refine bH (n:=k+1) ?_ (by omega)
  exact⟨some t,_,bH (h p o s a n1 n2 ho hs) hk,.inr ⟨t,rfl,hd,hR⟩⟩
theorem mD.term(hd:dp t<=60)(hf:1<=f)(h:mD W σ t w f b):pV W σ t w f b:=fun p o s k r p' a n1 n2 n3 ho hs hk hR=>by
  have:=lR t
  refine bH (n:=k+1) ?_ (by omega)
  have h0:Rd W 1 (.pl t) o s (p+w.length) (some t) (p+w.length):=.inr ⟨n3,rfl,rfl⟩
  exact⟨some t,_,bH (h p o s f _ _ a n1 n2 ho hs (Nat.le_refl _) (bH h0 hf)) hk,.inr ⟨t,rfl,hd,hR⟩⟩
theorem brk(hd:dp t<=60)(h:pV W σ t w f 31):fq W σ t ("("::(w++[(")":Str)])) (f+2*dp t+1) 30:=fun p o s a n1 n2 ho hs=>by
  obtain⟨a1,a2⟩:=a
  obtain⟨a2,a3,_⟩:=a2.app
  have hl:p+(("(":Str)::(w++[(")":Str)])).length=p+1+w.length+1:=by rw[List.length_cons,List.length_append,List.length_singleton];omega
  rw[hl]
  have h0:Rd W 1 (.tl t) (o+1) s (p+1+w.length) (some t) (p+1+w.length):=.inr (.inr ⟨by rw[a3];decide,by rw[a3];decide,rfl,rfl⟩)
  have:=lR t
  refine .inr (.inl ⟨a1,.inr ⟨by omega,some t,p+1+w.length,?_,.inr ⟨t,rfl,a3,rfl,rfl⟩⟩⟩)
  refine bH (h (p+1) (o+1) s (f+dp t) _ _ a2 (by rw[a3];decide) (by rw[a3];decide) (by rw[a3];decide) (by omega) hs (Nat.le_refl _) (bH h0 (by omega))) (by omega)
end
structure Reads(W:List Str)(σ:Nat)(t:ir):Prop where
  p3:∀ ws,Row t 3 ws->fq W σ t ws (Af (dp t)) 30
  p2:∀ ws,Row t 2 ws->mD W σ t ws (Af (dp t)) 30
  p1:∀ ws,Row t 1 ws->pV W σ t ws (Af (dp t)) 30
theorem mV{W:List Str}{σ:Nat}{t:ir}(hd:dp t<=60)(h:∀ ws,(Row t 3 ws->fq W σ t ws (Af (dp t)) 30)/\(Row t 2 ws->fq W σ t ws (Af (dp t)) 30\/mD W σ t ws (Af (dp t)) 30)/\(Row t 1 ws->fq W σ t ws (Af (dp t)) 30\/mD W σ t ws (Af (dp t)) 30\/pV W σ t ws (Af (dp t)) 30)):Reads W σ t:=by
  have hf:1<=Af (dp t):=by
    have:=lR t
    obtain⟨d,e⟩:∃ d,dp t=d+1:=⟨dp t-1,by omega⟩
    rw[e];show 1<=Af d+4*(d+1)+1;omega
  refine⟨fun ws r=>(h ws).1 r,fun ws r=>((h ws).2.1 r).elim (·.prod hd) id,fun ws r=>?_⟩
  rcases (h ws).2.2 r with a | a | a
  · exact (a.prod hd).term hd hf
  · exact a.term hd hf
  · exact a
theorem qQ{W:List Str}{σ:Nat}{t:ir}{k:Nat}{w:List Str}{d:Nat}(hd:dp t<=60)(e:dp t=d+1)(hw:fq W σ t w (Af d+2*(d+1)) 31){l:Nat}{ws:List Str}(h:Br k l w ws):fq W σ t ws (Af (dp t)) 30:=by
  rcases h with rfl | ⟨_,rfl⟩
  · refine (brk hd ((hw.prod hd).term hd (by omega))).weak ?_ (Nat.le_refl _)
    rw[e];show _<=Af d+4*(d+1)+1;omega
  · refine hw.weak ?_ (by decide)
    rw[e];show _<=Af d+4*(d+1)+1;omega
theorem sU{W:List Str}:∀ {ks:List Str} {p:Nat},ks≠[]->(∀ k∈ks,Nm k)->ks.length<=2->At W p (d6 ks)->sn W p="("/\qO W (p+1) ks/\sn W (p+1+2*ks.length-1)=")"/\(d6 ks).length=1+2*ks.length
  | [],_,h,_,_,_=>absurd rfl h
  | [k],p,_,hk,_,⟨h1,h2,h3,_⟩=>⟨h1,⟨h2,hk k List.mem_cons_self,by rw[h3];decide⟩,h3,rfl⟩
  | [k,k2],p,_,hk,_,⟨h1,h2,h3,h4,h5,_⟩=>⟨h1,⟨h2,hk k List.mem_cons_self,h3,⟨h4,hk k2 (List.mem_cons_of_mem _ List.mem_cons_self),by rw[show p+1+2+1=p+1+1+1+1 from rfl,h5];decide⟩⟩,h5,rfl⟩
  | _::_::_::_,_,_,_,h,_=>by simp at h
theorem M4{W:List Str}{σ:Nat}{n:Str}{ks:List Str}(hn:Nw n)(hl:ks.length<=2)(hk:∀ k∈ks,Nw k):fq W σ (.ent n ks) (n::d6 ks) 2 31:=fun p o s a n1 n2 ho hs=>by
  obtain⟨a1,a2⟩:=a
  have ho:o+2*1<=31:=ho
  refine .inr (.inr (.inr ⟨⟨by rw[a1];exact hn.ne (by decide +kernel),by rw[a1];exact hn.ne (by decide +kernel),by rw[a1];exact hn.nsum⟩,.inr ⟨by rw[a1];exact hn.nd,⟨by rw[a1];exact hn.nm,?_⟩⟩⟩))
  by_cases z:ks=[]
  · subst z
    exact .inl ⟨n1,by rw[a1],rfl⟩
  · obtain⟨h1,h2,h3,h4⟩:=sU z (fun k h=>(hk k h).nm) hl a2
    refine .inr ⟨h1,.inr ⟨by omega,ks,h2,hl,h3,by rw[a1],?_⟩⟩
    rw[List.length_cons,h4];omega
theorem Lo{W:List Str}{σ:Nat}{a:Fq}(h:Nf a){w:List Str}(hw:mE a w):fq W σ (.num a) w 1 31:=fun p o s hA n1 n2 ho hs=>by
  have r:=Ov h hw hA n2
  have hd:Txt.isdigit (sn W p)=true:=r.choose_spec.1.1
  have ne:∀ {y:Str},Txt.isdigit y=false->sn W p≠y:=fun hy e=>by rw[e,hy] at hd;cases hd
  exact .inr (.inr (.inr ⟨⟨ne (by decide +kernel),ne (by decide +kernel),ne (by decide +kernel)⟩,.inl ⟨hd,a,r,rfl⟩⟩))
theorem reads{W:List Str}:∀ (t:ir) (σ:Nat),TK σ t->dp t<=60->Reads W σ t
  | .num a,σ,h,hd=>mV hd fun ws=>by
    have key:∀ l,Row (.num a) l ws->fq W σ (.num a) ws (Af (dp (.num a))) 30:=fun l ⟨w,hw,hb⟩=>qQ (d:=0) hd rfl ((Lo h hw).weak (by decide) (by decide)) hb
    exact⟨key 3,fun r=>.inl (key 2 r),fun r=>.inl (key 1 r)⟩
  | .ent n ks,σ,h,hd=>mV hd fun ws=>by
    have key:∀ l,Row (.ent n ks) l ws->fq W σ (.ent n ks) ws (Af (dp (.ent n ks))) 30:=fun l hb=>qQ (d:=0) hd rfl ((M4 h.1 h.2.1 h.2.2).weak (by decide) (by decide)) hb
    exact⟨key 3,fun r=>.inl (key 2 r),fun r=>.inl (key 1 r)⟩
  | .neg t,σ,h,hd=>mV hd fun ws=>by
    have e:dp (.neg t)=dp t+1:=Nat.add_comm ..
    have ih:=reads (W:=W) t σ (by cases σ <;> exact h) (by omega)
    have key:∀ l,Row (.neg t) l ws->fq W σ (.neg t) ws (Af (dp (.neg t))) 30:=fun l ⟨w,hw,hb⟩=>qQ (d:=dp t) hd e (fun p o s a n1 n2 ho hs=>by
      obtain⟨a1,a2⟩:=a
      have hl:p+(("-":Str)::w).length=p+1+w.length:=by rw[List.length_cons];omega
      rw[hl] at n1 n2 ⊢
      refine bH (n:=Af (dp t)+1) ?_ (by omega)
      exact .inl ⟨a1,.inr ⟨by omega,some t,_,ih.p3 w hw (p+1) (o+1) s a2 n1 n2 (by omega) hs,.inr ⟨t,rfl,hd,rfl,rfl⟩⟩⟩) hb
    exact⟨key 3,fun r=>.inl (key 2 r),fun r=>.inl (key 1 r)⟩
  | .sum b g t,0,h,hd=>h.elim
  | .sum b g t,σ+1,h,hd=>mV hd fun ws=>by
    have e:dp (.sum b g t)=dp t+1:=Nat.add_comm ..
    have ih:=reads (W:=W) t σ h.2.2 (by omega)
    have key:∀ l,Row (.sum b g t) l ws->fq W (σ+1) (.sum b g t) ws (Af (dp (.sum b g t))) 30:=fun l ⟨w,hw,hb⟩=>qQ (d:=dp t) hd e (fun p o s a n1 n2 ho hs=>by
      obtain⟨a1,a2,a3,a4,a5,a6,a7⟩:=a
      obtain⟨a7,a8,_⟩:=a7.app
      have hl:p+(("sum":Str)::"("::b::"in"::g::","::(w++[(")":Str)])).length=p+6+w.length+1:=by simp only [List.length_cons,List.length_append,List.length_nil];omega
      rw[hl]
      have h0:Rd W 1 (.tl t) (o+1) (s+1) (p+6+w.length) (some t) (p+6+w.length):=.inr (.inr ⟨by rw[a8];decide,by rw[a8];decide,rfl,rfl⟩)
      have hp:=lR t
      have h1:=ih.p1 w hw (p+6) (o+1) (s+1) (Af (dp t)+dp t) _ _ a7 (by rw[a8];decide) (by rw[a8];decide) (by rw[a8];decide) (by omega) (by omega) (Nat.le_refl _) (bH h0 (by omega))
      refine bH (n:=Af (dp t)+dp t+dp t+1+1) ?_ (by omega)
      have a3:sn W (p+1+1)=b:=a3
      have a5:sn W (p+1+3)=g:=a5
      refine .inr (.inr (.inl ⟨a1,.inr ⟨by omega,a2,by rw[a3];exact h.1.nm,a4,by rw[a5];exact h.2.1.nm,a6,.inr ⟨by omega,some t,p+6+w.length,?_,.inr ⟨t,rfl,a8,by rw[a3,a5];exact hd,by rw[a3,a5],rfl⟩⟩⟩⟩))
      exact h1) hb
    exact⟨key 3,fun r=>.inl (key 2 r),fun r=>.inl (key 1 r)⟩
  | .bin c x y,σ,h,hd=>by
    have h:TK σ x/\TK σ y:=by cases σ <;> exact h
    have e:dp (.bin c x y)=max (dp x) (dp y)+1:=Nat.add_comm ..
    have ix:=reads (W:=W) x σ h.1 (by omega)
    have iy:=reads (W:=W) y σ h.2 (by omega)
    have fx:Af (dp x)<=Af (max (dp x) (dp y)):=Mt (Nat.le_max_left ..)
    have fy:Af (dp y)<=Af (max (dp x) (dp y)):=Mt (Nat.le_max_right ..)
    have hx:=lR x
    have hy:=lR y
    have AE:Af (dp (.bin c x y))=Af (max (dp x) (dp y))+4*(max (dp x) (dp y)+1)+1:=by rw[e];rfl
    by_cases hc:c=2
    · subst hc
      have core:∀ u v,Row x 2 u->Row y 3 v->mD W σ (.bin 2 x y) (u++markB 2::v) (Af (max (dp x) (dp y))+2*(max (dp x) (dp y)+1)) 31:=fun u v hu hv p o s k r p' a n1 n2 ho hs hk hR=>by
        obtain⟨a1,a2,a3⟩:=a.app
        have hl:p+(u++markB 2::v).length=p+u.length+1+v.length:=by rw[List.length_append,List.length_cons];omega
        rw[hl] at n1 n2 hR
        have hq:=iy.p3 v hv (p+u.length+1) o s a3 n1 n2 (by omega) hs
        have h1:Rd W (k+1) (.pl x) o s (p+u.length) r p':=.inl ⟨a2,some y,_,bH hq (by omega),.inr ⟨y,rfl,by omega,.inr ⟨hd,hR⟩⟩⟩
        exact bH (ix.p2 u hu p o s (k+1) r p' a1 (by rw[a2];decide) (by rw[a2];decide) (by omega) hs (by omega) h1) (by omega)
      have part:∀ u v,Row x 2 u->Row y 3 v->fq W σ (.bin 2 x y) ("("::((u++markB 2::v)++[(")":Str)])) (Af (dp (.bin 2 x y))) 30:=fun u v hu hv=>(brk hd ((core u v hu hv).term hd (by omega))).weak (by rw[AE,e];omega) (Nat.le_refl _)
      refine mV hd fun ws=>⟨fun⟨u,v,hu,hv,hb⟩=>?_,fun⟨u,v,hu,hv,hb⟩=>?_,fun⟨u,v,hu,hv,hb⟩=>?_⟩
      · rcases hb with rfl | ⟨z,_⟩
        · exact part u v hu hv
        · exact absurd z (by decide)
      · rcases hb with rfl | ⟨_,rfl⟩
        · exact .inl (part u v hu hv)
        · exact .inr ((core u v hu hv).weak (by rw[AE];omega) (by decide))
      · rcases hb with rfl | ⟨_,rfl⟩
        · exact .inl (part u v hu hv)
        · exact .inr (.inl ((core u v hu hv).weak (by rw[AE];omega) (by decide)))
    · have el:J3 c=1:=by
        match c,hc with
        | 0,_=>rfl
        | 1,_=>rfl
        | 2,z=>exact absurd rfl z
      have core:∀ u v,Row x 1 u->Row y 2 v->pV W σ (.bin c x y) (u++markB c::v) (Af (max (dp x) (dp y))+2*(max (dp x) (dp y)+1)) 31:=fun u v hu hv p o s k r p' a n1 n2 n3 ho hs hk hR=>by
        obtain⟨a1,a2,a3⟩:=a.app
        have hl:p+(u++markB c::v).length=p+u.length+1+v.length:=by rw[List.length_append,List.length_cons];omega
        rw[hl] at n1 n2 n3 hR
        have h0:Rd W 1 (.pl y) o s (p+u.length+1+v.length) (some y) (p+u.length+1+v.length):=.inr ⟨n3,rfl,rfl⟩
        have hq:=iy.p2 v hv (p+u.length+1) o s (Af (dp y)+1) _ _ a3 n1 n2 (by omega) hs (by omega) (bH h0 (by omega))
        have mk:(markB c="+"\/markB c="-")/\markB c≠"("/\markB c≠"/"/\markB c≠"*":=by
          match c,hc with
          | 0,_=>exact⟨.inl rfl,by decide,by decide,by decide⟩
          | 1,_=>exact⟨.inr rfl,by decide,by decide,by decide⟩
          | 2,z=>exact absurd rfl z
        have h1:Rd W (k+1) (.tl x) o s (p+u.length) r p':=by
          match c,hc,a2,hR,hd with
          | 0,_,a2,hR,hd=>exact .inl ⟨a2,some y,_,bH hq (by omega),.inr ⟨y,rfl,by omega,.inr ⟨hd,hR⟩⟩⟩
          | 1,_,a2,hR,hd=>exact .inr (.inl ⟨a2,some y,_,bH hq (by omega),.inr ⟨y,rfl,by omega,.inr ⟨hd,hR⟩⟩⟩)
          | 2,z,_,_,_=>exact absurd rfl z
        exact bH (ix.p1 u hu p o s (k+1) r p' a1 (by rw[a2];exact mk.2.1) (by rw[a2];exact mk.2.2.1) (by rw[a2];exact mk.2.2.2) (by omega) hs (by omega) h1) (by omega)
      have part:∀ u v,Row x 1 u->Row y 2 v->fq W σ (.bin c x y) ("("::((u++markB c::v)++[(")":Str)])) (Af (dp (.bin c x y))) 30:=fun u v hu hv=>(brk hd (core u v hu hv)).weak (by rw[AE,e];omega) (Nat.le_refl _)
      refine mV hd fun ws=>⟨fun⟨u,v,hu,hv,hb⟩=>?_,fun⟨u,v,hu,hv,hb⟩=>?_,fun⟨u,v,hu,hv,hb⟩=>?_⟩ <;> rw[el] at hu hv hb
      · rcases hb with rfl | ⟨z,_⟩
        · exact part u v hu hv
        · exact absurd z (by decide)
      · rcases hb with rfl | ⟨z,_⟩
        · exact .inl (part u v hu hv)
        · exact absurd z (by decide)
      · rcases hb with rfl | ⟨_,rfl⟩
        · exact .inl (part u v hu hv)
        · exact .inr (.inr ((core u v hu hv).weak (by rw[AE];omega) (by decide)))
end Pw
namespace Pw
open PySem L2
seal PE PT PW PA PS ju PG sg PI rA PO PJ
section
variable {P:Program} {w:World} {K:PySem.W.Frag} {mg:Str->Option Value} {base:Heap} {f:Addr} {fd:FuncData}
theorem Kt(g:Str):∀ (ys:List Str),(Txt.join g ys).length<=(ys.map (·.length)).sum+ys.length*g.length:=by
  intro ys
  show ((ys.drop 1).foldl (fun acc p=>acc++g.cps++p.cps) (ys.headD Str.empty).cps).size<=_
  have key:∀ (l:List Str) (acc:Array Nat),(l.foldl (fun acc p=>acc++g.cps++p.cps) acc).size=acc.size+(l.map (·.length)).sum+l.length*g.length:=by
    intro l
    induction l with
    | nil=>intro acc;simp
    | cons y l ih=>
      intro acc
      rw[List.foldl_cons,ih,List.map_cons,List.sum_cons,List.length_cons,Nat.succ_mul]
      have:(acc++g.cps++y.cps).size=acc.size+g.length+y.length:=by simp;exact (Nat.add_assoc _ _ _).symm
      omega
  rw[key]
  cases ys with
  | nil=>simp;rfl
  | cons y ys=>
    rw[List.drop_one,List.tail_cons,List.headD_cons,List.map_cons,List.sum_cons,List.length_cons,Nat.succ_mul]
    show y.length+_+_<=_
    omega
def Fs(x:Str):Prop:=∀ c∈x.cps.toList,97<=c/\c<=122
theorem Li{ys:List Str}(h:∀ y∈ys,Fs y):Fs (Txt.join "" ys):=fun c hc=>by
  have e:Txt.join "" ys=Str.join "" ys:=StrLaws.glued_eq_join "" ys
  rw[e] at hc
  rcases (PyProof.Rows.mem_join "" c ys).mp hc with ⟨y,hy,hc⟩ | ⟨_,hc⟩
  · exact h y hy c hc
  · exact absurd hc (by rw[show (("":Str)).cps.toList=[] from rfl];exact List.not_mem_nil)
theorem BI{x:Str}{l u:Option Int}(h:Fs x):Fs (Txt.slice x l u):=fun c hc=>by
  unfold Txt.slice at hc
  split at hc
  · exact h c hc
  · rw[List.toList_toArray] at hc
    obtain⟨i,_,hi⟩:=List.mem_filterMap.mp hc
    exact h c (Array.mem_toList_iff.mpr (Array.mem_of_getElem? hi))
theorem CQ{x y:Str}(hx:Fs x)(hy:Fs y):Fs (x++y):=fun c hc=>by
  rw[app_list] at hc
  exact (List.mem_append.mp hc).elim (hx c) (hy c)
theorem WA{a k:Str}(h:k.cps.toList.getLast?≠some 120):k≠a++"x":=fun e=>h (by rw[e,app_list,show (("x":Str)).cps.toList=[120] by decide +kernel];simp)
theorem SS(a:Str):kept.any (·==a++"x")=false:=by
  rw[List.any_eq_false]
  intro k hk e
  have:∀ k∈kept,k.cps.toList.getLast?≠some 120:=by decide +kernel
  exact WA (this k hk) (eq_of_beq e)
theorem LO(a:Str):a++""=a:=by
  rw[Y6 a]
  show Str.mk (_++#[])=_
  simp [T]
def M6:Sv:=
  aE (f_ (eK T1 (ag 1) (rh yR [ag 0])) (gk (ck lj (ag 0) (ag 1))) (dc))
  (gk (vC (.int 0)))
theorem Mw{n:Int}(h:n.natAbs<2 ^ 62):Ax n:=by
  unfold Ax
  rcases Nat.eq_zero_or_pos n.natAbs with e | e
  · rw[e];decide
  · exact Nat.lt_of_lt_of_le ((Nat.log2_lt (Nat.ne_of_gt e)).mpr h) (by decide)
theorem IM{n:Int}(h:n.natAbs<Kj):n.natAbs.log2<9000:=by
  rcases Nat.eq_zero_or_pos n.natAbs with e | e
  · rw[e];decide
  · exact Nat.lt_of_lt_of_le ((Nat.log2_lt (Nat.ne_of_gt e)).mpr h) (by decide)
theorem LU{n:Nat}(h:n<Kj):n<BM:=tD (k:=8000) h (by decide)
theorem KO(x y:Int):x-x.fdiv y*y=x.fmod y:=by rw[Int.fmod_def,Int.mul_comm]
abbrev QA(ns:List Int):Prop:=∀ i∈ns,Ax i
def oR:Ct:=fun ts P=>∃ (ns:List Int) (i:Int),ts=[.scr (ns.map Tv.int),.int i]/\QA ns/\0<=i/\∀ c:Int,Ax c->P (.ok (.va (.int c)))
theorem O6:aA ["_law_script","_law_k"] ["_law_script","_law_k"] (ak vq):=⟨rfl,rfl,rfl,by decide +kernel,rfl,by decide +kernel,by decide +kernel⟩
theorem kN:Lk vq "_law_script" .local:=by decide +kernel
theorem qt:Lk vq "_law_k" .local:=by decide +kernel
theorem D7:Lk vq "len" .globalImplicit:=by decide +kernel
theorem LV:∀ ts Q,oR ts Q->ts.length=2:=fun ts Q ⟨_,_,e,_⟩=>by rw[e];rfl
theorem Ko:∀ ts Q,oR ts Q->fu 2 M6 ts Q:=by
  rintro _ Q ⟨ns,i,rfl,hf,h0,q⟩
  refine bF (fun c=>?_) fun c=>q 0 (Mw (by decide))
  refine oO h0 (of_decide_eq_true c) fun t ht=>?_
  obtain⟨n,hn,rfl⟩:=List.mem_map.mp ht
  exact q n (hf n hn)
theorem qw(A:dS K mg)(B:pP mg):aQ P w K mg base (iP P w) 1 A.GF A.HC ["_law_script","_law_k"] (sN K oR):=
  i7 A.ee.F O6 M6 LV Ko fun c9 A_ outer s H E hr=>have hu:=hr.units
  ah (cM (aZ Ml (v_var (i:=1) rfl (Or.inl qt)) (my (r9 rfl) D7 B.len lU (ai (v_var (i:=0) rfl (Or.inl kN)) ae)) (aL _)) (av (a_ (d9 (d_ rfl) (v_var (i:=0) rfl (Or.inl kN)) (v_var (i:=1) rfl (Or.inl qt)) (fun _ _=>rfl)))) (cg))
  (av (a_ (au)))
def Bo:Sv:=
  aE (bM 2 (ck fM (ck fM (ag 0) (ck sV (vC (.int 7919)) (ag 1))) (vC (.int 3))))
  (gk (ko (eN 2147483647) (ck sV (ko (eN 2147483647) (ck PC (ag 2) (ag 2))) (vC (.int 48271)))))
def cv:Ct:=fun ts P=>∃ c i:Int,ts=[.int c,.int i]/\Ax c/\(0<=i/\i<=1000)/\∀ m:Int,0<=m->m<2147483647->P (.ok (.va (.int m)))
theorem zF:aA ["_law_cell","_law_k","_law_number"] ["_law_cell","_law_k"] (ak lg):=⟨rfl,rfl,rfl,by decide +kernel,rfl,by decide +kernel,by decide +kernel⟩
theorem pJ:Lk lg "_law_cell" .local:=by decide +kernel
theorem uK:Lk lg "_law_k" .local:=by decide +kernel
theorem fZ:Lk lg "_law_number" .local:=by decide +kernel
theorem Ex:∀ ts Q,cv ts Q->ts.length=2:=fun ts Q ⟨_,_,e,_⟩=>by rw[e];rfl
theorem wG{m:Int}(h0:0<=m)(h1:m<2147483647):Ax m:=Mw (by omega)
theorem Cs:∀ ts Q,cv ts Q->fu 3 Bo ts Q:=by
  rintro _ Q ⟨c,i,rfl,hc,⟨h0,h1⟩,q⟩
  have hb:∃ z:Nat,z<=1048580/\(c+7919*i+3).natAbs<2 ^ z:=by
    rw[Int.add_assoc]
    exact Ng hc (by omega)
  refine⟨⟨j4 (by decide),j4 (by omega)⟩,?_⟩
  show (∃ z:Nat,z<=1048580/\(c+7919*i+3).natAbs<2 ^ z/\(c+7919*i+3).natAbs<2 ^ z)/\_
  generalize c+7919*i+3=n at hb ⊢
  have a1:=Int.emod_nonneg (n*n) (show (2147483647:Int)≠0 by decide)
  have a2:=Int.emod_lt_of_pos (n*n) (show (0:Int)<2147483647 by decide)
  refine⟨hb.elim fun z h=>⟨z,h.1,h.2,h.2⟩,⟨j4 (by omega),j4 (by decide)⟩,q _ (Int.emod_nonneg _ (by decide)) (Int.emod_lt_of_pos _ (by decide))⟩
theorem cG(A:dS K mg)(B:pP mg):aQ P w K mg base (iP P w) 1 A.vG A.vj ["_law_cell","_law_k"] (sN K cv):=
  i7 A.ay.F zF Bo Ex Cs fun c9 A_ outer s H E hr=>have hu:=hr.units
  ah (aD (i:=2) zF.nd rfl (Or.inl fZ) (bI (cn rfl) (bI (cn rfl) (v_var (i:=0) rfl (Or.inl pJ)) (bI mm (au) (v_var (i:=1) rfl (Or.inl uK)))) (au)))
  (av (a_ (cN (bI mm (cN (bI QQ (v_var (i:=2) rfl (Or.inl fZ)) (v_var (i:=2) rfl (Or.inl fZ)))) (au)))))
def uT:Sv:=
  aE (bM 0 (cY [vC (.str "set"),vC (.str "table"),vC (.str "unknown"),vC (.str "over"),vC (.str "whole"),vC (.str "from"),vC (.str "to"),vC (.str "row"),vC (.str "each"),vC (.str "in")]))
  (gk (ck fM (ag 0) (cY [vC (.str "sum"),vC (.str "least"),vC (.str "most")])))
def resT:List Str:=["set","table","unknown","over","whole","from","to","row","each","in","sum","least","most"]
def lb:Ct:=fun ts P=>ts=[]/\P (.ok (.va (.lst (resT.map Tv.str))))
theorem rQ:aA ["_law_some"] [] (ak kU):=⟨rfl,rfl,rfl,by decide +kernel,rfl,by decide +kernel,by decide +kernel⟩
theorem i0:Lk kU "_law_some" .local:=by decide +kernel
theorem zH:∀ ts Q,lb ts Q->ts.length=0:=fun ts Q ⟨e,_⟩=>by rw[e];rfl
theorem xN:∀ ts Q,lb ts Q->fu 1 uT ts Q:=by
  rintro _ Q ⟨rfl,q⟩
  exact⟨gp (by decide),q⟩
theorem Ap(A:dS K mg)(B:pP mg):aQ P w K mg base (iP P w) 1 A.nN A.oj [] (sN K lb):=
  i7 A.fP.F rQ uT zH xN fun c9 A_ outer s H E hr=>have hu:=hr.units
  ah (aD (i:=0) rQ.nd rfl (Or.inl i0) (bj (aa (aq) (aa (aq) (aa (aq) (aa (aq) (aa (aq) (aa (aq) (aa (aq) (aa (aq) (aa (aq) (aa (aq) ae))))))))))))
  (av (a_ (bI (cn rfl) (v_var (i:=0) rfl (Or.inl i0)) (bj (aa (aq) (aa (aq) (aa (aq) ae)))))))
def yH:Sv:=gk (fG [ck Bl (ag 2) (ag 3),ck Bl (ag 1) (ag 3)])
def xJ:Sv:=Ab (eK Wf (ag 4) (vC (.int 0))) (QL 3 4 (ag 4) (ck GA (ag 3) (ck sV (ck Bl (ag 3) (ag 4)) (ag 4))))
def zq:Sv:=aE xJ yH
def xA:Sv:=QL 3 4 (ag 2) (ag 1)
def pM:Sv:=aE xA zq
def xQ:Sv:=bM 2 (ck Je (ko (gU 6) (ag 0)) (ck lj (cY [vC (.int 10),vC (.int 1000),ck TB (vC (.int 10)) (vC (.int 9))]) (ko (eN 3) (ko (gU 4000) (ag 0)))))
def yy:Sv:=aE xQ pM
def xO:Sv:=bM 1 (ck lj (cY [vC (.int 1),vC (.int 1),vC (.int 2),vC (.int 3),vC (.int 12),vC (.int 999)]) (ko (eN 6) (ag 0)))
def uf:Sv:=
  aE xO yy
def k7:Ct:=fun ts P=>∃ c:Int,ts=[.int c]/\∀ a,Nf a->P (.ok (.va (Kk a)))
theorem iz:aA ["_law_cell","_law_bottom","_law_top","_law_one","_law_other"] ["_law_cell"] (ak eE):=⟨rfl,rfl,rfl,by decide +kernel,rfl,by decide +kernel,by decide +kernel⟩
theorem fA:Lk eE "_law_cell" .local:=by decide +kernel
theorem eh:Lk eE "_law_bottom" .local:=by decide +kernel
theorem fT:Lk eE "_law_top" .local:=by decide +kernel
theorem bW:Lk eE "_law_one" .local:=by decide +kernel
theorem bC:Lk eE "_law_other" .local:=by decide +kernel
theorem zm:∀ ts Q,k7 ts Q->ts.length=1:=fun ts Q ⟨_,e,_⟩=>by rw[e];rfl
theorem FF{l:List Int}{t:Tv}(h:t∈l.map Tv.int){p:Int->Prop}(hp:∀ i∈l,p i):∃ i,t=.int i/\p i:=by
  obtain⟨i,hi,e⟩:=List.mem_map.mp h
  exact⟨i,e.symm,hp i hi⟩
theorem xt:∀ ts Q,k7 ts Q->fu 5 uf ts Q:=by
  rintro _ Q ⟨c,rfl,q⟩
  refine oO (l:=[1,1,2,3,12,999].map Tv.int) (by omega) (by show c % 6<6;omega) fun t ht=>?_
  obtain⟨b,rfl,b0,b1⟩:=FF ht (p:=fun i=>0<i/\i<=999) (by decide)
  refine⟨⟨by decide,by decide,by decide⟩,oO (l:=[10,1000,10 ^ (9:Int).toNat].map Tv.int) (by omega) (by show c / 4000 % 3<3;omega) fun t ht=>?_⟩
  obtain⟨j,rfl,j0,j1⟩:=FF ht (p:=fun i=>0<i/\i<=1000000000) (by decide)
  refine⟨j0,?_⟩
  have t0:=Int.emod_nonneg (c / 6) (show j≠0 by omega)
  have t1:=Int.emod_lt_of_pos (c / 6) j0
  show pM [.va (.int c),.va (.int b),.va (.int (c / 6 % j)),.un,.un] _
  generalize c / 6 % j=top at t0 t1 ⊢
  have bt:top.natAbs<Kj:=yC (k:=40) (by omega) (by decide)
  have bb:b.natAbs<Kj:=yC (k:=40) (by omega) (by decide)
  refine⟨fun n ρ=>∃ x y:Int,ρ=[.va (.int c),.va (.int b),.va (.int top),.va (.int x),.va (.int y)]/\0<=x/\0<=y/\x.natAbs<Kj/\y.natAbs<Kj/\gd x y=gd top b/\n=y.toNat,⟨_,top,b,rfl,t0,by omega,bt,bb,rfl,rfl⟩,?_⟩
  rintro n ρ ⟨x,y,rfl,hx,hy,bx,by',e,rfl⟩
  refine xU (fun c=>?_) fun c=>?_
  · have QG:0<y:=of_decide_eq_true c
    have h1:=Int.fmod_nonneg_of_pos x QG
    have h2:=Int.fmod_lt_of_pos x QG
    have hq:(x.fdiv y).natAbs<BM:=by
      rw[Int.fdiv_eq_ediv_of_nonneg _ hy]
      exact Nat.lt_of_le_of_lt (Int.natAbs_ediv_le_natAbs x y) (LU bx)
    refine⟨⟨by omega,IM by'⟩,⟨hq,LU by'⟩,(x.fmod y).toNat,by omega,y,x.fmod y,?_,hy,h1,by',by omega,?_,rfl⟩
    · rw[← KO];rfl
    · rw[HS hx QG,e]
  · have QG:y=0:=by have:=of_decide_eq_false c;omega
    subst QG
    rw[IF hx] at e
    subst e
    have hp:=oP (a:=top) b0
    have hl:=GJ (t:=top) b0 bb
    have q:=q (JT top b) ⟨HQ (by omega),by
      have c:=Eo (t:=top) (b:=b) (by omega)
      have r:=(HQ (t:=top) (b:=b) (by omega)).1
      have:0<=(JT top b).1*b:=by rw[c];exact Int.mul_nonneg t0 (by omega)
      exact Int.nonneg_of_mul_nonneg_left this b0,by
      have:(JT top b).1.natAbs<=top.natAbs:=S7 (by omega)
      omega,by
      have:(JT top b).2.natAbs<=b.natAbs:=Qu (by omega)
      omega⟩
    rw[← To b0] at q
    exact⟨⟨by omega,hl⟩,⟨by omega,hl⟩,q⟩
theorem AU(A:dS K mg)(B:pP mg):aQ P w K mg base (iP P w) 1 A.oG A.nS ["_law_cell"] (sN K k7):=
  i7 A.gf.F iz uf zm xt fun c9 A_ outer s H E hr=>have hu:=hr.units
  ah (aD (i:=1) iz.nd rfl (Or.inl eh) (d9 (d_ rfl) (bj (aa (au) (aa (au) (aa (au) (aa (au) (aa (au) (aa (au) ae))))))) (cN (v_var (i:=0) rfl (Or.inl fA))) (fun _ _=>rfl)))
  (ah (aD (i:=2) iz.nd rfl (Or.inl fT) (bI Gx (ef (v_var (i:=0) rfl (Or.inl fA))) (d9 (d_ rfl) (bj (aa (au) (aa (au) (bQ (bI Ph (au) (au)) ae)))) (cN (ef (v_var (i:=0) rfl (Or.inl fA)))) (fun _ _=>rfl))))
  (ah (Mi (i:=3) (j:=4) rfl iz.nd rfl rfl (by decide) bW bC (ai (v_var (i:=2) rfl (Or.inl fT)) (ai (v_var (i:=1) rfl (Or.inl eh)) ae)) rfl)
  (ah (uq jj (aZ Nd (v_var (i:=4) rfl (Or.inl bC)) (au) (aL _)) (av (Mi (i:=3) (j:=4) rfl iz.nd rfl rfl (by decide) bW bC (ai (v_var (i:=4) rfl (Or.inl bC)) (bQ (bI Bm (v_var (i:=3) rfl (Or.inl bW)) (bI mm (bI yo (v_var (i:=3) rfl (Or.inl bW)) (v_var (i:=4) rfl (Or.inl bC))) (v_var (i:=4) rfl (Or.inl bC)))) ae)) rfl)))
  (av (a_ (cy (bQ (bI yo (v_var (i:=2) rfl (Or.inl fT)) (v_var (i:=3) rfl (Or.inl bW))) (bQ (bI yo (v_var (i:=1) rfl (Or.inl eh)) (v_var (i:=3) rfl (Or.inl bW))) ae))))))))
def wW:Sv:=Ke 4 (ck fM (ck lj (cY [vC (.str "any"),ag 6]) (rh Ge [ck MK (ag 6) (bB lb [])])) (ck lj (cY [vC (.str ""),vC (.str "x")]) (rh Ge [LW (WG 4 (ag 6)) (ck T1 (rh yR [ag 6]) (vC (.int 8)))])))
def Cg:Sv:=bM 6 (ck fM (ag 6) (Pb (ag 2) (ag 3)))
def Et:Sv:=aE Cg wW
def BX:Sv:=bM 6 (ck fM (Le (ag 2) (ag 3)) (ck lj (ag 1) (ko (eN 26) (ck fM (ko (gU 1872) (ag 0)) (ck sV (vC (.int 3)) (ag 5))))))
def DT:Sv:=aE BX Et
def HH:Sv:=Gr 4 (gk (ag 4))
def FH:Sv:=FT (EO (vC (.int 6))) (gV 5) (DT)
def Gu:Sv:=aE FH HH
def D9:Sv:=EA 4 []
def yu:Sv:=aE D9 Gu
def F1:Sv:=bM 3 (ck Je (ko (gU 208) (ag 0)) (ck fM (rh yR [ag 2]) (vC (.int 1))))
def y4:Sv:=aE F1 yu
def E_:Sv:=bM 2 (Vi wJn (vC (.str "")) [BC 1 [1,0] (EO (ko (eN 8) (ko (gU 26) (ag 0)))) (gV 0) (OU) (ck lj (ag 1) (ko (eN 26) (ck fM (ag 2) (ck sV (vC (.int 7)) (ag 0)))))])
def yG:Sv:=aE E_ y4
def Ec:Sv:=bM 1 (vC (.str "abcdefghijklmnopqrstuvwxyz"))
def Ei:Sv:=
  aE Ec yG
abbrev yM(ns:List Str):Prop:=ns.length=6/\∀ x∈ns,Nw x
def t4:Ct:=fun ts P=>∃ c:Int,ts=[.int c]/\∀ ns,yM ns->P (.ok (.va (.lst (ns.map Tv.str))))
theorem i5:aA ["_law_cell","_law_letters","_law_alike","_law_at_here","_law_found","_law_k","_law_name"] ["_law_cell"] (ak dX):=⟨rfl,rfl,rfl,by decide +kernel,rfl,by decide +kernel,by decide +kernel⟩
theorem iq:Lk dX "_law_cell" .cell:=by decide +kernel
theorem jf:Lk dX "_law_letters" .cell:=by decide +kernel
theorem eQ:Lk dX "_law_alike" .local:=by decide +kernel
theorem gc:Lk dX "_law_at_here" .local:=by decide +kernel
theorem eJ:Lk dX "_law_found" .local:=by decide +kernel
theorem nB:Lk dX "_law_k" .local:=by decide +kernel
theorem bY:Lk dX "_law_name" .local:=by decide +kernel
theorem nA:Lk dX "_law_reserved" .globalImplicit:=by decide +kernel
theorem r4:Lk dX "int" .globalImplicit:=by decide +kernel
theorem sd:Lk dX "len" .globalImplicit:=by decide +kernel
theorem oZ:Lk dX "range" .globalImplicit:=by decide +kernel
theorem Hk:∀ ts Q,t4 ts Q->ts.length=1:=fun ts Q ⟨_,e,_⟩=>by rw[e];rfl
theorem H0{i:Int}{z:Str}{k:Nat->Prop}(hz:z.length=26)(h0:0<=i)(h1:i<26)(hl:Fs z)(h:∀ n,97<=n/\n<=122->k n):z.length<=sizeLine/\mF (vg z.cps.toList i) k:=by
  refine⟨gp (by omega),?_⟩
  have W9:z.cps.toList.length=26:=by rw[Array.length_toList];exact hz
  obtain⟨t,e,e2⟩:=LP (l:=z.cps.toList) h0 (by rw[W9];exact h1)
  exact i_ e (h _ (hl t (List.mem_of_getElem? e2)))
theorem zd{α β:Type}{G:α->β->Prop}{xs:List α}{ys:List β}(h:Paired G xs ys):∀ y∈ys,∃ x,G x y:=by
  induction h with
  | nil=>intro y hy;cases hy
  | cons g _ ih=>
    intro y hy
    rcases List.mem_cons.mp hy with e | e
    · subst e;exact⟨_,g⟩
    · exact ih y e
theorem Jd:∀ {l:List Str},(∀ y∈l,y.length=1)->(l.map (·.length)).sum=l.length
  | [],_=>rfl
  | y::l,h=>by
    have h1:=h y List.mem_cons_self
    have h2:=Jd (l:=l) fun x hx=>h x (List.mem_cons_of_mem _ hx)
    rw[List.map_cons,List.sum_cons,List.length_cons,h1,h2];omega
theorem HP{a b:Tv}{c:Bool}{k:Tv->Prop}(h1:c=false->k a)(h2:c=true->k b):mF (vg [a,b] (Ku c)) k:=by
  cases c
  · exact i_ (t:=a) rfl (h1 rfl)
  · exact i_ (t:=b) rfl (h2 rfl)
theorem DZ:∀ ts Q,t4 ts Q->fu 7 Ei ts Q:=by
  rintro _ Q ⟨c,rfl,q⟩
  have key:∀ z:Str,z.length=26->Fs z->yG [.va (.int c),.va (.str z),.un,.un,.un,.un,.un] (bg Q):=by
    intro z hz zl
    refine⟨⟨by show _<=c / 26 % 8;omega,by show c / 26 % 8<_;omega⟩,d3 (by rw[nT];show (c / 26 % 8).toNat<=_;omega),BG Tv.str (fun _ y=>y.length=1/\Fs y) (fun x hx Ky Kn hk=>?_) fun ys hp=>?_⟩
    · obtain⟨k,hk',rfl⟩:=IG hx
      have SL:k<(c / 26 % 8).toNat:=hk'
      refine⟨_,rfl,rfl,⟨j4 (by decide),j4 (by omega)⟩,?_⟩
      exact H0 (i:=(c+7*(k:Int)) % 26) hz (Int.emod_nonneg _ (by decide)) (Int.emod_lt_of_pos _ (by decide)) zl fun y hy=>⟨rfl,hk ⟨#[y]⟩ ⟨rfl,fun c hc=>by rw[List.mem_singleton.mp hc];exact hy⟩⟩
    · have h1:∀ y∈ys,y.length=1:=by
        intro y hy
        obtain⟨x,g⟩:=zd hp y hy
        exact g.1
      have h9:Fs (Txt.join "" ys):=Li fun y hy=>(zd hp y hy).choose_spec.2
      have hn:ys.length=(c / 26 % 8).toNat:=by rw[← hp.length,nT]
      have hs:=Jd h1
      have e0:(("":Str)).length=0:=rfl
      have ha:=Kt "" ys
      rw[hs,e0] at ha
      refine⟨ys,rfl,by rw[hs,e0];omega,?_⟩
      have hb:(Txt.join "" ys).length<=8:=by omega
      show y4 [.va (.int c),.va (.str z),.va (.str (Txt.join "" ys)),.un,.un,.un,.un] (bg Q)
      generalize Txt.join "" ys=al at hb h9
      refine⟨gp (by omega),by show (0:Int)<al.length+1;omega,?_⟩
      show yu [.va (.int c),.va (.str z),.va (.str al),.va (.int (c / 208 % (al.length+1))),.un,.un,.un] (bg Q)
      generalize c / 208 % ((al.length:Int)+1)=yi
      intro D
      refine⟨⟨by decide,by decide⟩,qK (fun i ρ=>∃ (fs:List Str) (s1 s2:Sl),ρ=[.va (.int c),.va (.str z),.va (.str al),.va (.int yi),.ow D (fs.map Tv.str),s1,s2]/\fs.length=i/\∀ x∈fs,Nw x) ⟨[],_,_,rfl,rfl,fun _ h=>by cases h⟩ (fun i x ρ hx ⟨fs,s1,s2,e,hl,hf⟩ Kn hk=>?_) fun ρ ⟨fs,s1,s2,e,hl,hf⟩=>?_⟩
      · subst e
        obtain⟨hi,rfl⟩:=Ce hx
        have hi6:i<6:=hi
        have l1:=Txt.slice_le al none (some yi)
        have l2:=Txt.slice_le al (some yi) none
        refine⟨_,rfl,gp (by omega),⟨j4 (by decide),j4 (by omega)⟩,?_⟩
        refine H0 (i:=(c / 1872+3*(i:Int)) % 26) hz (Int.emod_nonneg _ (by decide)) (Int.emod_lt_of_pos _ (by decide)) zl fun y0 QG=>?_
        have hy:(⟨#[y0]⟩:Str).length=1:=rfl
        have hy9:Fs (⟨#[y0]⟩:Str):=fun c hc=>by rw[List.mem_singleton.mp hc];exact QG
        generalize (⟨#[y0]⟩:Str)=y at hy hy9 ⊢
        refine⟨gp (by omega),gp (by omega),gp (by rw[qM];omega),?_⟩
        have hn:(Txt.slice al none (some yi)++y++Txt.slice al (some yi) none).length<=17:=by rw[qM,qM];omega
        show wW [.va (.int c),.va (.str z),.va (.str al),.va (.int yi),.ow D (fs.map Tv.str),.va (.int (i:Int)),.va (.str (Txt.slice al none (some yi)++y++Txt.slice al (some yi) none))] _
        have hn9:Fs (Txt.slice al none (some yi)++y++Txt.slice al (some yi) none):=CQ (CQ (BI h9) hy9) (BI h9)
        have hn8:0<(Txt.slice al none (some yi)++y++Txt.slice al (some yi) none).length:=by rw[qM,qM];omega
        generalize Txt.slice al none (some yi)++y++Txt.slice al (some yi) none=nm at hn hn9 hn8
        have fin:∀ a b:Str,a.length<=17->0<a.length->Fs a->kept.any (·==a)=false->b=""\/b="x"->a.length+b.length<=sizeLine/\(fs.map Tv.str).length<sizeLine/\Kn [.va (.int c),.va (.str z),.va (.str al),.va (.int yi),.ow D (fs.map Tv.str++[.str (a++b)]),.va (.int (i:Int)),.va (.str nm)]:=fun a b h1 h0 ha hk0 hb=>by
          have hbl:b.length<=1:=by rcases hb with rfl | rfl <;> decide
          have hbL:Fs b:=by rcases hb with rfl | rfl <;> (intro c hc;revert c;decide)
          refine⟨gp (by omega),d3 (by rw[List.length_map];omega),hk _ ⟨fs++[a++b],_,_,by rw[List.map_append];rfl,by rw[List.length_append,hl];rfl,fun x hx=>?_⟩⟩
          rcases List.mem_append.mp hx with h | h
          · exact hf x h
          · rw[List.mem_singleton.mp h]
            refine⟨⟨?_,CQ ha hbL⟩,?_,by rw[qM];omega⟩
            · rw[app_list]
              intro e
              have:=(List.append_eq_nil_iff.mp e).1
              have h2:a.cps.toList.length=a.length:=Array.length_toList
              rw[this] at h2
              simp at h2
              omega
            · rcases hb with rfl | rfl
              · rw[LO];exact hk0
              · exact SS a
        have VL:∀ a:Str,a.length<=17->0<a.length->Fs a->kept.any (·==a)=false->_:=fun a h1 h0 ha hk0=>And.intro (fin a "" h1 h0 ha hk0 (.inl rfl)) (fin a "x" h1 h0 ha hk0 (.inr rfl))
        have Ye:Fs (Str.ofString "any"):=by intro c hc;revert c;decide
        refine⟨rfl,resT,rfl,HP (fun _=>?_) fun hn7=>?_⟩
        · have G:=VL "any" (by decide) (by decide) Ye (by decide +kernel)
          refine⟨fs,rfl,?_⟩
          cases fs.any (·==nm)
          · exact G.1
          · exact⟨gp (by omega),HP (fun _=>G.1) fun _=>G.2⟩
        · have G:=VL nm hn hn8 hn9 (by
            have h6:(!resT.any (·==nm))=true:=hn7
            rw[Bool.not_eq_true'] at h6
            exact h6)
          refine⟨fs,rfl,?_⟩
          cases fs.any (·==nm)
          · exact G.1
          · exact⟨gp (by omega),HP (fun _=>G.1) fun _=>G.2⟩
      · subst e
        exact q fs ⟨hl,hf⟩
  exact key _ rfl (by intro c hc;revert c;decide)
theorem Km(A:dS K mg)(B:pP mg):aQ P w K mg base (iP P w) 2 A.y6 A.zv ["_law_cell"] (sN K t4):=
  i7 A.lB.F i5 Ei Hk DZ fun c9 A_ outer s H E hr=>have hu:=hr.units
  ah (aD (i:=1) i5.nd rfl (Or.inr jf) (aq))
  (ah (aD (i:=2) i5.nd rfl (Or.inl eQ) (W6 rfl PySem.F.slot_str_join PySem.F.type_str_join Lg (aq) (pT (pL rfl (j7 ["_law_k"] [("_law_letters",1),("_law_cell",0)] ["_law_cell","_law_letters","_law_alike","_law_at_here","_law_found","_law_k","_law_name"] (by decide +kernel)) (Vo dX (by decide +kernel)) (by decide +kernel) rfl (by decide +kernel) (fun y hy=>PySem.mem_of_lookup hy) rfl (gD 0) (gL (by decide)) i4 (tu oZ B.range (bQ (cN (ef (v_var (i:=0) rfl (Or.inr (Or.inl iq))))) ae)) (fun cl C s H fp pins=>gh (i:=0) (show (["_law_k","_law_letters","_law_cell"]:List Str).Nodup by decide +kernel) rfl (Or.inl (kj (by decide +kernel))) (.inr (kj (by decide +kernel)))) (fun cl C s H fp pins=>nW) (fun cl C s H fp pins=>d9 (d_ rfl) (v_var (i:=1) rfl (CA (by decide +kernel))) (cN (bI (cn rfl) (v_var (i:=2) rfl (CA (by decide +kernel))) (bI mm (au) (v_var (i:=0) rfl (oQ (by decide +kernel)))))) (fun _ _=>rfl))) ae)))
  (ah (aD (i:=3) i5.nd rfl (Or.inl gc) (bI Gx (ef (v_var (i:=0) rfl (Or.inr (Or.inl iq)))) (bI (cn rfl) (my (r9 rfl) sd B.len lU (ai (v_var (i:=2) rfl (Or.inl eQ)) ae)) (au))))
  (ah (xW (i:=4) i5.nd rfl (Or.inl eJ) ae)
  (ah (sI jj rfl (tu oZ B.range (aa (au) ae)) (gh (i:=5) i5.nd rfl (Or.inl nB) (.inl rfl)) (gD 5) (ah (aD (i:=6) i5.nd rfl (Or.inl bY) (bI (cn rfl) (MM rfl (v_var (i:=2) rfl (Or.inl eQ)) (v_var (i:=3) rfl (Or.inl gc))) (d9 (d_ rfl) (v_var (i:=1) rfl (Or.inr (Or.inl jf))) (cN (bI (cn rfl) (ef (v_var (i:=0) rfl (Or.inr (Or.inl iq)))) (bI mm (au) (v_var (i:=5) rfl (Or.inl nB))))) (fun _ _=>rfl))))
  (ah (aD (i:=6) i5.nd rfl (Or.inl bY) (bI (cn rfl) (v_var (i:=6) rfl (Or.inl bY)) (RR rfl (v_var (i:=2) rfl (Or.inl eQ)) (v_var (i:=3) rfl (Or.inl gc)))))
  (av (CT (i:=4) rfl rfl (Or.inl eJ) (bI (cn rfl) (d9 (d_ rfl) (bj (aa (aq) (ai (v_var (i:=6) rfl (Or.inl bY)) ae))) (kI Bt r4 B.int tF (lY (wV (N5 rfl) (v_var (i:=6) rfl (Or.inl bY)) (OY rfl (Ap A B) (hr.mono (by decide)) nA A.fP.m A.fP.F.kp A.fP.b af) (by with_unfolding_all rfl)) ae)) (fun _ _=>rfl)) (d9 (d_ rfl) (bj (aa (aq) (aa (aq) ae))) (kI Bt r4 B.int tF (JM (v_and (Vu (i:=4) rfl rfl (Or.inl eJ) (v_var (i:=6) rfl (Or.inl bY))) (PL (wV Ml (my (r9 rfl) sd B.len lU (ai (v_var (i:=6) rfl (Or.inl bY)) ae)) (au) (aL _)))) ae)) (fun _ _=>rfl))))))))
  (av (we 4 (a_ (v_var (i:=4) rfl (Or.inl eJ)))))))))
end
end Pw
namespace Pw
open PySem L2
seal PE PT PW PA PS ju PG sg PI rA PO PJ
section
variable {P:Program} {w:World} {K:PySem.W.Frag} {mg:Str->Option Value} {base:Heap} {f:Addr} {fd:FuncData}
def FS(Cr:Ct):Sv:=gk (fG [vC (.str "entry"),ck lj (ag 3) (ko (eN 6) (ko (gU 2) (ag 5))),rh Hd [BC 1 [3,5] (EO (ko (eN 3) (ko (gU 432) (ag 5)))) (gV 0) (OU) (ck lj (ag 1) (ko (eN 6) (ck Bl (ag 2) (ck lj (cY [vC (.int 12),vC (.int 72)]) (ag 0)))))]])
def CG(Cr:Ct):Sv:=f_ (eK xG (ko (eN 2) (ag 5)) (vC (.int 0))) (gk (fG [vC (.str "number"),bB k7 [ko (gU 2) (ag 5)]])) (dc)
def mh(Cr:Ct):Sv:=aE (CG Cr) (FS Cr)
def Gp(Cr:Ct):Sv:=gk (fG [ck lj (cY [vC (.str "plus"),vC (.str "minus"),vC (.str "times")]) (ko (eN 3) (ag 4)),ag 6,ag 7])
def Fe(Cr:Ct):Sv:=bM 7 (bB Cr [bB cv [ag 0,vC (.int 4)],ck GA (ag 1) (vC (.int 1)),ag 2,ag 3])
def GI(Cr:Ct):Sv:=aE (Fe Cr) (Gp Cr)
def Fm(Cr:Ct):Sv:=f_ (eK xG (ag 4) (vC (.int 4))) (gk (fG [vC (.str "sum"),ck lj (ag 3) (ko (eN 6) (ag 5)),ck lj (ag 3) (ko (eN 6) (ko (gU 6) (ag 5))),ag 6])) (dc)
def G3(Cr:Ct):Sv:=aE (Fm Cr) (GI Cr)
def Ef(Cr:Ct):Sv:=f_ (eK xG (ag 4) (vC (.int 3))) (gk (fG [vC (.str "negative"),ag 6])) (dc)
def GX(Cr:Ct):Sv:=aE (Ef Cr) (G3 Cr)
def FR(Cr:Ct):Sv:=bM 6 (bB Cr [bB cv [ag 0,vC (.int 3)],ck GA (ag 1) (vC (.int 1)),ck GA (ag 2) (rh Ge [ck xG (ag 4) (vC (.int 4))]),ag 3])
def sX(Cr:Ct):Sv:=aE (FR Cr) (GX Cr)
def FM(Cr:Ct):Sv:=f_ (Ma (eK xG (ag 1) (vC (.int 0))) (Ma (eK T1 (ag 4) (vC (.int 3))) (Qh (eK xG (ag 4) (vC (.int 4))) (eK xG (ag 2) (vC (.int 0)))))) ((mh Cr)) (dc)
def zO(Cr:Ct):Sv:=aE (FM Cr) (sX Cr)
def DR(Cr:Ct):Sv:=bM 5 (ko (gU 7) (bB cv [ag 0,vC (.int 2)]))
def GQ(Cr:Ct):Sv:=aE (DR Cr) (zO Cr)
def Fz(Cr:Ct):Sv:=bM 4 (ko (eN 10) (ko (gU 7) (bB cv [ag 0,vC (.int 1)])))
def E9(Cr:Ct):Sv:=
  aE (Fz Cr) (GQ Cr)
def gP:Nat->Ct
  | 0=>fun _ _=>False
  | n+1=>fun ts P=>∃ (c d s:Int) (jI:List Str),ts=[.int c,.int d,.int s,.lst (jI.map Tv.str)]/\Ax c/\0<=d/\d<=n/\0<=s/\yM jI/\∀ t,(dp t:Int)<=d+1->TK s.toNat t->P (.ok (.va (km t)))
theorem nq:aA ["_law_cell","_law_deep_here","_law_sums_here","_law_pool_here","_law_kind","_law_more","_law_one","_law_other"] ["_law_cell","_law_deep_here","_law_sums_here","_law_pool_here"] (ak cU):=⟨rfl,rfl,rfl,by decide +kernel,rfl,by decide +kernel,by decide +kernel⟩
theorem fj:Lk cU "_law_cell" .local:=by decide +kernel
theorem eY:Lk cU "_law_deep_here" .local:=by decide +kernel
theorem eV:Lk cU "_law_sums_here" .local:=by decide +kernel
theorem cf:Lk cU "_law_pool_here" .cell:=by decide +kernel
theorem bZ:Lk cU "_law_kind" .local:=by decide +kernel
theorem b7:Lk cU "_law_more" .cell:=by decide +kernel
theorem f7:Lk cU "_law_one" .local:=by decide +kernel
theorem kf:Lk cU "_law_other" .local:=by decide +kernel
theorem nk:Lk cU "_law_fraction" .globalImplicit:=by decide +kernel
theorem eG:Lk cU "_law_mixed" .globalImplicit:=by decide +kernel
theorem kM:Lk cU "_law_tree" .globalImplicit:=by decide +kernel
theorem AR:Lk cU "int" .globalImplicit:=by decide +kernel
theorem xP:Lk cU "range" .globalImplicit:=by decide +kernel
theorem xK:Lk cU "tuple" .globalImplicit:=by decide +kernel
theorem GH(n:Nat):∀ ts Q,gP (n+1) ts Q->ts.length=4:=fun ts Q ⟨_,_,_,_,e,_⟩=>by rw[e];rfl
theorem pick{jI:List Str}(hp:yM jI){i:Int}{k:Tv->Prop}(h0:0<=i)(h1:i<6)(h:∀ x∈jI,k (.str x)):mF (vg (jI.map Tv.str) i) k:=oO h0 (by rw[List.length_map,hp.1];exact h1) fun t ht=>by
  obtain⟨x,hx,rfl⟩:=List.mem_map.mp ht
  exact h x hx
theorem MX{a b c:Tv}{i:Int}{k:Tv->Prop}(h0:0<=i)(h1:i<3)(ha:k a)(hb:k b)(hc:k c):mF (vg [a,b,c] i) k:=oO h0 h1 fun t ht=>by
  rcases List.mem_cons.mp ht with e | ht
  · subst e;exact ha
  rcases List.mem_cons.mp ht with e | ht
  · subst e;exact hb
  rw[List.mem_singleton.mp ht];exact hc
theorem Oj{c d s kk:Int}{jI:List Str}{m:Int}{Cr:Ct}{K':Fl->En->Prop}(hp:yM jI)(m0:0<=m)(q:∀ t,dp t<=1->TK s.toNat t->K' (.rt (.va (km t))) [.va (.int c),.va (.int d),.va (.int s),.va (.lst (jI.map Tv.str)),.va (.int kk),.va (.int m),.un,.un]):
    mh Cr [.va (.int c),.va (.int d),.va (.int s),.va (.lst (jI.map Tv.str)),.va (.int kk),.va (.int m),.un,.un] K':=by
  refine bF (fun e=>⟨m / 2,rfl,fun a ga=>q (.num a) (Nat.le_refl _) (by cases s.toNat <;> exact ga)⟩) fun e=>?_
  refine pick hp (Int.emod_nonneg _ (by decide)) (Int.emod_lt_of_pos _ (by decide)) fun x hx=>?_
  have r0:0<=m / 432 % 3:=Int.emod_nonneg _ (by decide)
  have r1:m / 432 % 3<3:=Int.emod_lt_of_pos _ (by decide)
  refine⟨⟨by omega,by omega⟩,d3 (by rw[nT];omega),BG Tv.str (fun _ y=>Nw y) (fun z hz Ky Kn hk=>?_) fun ys hy=>?_⟩
  · obtain⟨k,hk',rfl⟩:=IG hz
    have SL:k<2:=by omega
    have go:∀ j:Int,0<j/\j<=72->(j≠0/\j.natAbs.log2<9000)/\mF (vg (jI.map Tv.str) (m.fdiv j % 6)) fun t=>([.va (.int k),.va (.lst (jI.map Tv.str)),.va (.int m)]:En)=[.va (.int k),.va (.lst (jI.map Tv.str)),.va (.int m)]/\Ky t:=fun j hj=>⟨⟨by omega,IM (yC (k:=10) (by omega) (by decide))⟩,pick hp (Int.emod_nonneg _ (by decide)) (Int.emod_lt_of_pos _ (by decide)) fun x hx=>⟨rfl,hk x (hp.2 x hx)⟩⟩
    refine⟨_,rfl,rfl,?_⟩
    match k,SL with
    | 0,_=>exact go 12 (by decide)
    | 1,_=>exact go 72 (by decide)
  · have hl:ys.length<=2:=by rw[← hy.length,nT];omega
    have g9:Nw x/\ys.length<=2/\∀ k∈ys,Nw k:=⟨hp.2 x hx,hl,fun y hyy=>let ⟨_,g⟩:=zd hy y hyy;g⟩
    exact q (.ent x ys) (Nat.le_refl _) (by cases s.toNat <;> exact g9)
theorem FL(n:Nat):∀ ts Q,gP (n+1) ts Q->fu 8 (E9 (gP n)) ts Q:=by
  rintro ts Q ⟨c,d,s,jI,rfl,hc,d0,dn,s0,hp,q⟩
  refine⟨c,1,rfl,hc,⟨by decide,by decide⟩,fun m1 a1 b1=>⟨c,2,rfl,hc,⟨by decide,by decide⟩,fun m2 a2 b2=>?_⟩⟩
  show zO (gP n) [.va (.int c),.va (.int d),.va (.int s),.va (.lst (jI.map Tv.str)),.va (.int (m1 / 7 % 10)),.va (.int (m2 / 7)),.un,.un] (bg Q)
  have m0:0<=m2 / 7:=by omega
  generalize m1 / 7 % 10=kk
  generalize m2 / 7=m at m0
  have Q1:mh (gP n) [.va (.int c),.va (.int d),.va (.int s),.va (.lst (jI.map Tv.str)),.va (.int kk),.va (.int m),.un,.un] (U_ (sX (gP n)) (bg Q)):=Oj hp m0 fun t h o=>q t (by omega) o
  have REC:d≠0->(kk=4->s≠0)->sX (gP n) [.va (.int c),.va (.int d),.va (.int s),.va (.lst (jI.map Tv.str)),.va (.int kk),.va (.int m),.un,.un] (bg Q):=by
    intro hd hs4
    have s1:0<=s-Ku (decide (kk=4)):=by
      by_cases h4:kk=4
      · rw[decide_eq_true h4];have:=hs4 h4;show 0<=s-1;omega
      · rw[decide_eq_false h4];show 0<=s-0;omega
    obtain⟨n,rfl⟩:∃ k,n=k+1:=⟨n-1,by omega⟩
    refine⟨c,3,rfl,hc,⟨by decide,by decide⟩,fun m3 a3 b3=>⟨m3,d-1,_,jI,rfl,wG a3 b3,by omega,by omega,s1,hp,fun t1 h1 o1=>?_⟩⟩
    refine bF (fun e=>?_) fun e3=>?_
    · have e3:kk=3:=of_decide_eq_true e
      rw[decide_eq_false (show ¬ kk=4 by omega),show s-Ku false=s from Int.sub_zero s] at o1
      exact q (.neg t1) (by show ((1+dp t1:Nat):Int)<=_;omega) (by revert o1;cases s.toNat <;> exact id)
    refine bF (fun e=>?_) fun e4=>?_
    · refine pick hp (Int.emod_nonneg _ (by decide)) (Int.emod_lt_of_pos _ (by decide)) fun x hx=>pick hp (Int.emod_nonneg _ (by decide)) (Int.emod_lt_of_pos _ (by decide)) fun y hy=>?_
      have e4:kk=4:=of_decide_eq_true e
      rw[decide_eq_true e4] at o1
      have o1:TK (s-1).toNat t1:=o1
      have:=hs4 e4
      exact q (.sum x y t1) (by show ((1+dp t1:Nat):Int)<=_;omega) (by rw[show s.toNat=(s-1).toNat+1 by omega];exact⟨hp.2 x hx,hp.2 y hy,o1⟩)
    · refine⟨c,4,rfl,hc,⟨by decide,by decide⟩,fun m4 a4 b4=>⟨m4,d-1,s,jI,rfl,wG a4 b4,by omega,by omega,s0,hp,fun t2 h2 o2=>?_⟩⟩
      rw[decide_eq_false (of_decide_eq_false e4),show s-Ku false=s from Int.sub_zero s] at o1
      have hB:∀ w,TK s.toNat (.bin w t1 t2):=fun w=>by revert o1 o2;cases s.toNat <;> exact fun a b=>⟨a,b⟩
      have hb:∀ w,((dp (.bin w t1 t2):Nat):Int)<=d+1:=fun w=>by show ((1+max (dp t1) (dp t2):Nat):Int)<=_;omega
      exact MX (Int.emod_nonneg _ (by decide)) (Int.emod_lt_of_pos _ (by decide)) (q (.bin 0 t1 t2) (hb 0) (hB 0)) (q (.bin 1 t1 t2) (hb 1) (hB 1)) (q (.bin 2 t1 t2) (hb 2) (hB 2))
  refine bF (fun e=>Q1) fun e=>bF (fun e1=>Q1) fun e1=>bF (fun e2=>?_) fun e2=>REC (of_decide_eq_false e) fun z=>absurd z (of_decide_eq_false e2)
  show (if decide (s=0)=true then mh (gP n) else dc) _ _
  exact bF (fun e3=>Q1) fun e3=>REC (of_decide_eq_false e) fun _=>of_decide_eq_false e3
theorem Bs(A:dS K mg)(B:pP mg):∀ n,aQ P w K mg base (iP P w) (3+n) A.y_ A.zc ["_law_cell","_law_deep_here","_law_sums_here","_law_pool_here"] (sN K (gP n))
  | 0=>aQ.none fun _ _ h=>h
  | n+1=>by
    have ih:=Bs A B n
    exact i7 A.fo.F nq (E9 (gP n)) (GH n) (FL n) fun c9 A_ outer s H E hr=>have hu:=hr.units
      ah (aD (i:=4) nq.nd rfl (Or.inl bZ) (cN (ef (aT rfl (cG A B) (hr.mono (by show _<=3+n;omega)) eG A.ay.m A.ay.F.kp A.ay.b af (ai (v_var (i:=0) rfl (Or.inl fj)) (aa (au) ae))))))
        (ah (aD (i:=5) nq.nd rfl (Or.inr b7) (ef (aT rfl (cG A B) (hr.mono (by show _<=3+n;omega)) eG A.ay.m A.ay.F.kp A.ay.b af (ai (v_var (i:=0) rfl (Or.inl fj)) (aa (au) ae)))))
        (ah (cM (PW.pt (rL (aZ (k9 rfl hu) (v_var (i:=1) rfl (Or.inl eY)) (au) (aL _)) (rL (aZ Ml (v_var (i:=4) rfl (Or.inl bZ)) (au) (aL _)) (vY (PW.pt (KW (aZ (k9 rfl hu) (v_var (i:=4) rfl (Or.inl bZ)) (au) (aL _)) (Ic (aZ (k9 rfl hu) (v_var (i:=2) rfl (Or.inl eV)) (au) (aL _))))))))) (ah (cM (aZ (k9 rfl hu) (cN (v_var (i:=5) rfl (Or.inr (Or.inl b7)))) (au) (aL _)) (av (a_ (cy (hz:=aJ rfl) (aa (aq) (aM (aT rfl (AU A B) (hr.mono (by show _<=3+n;omega)) nk A.gf.m A.gf.F.kp A.gf.b af (bQ (ef (v_var (i:=5) rfl (Or.inr (Or.inl b7)))) ae)) ae))))) (cg))
        (av (a_ (cy (hz:=aJ rfl) (aa (aq) (aN (d9 (d_ rfl) (v_var (i:=3) rfl (Or.inr (Or.inl cf))) (cN (ef (v_var (i:=5) rfl (Or.inr (Or.inl b7))))) (fun _ _=>rfl)) (aM (kI (BV rfl) xK B.tuple t5 (pT (pL rfl (j7 ["_law_k"] [("_law_pool_here",3),("_law_more",5)] ["_law_cell","_law_deep_here","_law_sums_here","_law_pool_here","_law_kind","_law_more","_law_one","_law_other"] (by decide +kernel)) (Vo cU (by decide +kernel)) (by decide +kernel) rfl (by decide +kernel) (fun y hy=>PySem.mem_of_lookup hy) rfl (gD 0) (gL (by decide)) i4 (tu xP B.range (bQ (cN (ef (v_var (i:=5) rfl (Or.inr (Or.inl b7))))) ae)) (fun cl C s H fp pins=>gh (i:=0) (show (["_law_k","_law_pool_here","_law_more"]:List Str).Nodup by decide +kernel) rfl (Or.inl (kj (by decide +kernel))) (.inr (kj (by decide +kernel)))) (fun cl C s H fp pins=>nW) (fun cl C s H fp pins=>d9 (d_ rfl) (v_var (i:=1) rfl (CA (by decide +kernel))) (cN (bI yo (v_var (i:=2) rfl (CA (by decide +kernel))) (d9 (d_ rfl) (bj (hz:=aJ rfl) (aa (au) (aa (au) ae))) (v_var (i:=0) rfl (oQ (by decide +kernel))) (fun _ _=>rfl)))) (fun _ _=>rfl))) ae)) ae))))))) (cg))
        (ah (aD (i:=6) nq.nd rfl (Or.inl f7) (aT rfl ih hr kM A.fo.m A.fo.F.kp A.fo.b af (aM (aT rfl (cG A B) (hr.mono (by show _<=3+n;omega)) eG A.ay.m A.ay.F.kp A.ay.b af (ai (v_var (i:=0) rfl (Or.inl fj)) (aa (au) ae))) (bQ (bI Bm (v_var (i:=1) rfl (Or.inl eY)) (au)) (bQ (bI Bm (v_var (i:=2) rfl (Or.inl eV)) (kI Bt AR B.int tF (lY (wV (k9 rfl hu) (v_var (i:=4) rfl (Or.inl bZ)) (au) (aL _)) ae))) (ai (v_var (i:=3) rfl (Or.inr (Or.inl cf))) ae))))))
        (ah (cM (aZ (k9 rfl hu) (v_var (i:=4) rfl (Or.inl bZ)) (au) (aL _)) (av (a_ (cy (hz:=aJ rfl) (aa (aq) (ai (v_var (i:=6) rfl (Or.inl f7)) ae))))) (cg))
        (ah (cM (aZ (k9 rfl hu) (v_var (i:=4) rfl (Or.inl bZ)) (au) (aL _)) (av (a_ (cy (hz:=aJ rfl) (aa (aq) (aN (d9 (d_ rfl) (v_var (i:=3) rfl (Or.inr (Or.inl cf))) (cN (v_var (i:=5) rfl (Or.inr (Or.inl b7)))) (fun _ _=>rfl)) (aN (d9 (d_ rfl) (v_var (i:=3) rfl (Or.inr (Or.inl cf))) (cN (ef (v_var (i:=5) rfl (Or.inr (Or.inl b7))))) (fun _ _=>rfl)) (ai (v_var (i:=6) rfl (Or.inl f7)) ae))))))) (cg))
        (ah (aD (i:=7) nq.nd rfl (Or.inl kf) (aT rfl ih hr kM A.fo.m A.fo.F.kp A.fo.b af (aM (aT rfl (cG A B) (hr.mono (by show _<=3+n;omega)) eG A.ay.m A.ay.F.kp A.ay.b af (ai (v_var (i:=0) rfl (Or.inl fj)) (aa (au) ae))) (bQ (bI Bm (v_var (i:=1) rfl (Or.inl eY)) (au)) (ai (v_var (i:=2) rfl (Or.inl eV)) (ai (v_var (i:=3) rfl (Or.inr (Or.inl cf))) ae))))))
        (av (a_ (cy (hz:=aJ rfl) (aN (d9 (d_ rfl) (bj (hz:=aJ rfl) (aa (aq) (aa (aq) (aa (aq) ae)))) (cN (v_var (i:=4) rfl (Or.inl bZ))) (fun _ _=>rfl)) (ai (v_var (i:=6) rfl (Or.inl f7)) (ai (v_var (i:=7) rfl (Or.inl kf)) ae))))))))))))
end
end Pw
namespace Pw
open PySem L2
seal PE PT PW PA PS ju PG sg PI rA PO PJ
section
variable {P:Program} {w:World} {K:PySem.W.Frag} {mg:Str->Option Value} {base:Heap} {f:Addr} {fd:FuncData}
def AV(Cr:Ct):Sv:=f_ (Ma (eK wGe (ck sV (ag 5) (ag 4)) (ck TB (vC (.int 10)) (vC (.int 9)))) (eK xG (ck sV (ag 6) (ag 4)) (vC (.int 1)))) (bM 7 (Le (cY [rh LJ [ag 5],vC (.str "/"),rh LJ [ag 6]]) (ck fM (vC (.int 1)) (ck sV (vC (.int 2)) (rh Ge [ck Wf (ag 6) (vC (.int 1))]))))) (dc)
def zD(Cr:Ct):Sv:=bM 7 (cY [rh LJ [ck sV (ag 5) (ag 4)],vC (.str "/"),rh LJ [ck sV (ag 6) (ag 4)]])
def Ar(Cr:Ct):Sv:=aE (zD Cr) (AV Cr)
def zz(Cr:Ct):Sv:=Tg (gT [5,6]) (ck lj (ag 0) (vC (.int 1)))
def Aw(Cr:Ct):Sv:=aE (zz Cr) (Ar Cr)
def zh(Cr:Ct):Sv:=bM 4 (ck lj (cY [vC (.int 1),vC (.int 1),vC (.int 2),vC (.int 3)]) (ko (eN 4) (ko (gU 7) (bB cv [ag 2,vC (.int 5)]))))
def A9(Cr:Ct):Sv:=aE (zh Cr) (Aw Cr)
def AB(Cr:Ct):Sv:=bM 7 (ck fM (ag 7) (ck sV (cY [vC (.str ")")]) (rh Ge [ck Pe (ck lj (ag 0) (vC (.int 2))) (fG [])])))
def zR(Cr:Ct):Sv:=FT (Mf (ck lj (ag 0) (vC (.int 2)))) (gT [8,9]) (bM 7 (ck fM (ag 7) (cY [ck lj (cY [vC (.str "("),vC (.str ",")]) (ag 8),ag 9])))
def AQ(Cr:Ct):Sv:=aE (zR Cr) (AB Cr)
def zf(Cr:Ct):Sv:=bM 7 (cY [ck lj (ag 0) (vC (.int 1))])
def A0(Cr:Ct):Sv:=aE (zf Cr) (AQ Cr)
def A8(Cr:Ct):Sv:=bM 7 (ck fM (ag 7) (bB Cr [ck lj (ag 0) (vC (.int 2)),ck fM (ag 3) (vC (.int 1)),bB cv [ag 2,vC (.int 7)]]))
def zt(Cr:Ct):Sv:=bM 7 (ck fM (bB Cr [ck lj (ag 0) (vC (.int 1)),ag 3,bB cv [ag 2,vC (.int 6)]]) (cY [ag 10]))
def Ay(Cr:Ct):Sv:=aE (zt Cr) (A8 Cr)
def z_(Cr:Ct):Sv:=bM 10 (ck UG (vC (.dic (([("plus","+"),("minus","-"),("times","*")]:List (Str×Str)).map fun e:Str×Str=>Sum.inr e.1) (([("plus","+"),("minus","-"),("times","*")]:List (Str×Str)).map fun e:Str×Str=>.str e.2))) (ck lj (ag 0) (vC (.int 0))))
def AW(Cr:Ct):Sv:=aE (z_ Cr) (Ay Cr)
def BU(Cr:Ct):Sv:=gk (ag 7)
def AI(Cr:Ct):Sv:=f_ (Ma (eK T1 (ag 3) (ag 1)) (eK xG (ko (eN 6) (ko (gU 7) (bB cv [ag 2,vC (.int 8)]))) (vC (.int 1)))) (gk (ck fM (ck fM (cY [vC (.str "(")]) (ag 7)) (cY [vC (.str ")")]))) (dc)
def t9(Cr:Ct):Sv:=aE (AI Cr) (BU Cr)
def gv(Cr:Ct):Sv:=f_ (eK xG (ck lj (ag 0) (vC (.int 0))) (vC (.str "number"))) ((A9 Cr)) (f_ (eK xG (ck lj (ag 0) (vC (.int 0))) (vC (.str "entry"))) ((A0 Cr)) (f_ (eK xG (ck lj (ag 0) (vC (.int 0))) (vC (.str "sum"))) (bM 7 (ck fM (ck fM (cY [vC (.str "sum"),vC (.str "("),ck lj (ag 0) (vC (.int 1)),vC (.str "in"),ck lj (ag 0) (vC (.int 2)),vC (.str ",")]) (bB Cr [ck lj (ag 0) (vC (.int 3)),vC (.int 1),bB cv [ag 2,vC (.int 6)]])) (cY [vC (.str ")")]))) (f_ (eK xG (ck lj (ag 0) (vC (.int 0))) (vC (.str "negative"))) (bM 7 (ck fM (cY [vC (.str "-")]) (bB Cr [ck lj (ag 0) (vC (.int 1)),vC (.int 3),bB cv [ag 2,vC (.int 6)]]))) ((AW Cr)))))
def fU(Cr:Ct):Sv:=aE (gv Cr) (t9 Cr)
def rW(Cr:Ct):Sv:=bM 3 (Pv (vC (.dic (([("plus",1),("minus",1),("times",2),("negative",3)]:List (Str×Int)).map fun e:Str×Int=>Sum.inr e.1) (([("plus",1),("minus",1),("times",2),("negative",3)]:List (Str×Int)).map fun e:Str×Int=>.int e.2))) (ck lj (ag 0) (vC (.int 0))) (vC (.int 4)))
def oC(Cr:Ct):Sv:=
  aE (rW Cr) (fU Cr)
theorem yL{ks:List Str}(h:ks.length<=2):(d6 ks).length<=5:=by
  match ks,h with
  | [],_=>exact Nat.zero_le _
  | [k],_=>exact aJ rfl
  | [k,j],_=>exact aJ rfl
theorem Br.len{k l:Nat}{w ws:List Str}(h:Br k l w ws):ws.length<=w.length+2:=by
  rcases h with rfl | ⟨_,rfl⟩
  · rw[List.length_cons,List.length_append,List.length_singleton];omega
  · omega
def PH:Nat->Nat
  | 0=>8
  | n+1=>2*PH n+9
theorem GK(n:Nat):8<=PH n:=by
  induction n with
  | zero=>exact Nat.le_refl _
  | succ n ih=>show 8<=2*PH n+9;omega
theorem mE.len{a:Fq}{w:List Str}(h:mE a w):w.length<=3:=by
  rcases h with ⟨m,_,_,rfl⟩ | ⟨_,rfl⟩
  · exact Nat.le_refl _
  · exact aJ rfl
theorem Row.len:∀ (n:Nat) {t:ir} {σ l:Nat} {ws:List Str},dp t<=n->TK σ t->Row t l ws->ws.length<=PH n
  | 0,t,_,_,_,hd,_,_=>absurd hd (by have:=lR t;omega)
  | n+1,.num a,_,_,_,_,_,⟨w,hw,hb⟩=>by
    have:=hb.len;have:=hw.len;have:=GK (n+1);omega
  | n+1,.ent x ks,σ,_,_,_,hk,hb=>by
    have hk:Nw x/\ks.length<=2/\∀ k∈ks,Nw k:=by cases σ <;> exact hk
    have:=Br.len hb;have:=yL hk.2.1;have:=GK (n+1);rw[List.length_cons] at *;omega
  | n+1,.neg t,σ,_,_,hd,hk,⟨w,hw,hb⟩=>by
    have:=Br.len hb
    have:=Row.len n (t:=t) (σ:=σ) (by have:dp (.neg t)=1+dp t:=rfl;omega) (by cases σ <;> exact hk) hw
    rw[List.length_cons] at *
    show _<=2*PH n+9
    omega
  | n+1,.bin b x y,σ,_,_,hd,hk,⟨u,v,hu,hv,hb⟩=>by
    have hk:TK σ x/\TK σ y:=by cases σ <;> exact hk
    have e:dp (.bin b x y)=1+max (dp x) (dp y):=rfl
    have:=Br.len hb
    have:=Row.len n (t:=x) (σ:=σ) (by omega) hk.1 hu
    have:=Row.len n (t:=y) (σ:=σ) (by omega) hk.2 hv
    rw[List.length_append,List.length_cons] at *
    show _<=2*PH n+9
    omega
  | n+1,.sum b g t,σ,_,_,hd,hk,⟨w,hw,hb⟩=>by
    have e:dp (.sum b g t)=1+dp t:=rfl
    have:=Br.len hb
    match σ,hk with
    | s+1,hk=>
      have:=Row.len n (t:=t) (σ:=s) (by omega) hk.2.2 hw
      simp only [List.length_cons,List.length_append,List.length_nil] at *
      have:=GK n
      show _<=2*PH n+9
      omega
theorem P6:∀ {n:Nat},n<=6->PH n<=1100:=by decide
theorem Row.xc{n:Nat}{t:ir}{σ l:Nat}{ws:List Str}(hd:dp t<=n)(hn:n<=6)(hk:TK σ t)(h:Row t l ws):ws.length<=1100:=Nat.le_trans (Row.len n hd hk h) (P6 hn)
theorem HZ{i:Int}(h:i.natAbs<2 ^ 60):i.natAbs.log2<1920:=by
  by_cases z:i.natAbs=0
  · rw[z];decide
  · exact Nat.lt_trans ((Nat.log2_lt z).mpr h) (by decide)
abbrev Rq:List (Key×Tv):=((([("plus",1),("minus",1),("times",2),("negative",3)]:List (Str×Int)).map fun e:Str×Int=>(Sum.inr e.1:Key)).zip (([("plus",1),("minus",1),("times",2),("negative",3)]:List (Str×Int)).map fun e:Str×Int=>Tv.int e.2))
theorem Q0:(uC Rq (Sum.inr "number")).getD (.int 4)=.int ((4:Nat):Int):=by kernel_rfl
theorem QC:(uC Rq (Sum.inr "entry")).getD (.int 4)=.int ((4:Nat):Int):=by kernel_rfl
theorem So:(uC Rq (Sum.inr "sum")).getD (.int 4)=.int ((4:Nat):Int):=by kernel_rfl
theorem SR:(uC Rq (Sum.inr "negative")).getD (.int 4)=.int ((3:Nat):Int):=by kernel_rfl
theorem Tn:∀ b:Fin 3,(uC Rq (Sum.inr (sj b))).getD (.int 4)=.int ((J3 b:Nat):Int)
  | 0=>by kernel_rfl
  | 1=>by kernel_rfl
  | 2=>by kernel_rfl
abbrev MKd:List (Key×Tv):=((([("plus","+"),("minus","-"),("times","*")]:List (Str×Str)).map fun e:Str×Str=>(Sum.inr e.1:Key)).zip (([("plus","+"),("minus","-"),("times","*")]:List (Str×Str)).map fun e:Str×Str=>Tv.str e.2))
theorem Qk:∀ b:Fin 3,uC MKd (Sum.inr (sj b))=some (.str (markB b))
  | 0=>by kernel_rfl
  | 1=>by kernel_rfl
  | 2=>by kernel_rfl
theorem OA{i:Int}{k:Tv->Prop}(h0:0<=i)(h1:i<4)(h:∀ m:Int,1<=m->m<=3->k (.int m)):mF (vg [.int 1,.int 1,.int 2,.int 3] i) k:=by
  have:i=0\/i=1\/i=2\/i=3:=by omega
  rcases this with rfl | rfl | rfl | rfl
  · exact i_ (t:=.int 1) rfl (h 1 (by decide) (by decide))
  · exact i_ (t:=.int 1) rfl (h 1 (by decide) (by decide))
  · exact i_ (t:=.int 2) rfl (h 2 (by decide) (by decide))
  · exact i_ (t:=.int 3) rfl (h 3 (by decide) (by decide))
def c8(n:Nat):Ct:=fun ts P=>∃ t,∃ l:Nat,∃ c:Int,∃ σ:Nat,ts=[km t,.int (l:Int),.int c]/\dp t<=n/\n<=6/\l<=4/\TK σ t/\Ax c/\∀ ws,Row t l ws->P (.ok (.va (.lst (ws.map Tv.str))))
theorem De(n:Nat):∀ ts Q,c8 (n+1) ts Q->ts.length=3:=fun ts Q ⟨_,_,_,_,e,_⟩=>by rw[e];rfl
theorem bq:aA ["_law_tree_here","_law_least","_law_cell","_law_level","_law_many","_law_top","_law_bottom","_law_found","_law_k","_law_key","_law_mark"] ["_law_tree_here","_law_least","_law_cell"] (ak bu):=⟨rfl,rfl,rfl,by decide +kernel,rfl,by decide +kernel,by decide +kernel⟩
theorem ar:Lk bu "_law_tree_here" .local:=by decide +kernel
theorem ot:Lk bu "_law_least" .local:=by decide +kernel
theorem b9:Lk bu "_law_cell" .local:=by decide +kernel
theorem dH:Lk bu "_law_level" .local:=by decide +kernel
theorem cR:Lk bu "_law_many" .local:=by decide +kernel
theorem eO:Lk bu "_law_top" .local:=by decide +kernel
theorem cu:Lk bu "_law_bottom" .local:=by decide +kernel
theorem aB:Lk bu "_law_found" .local:=by decide +kernel
theorem lL:Lk bu "_law_k" .local:=by decide +kernel
theorem j_:Lk bu "_law_key" .local:=by decide +kernel
theorem jz:Lk bu "_law_mark" .local:=by decide +kernel
theorem bT:Lk bu "_law_mixed" .globalImplicit:=by decide +kernel
theorem du:Lk bu "_law_row_of" .globalImplicit:=by decide +kernel
theorem pE:Lk bu "enumerate" .globalImplicit:=by decide +kernel
theorem o4:Lk bu "int" .globalImplicit:=by decide +kernel
theorem iM:Lk bu "str" .globalImplicit:=by decide +kernel
theorem qi{Cr:Ct}{T:Tv}{k l:Nat}{c:Int}{w:List Str}{x4 x5 x6 x8 x9 x10:Sl}{Q:yh Sl->Prop}(hw:w.length<=4000)(hc:Ax c)(q:∀ ws,Br k l w ws->Q (.ok (.va (.lst (ws.map Tv.str))))):
    t9 Cr [.va T,.va (.int l),.va (.int c),.va (.int k),x4,x5,x6,.va (.lst (w.map Tv.str)),x8,x9,x10] (bg Q):=by
  have hl:(w.map Tv.str).length<=4000:=by rw[List.length_map];exact hw
  have A:(1+(w.map Tv.str).length<=sizeLine/\(([Tv.str "("]++w.map Tv.str).length+1<=sizeLine/\Q (.ok (.va (.lst ([Tv.str "("]++w.map Tv.str++[Tv.str ")"])))))):=by
    refine⟨Nat.le_of_lt (d3 (by omega)),Nat.le_of_lt (d3 (by rw[List.length_append,List.length_singleton];omega)),?_⟩
    have:=q _ (.inl rfl)
    rw[List.map_cons,List.map_append] at this
    exact this
  refine bF (fun e=>A) fun e=>⟨c,8,rfl,hc,⟨by decide,by decide⟩,fun m a b=>?_⟩
  show (if decide (m / 7 % 6=1)=true then _ else dc) _ _
  refine bF (fun e2=>A) fun e2=>q _ (.inr ⟨?_,rfl⟩)
  have:=of_decide_eq_false e
  omega
theorem mE.one{a:Fq}:mE a [iT a.1,"/",iT a.2]:=.inl ⟨1,by decide,by decide,by rw[Int.mul_one,Int.mul_one]⟩
theorem Oq{Cr:Ct}{a:Fq}{l:Nat}{c:Int}{Q:yh Sl->Prop}(h:Nf a)(hc:Ax c)(q:∀ ws,Row (.num a) l ws->Q (.ok (.va (.lst (ws.map Tv.str))))):
    fU Cr [.va (km (.num a)),.va (.int l),.va (.int c),.va (.int ((4:Nat):Int)),.un,.un,.un,.un,.un,.un,.un] (bg Q):=by
  have key:∀ T:Sv,(∀ w x4 x5 x6,mE a w->T [.va (km (.num a)),.va (.int l),.va (.int c),.va (.int ((4:Nat):Int)),x4,x5,x6,.va (.lst (w.map Tv.str)),.un,.un,.un] (bg Q))->aE (gv Cr) T [.va (km (.num a)),.va (.int l),.va (.int c),.va (.int ((4:Nat):Int)),.un,.un,.un,.un,.un,.un,.un] (bg Q):=by
    intro T hT
    obtain⟨hr,h1,h2,h3⟩:=h
    have h4:=hr.1
    refine⟨c,5,rfl,hc,⟨by decide,by decide⟩,fun m a1 b1=>OA (by omega) (by omega) fun k k1 k3=>?_⟩
    have c1:0<=a.1*k:=Int.mul_nonneg h1 (by omega)
    have c2:a.1*k<=1000000000*3:=Int.mul_le_mul (by omega) k3 (by omega) (by decide)
    have c3:1*1<=a.2*k:=Int.mul_le_mul h4 k1 (by decide) (by omega)
    have c4:a.2*k<=999*3:=Int.mul_le_mul h3 k3 (by omega) (by decide)
    have P60:(2:Nat) ^ 60=1152921504606846976:=rfl
    have b1':a.1.natAbs<BM:=tD (k:=60) (by omega) (by decide)
    have b2':a.2.natAbs<BM:=tD (k:=60) (by omega) (by decide)
    have Xo:k.natAbs<BM:=tD (k:=60) (by omega) (by decide)
    have l1:(a.1*k).natAbs.log2<1920:=HZ (by omega)
    have l2:(a.2*k).natAbs.log2<1920:=HZ (by omega)
    have l3:a.1.natAbs.log2<1920:=HZ (by omega)
    have l4:a.2.natAbs.log2<1920:=HZ (by omega)
    have S:∀ b:Bool,(b=true->mE a [iT a.1,"/",iT a.2])->(b=false->mE a [iT a.1])->∀ x4 x5 x6,((((2:Int).natAbs<BM/\(Ku b).natAbs<BM)/\T [.va (km (.num a)),.va (.int l),.va (.int c),.va (.int ((4:Nat):Int)),x4,x5,x6,.va (.lst (LS [Tv.str (iT a.1),.str "/",.str (iT a.2)] none (some (1+2*Ku b)))),.un,.un,.un] (bg Q))):=by
      intro b t1 t2 x4 x5 x6
      refine⟨⟨tD (k:=60) (by decide) (by decide),tD (k:=60) (by cases b <;> decide) (by decide)⟩,?_⟩
      cases b with
      | true=>exact hT _ x4 x5 x6 (t1 rfl)
      | false=>exact hT _ x4 x5 x6 (t2 rfl)
    have S2:=S (decide (1<a.2)) (fun _=>.one) (fun z=>.inr ⟨by have:=of_decide_eq_false z;omega,rfl⟩)
    refine⟨_,rfl,?_⟩
    refine⟨⟨b1',Xo⟩,l1,⟨b2',Xo⟩,l2,?_⟩
    refine⟨⟨b1',Xo⟩,⟨by decide,by decide,by decide⟩,bF (fun e=>?_) fun e=>⟨⟨b2',Xo⟩,bF (fun e2=>?_) fun e2=>?_⟩⟩
    · exact⟨l3,l4,S2 _ _ _⟩
    · exact⟨l3,l4,S2 _ _ _⟩
    · exact hT _ _ _ _ (.inl ⟨k,k1,k3,rfl⟩)
  exact key _ fun w x4 x5 x6 hw=>qi (Nat.le_trans hw.len (by decide)) hc fun ws hb=>q ws ⟨w,hw,hb⟩
theorem GP{b:Bool}:-(2 ^ 63)<=Ku b/\Ku b<2 ^ 63/\1*(Ku b).toNat<=sizeLine:=by cases b <;> decide
theorem Np{Cr:Ct}{n:Str}{ks:List Str}{l:Nat}{c:Int}{Q:yh Sl->Prop}(hl:ks.length<=2)(hc:Ax c)(q:∀ ws,Row (.ent n ks) l ws->Q (.ok (.va (.lst (ws.map Tv.str))))):
    fU Cr [.va (km (.ent n ks)),.va (.int l),.va (.int c),.va (.int ((4:Nat):Int)),.un,.un,.un,.un,.un,.un,.un] (bg Q):=by
  have key:∀ T:Sv,(∀ x8 x9,T [.va (km (.ent n ks)),.va (.int l),.va (.int c),.va (.int ((4:Nat):Int)),.un,.un,.un,.va (.lst ((n::d6 ks).map Tv.str)),x8,x9,.un] (bg Q))->aE (gv Cr) T [.va (km (.ent n ks)),.va (.int l),.va (.int c),.va (.int ((4:Nat):Int)),.un,.un,.un,.un,.un,.un,.un] (bg Q):=by
    intro T hT
    match ks,hl,hT with
    | [],_,hT=>exact .inr (.inr ⟨rfl,GP,aJ rfl,hT _ _⟩)
    | [k],_,hT=>exact⟨_,rfl,aJ rfl,.inr (.inr ⟨rfl,GP,aJ rfl,hT _ _⟩)⟩
    | [k,j],_,hT=>exact⟨_,rfl,aJ rfl,_,rfl,aJ rfl,.inr (.inr ⟨rfl,GP,aJ rfl,hT _ _⟩)⟩
  refine key _ fun x8 x9=>qi (Nat.le_trans (?_:_<=6) (by decide)) hc fun ws hb=>q ws hb
  have:=yL hl
  rw[List.length_cons];omega
theorem ie{n m:Nat}(h:n+m<=5000):n+m<=sizeLine:=Nat.le_of_lt (d3 (by omega))
theorem Oi{n:Nat}{t:ir}{σ l:Nat}{c:Int}{Q:yh Sl->Prop}(hd:dp t<=n)(hn:n<=6)(hk:TK σ t)(hc:Ax c)(q:∀ ws,Row (.neg t) l ws->Q (.ok (.va (.lst (ws.map Tv.str))))):
    fU (c8 n) [.va (km (.neg t)),.va (.int l),.va (.int c),.va (.int ((3:Nat):Int)),.un,.un,.un,.un,.un,.un,.un] (bg Q):=by
  have key:∀ T:Sv,(∀ w,Row t 3 w->T [.va (km (.neg t)),.va (.int l),.va (.int c),.va (.int ((3:Nat):Int)),.un,.un,.un,.va (.lst ((("-":Str)::w).map Tv.str)),.un,.un,.un] (bg Q))->aE (gv (c8 n)) T [.va (km (.neg t)),.va (.int l),.va (.int c),.va (.int ((3:Nat):Int)),.un,.un,.un,.un,.un,.un,.un] (bg Q):=by
    intro T hT
    refine⟨c,6,rfl,hc,⟨by decide,by decide⟩,fun m a1 b1=>⟨t,3,m,σ,rfl,hd,hn,by decide,hk,wG a1 b1,fun w hw=>⟨?_,hT w hw⟩⟩⟩
    have:=Row.xc hd hn hk hw
    exact ie (n:=1) (by rw[List.length_map];omega)
  exact key _ fun w hw=>qi (by have:=Row.xc hd hn hk hw;rw[List.length_cons];omega) hc fun ws hb=>q ws ⟨w,hw,hb⟩
theorem OI{n:Nat}{b g:Str}{t:ir}{σ l:Nat}{c:Int}{Q:yh Sl->Prop}(hd:dp t<=n)(hn:n<=6)(hk:TK σ t)(hc:Ax c)(q:∀ ws,Row (.sum b g t) l ws->Q (.ok (.va (.lst (ws.map Tv.str))))):
    fU (c8 n) [.va (km (.sum b g t)),.va (.int l),.va (.int c),.va (.int ((4:Nat):Int)),.un,.un,.un,.un,.un,.un,.un] (bg Q):=by
  have key:∀ T:Sv,(∀ w,Row t 1 w->T [.va (km (.sum b g t)),.va (.int l),.va (.int c),.va (.int ((4:Nat):Int)),.un,.un,.un,.va (.lst ((("sum":Str)::"("::b::"in"::g::","::(w++[(")":Str)])).map Tv.str)),.un,.un,.un] (bg Q))->aE (gv (c8 n)) T [.va (km (.sum b g t)),.va (.int l),.va (.int c),.va (.int ((4:Nat):Int)),.un,.un,.un,.un,.un,.un,.un] (bg Q):=by
    intro T hT
    refine⟨c,6,rfl,hc,⟨by decide,by decide⟩,fun m a1 b1=>⟨t,1,m,σ,rfl,hd,hn,by decide,hk,wG a1 b1,fun w hw=>?_⟩⟩
    have hl:=Row.xc hd hn hk hw
    have hT:=hT w hw
    simp only [List.map_cons,List.map_append,List.map_nil] at hT
    exact⟨ie (n:=6) (by rw[List.length_map];omega),ie (m:=1) (by rw[List.length_append,List.length_map];show 6+_+1<=_;omega),hT⟩
  exact key _ fun w hw=>qi (by have:=Row.xc hd hn hk hw;simp only [List.length_cons,List.length_append,List.length_nil];omega) hc fun ws hb=>q ws ⟨w,hw,hb⟩
theorem L4:∀ b:Fin 3,sj b≠"number"/\sj b≠"entry"/\sj b≠"sum"/\sj b≠"negative"
  | 0=>by decide
  | 1=>by decide
  | 2=>by decide
theorem Ni{n:Nat}{b:Fin 3}{x y:ir}{σ l:Nat}{c:Int}{Q:yh Sl->Prop}(h1:dp x<=n)(h2:dp y<=n)(hn:n<=6)(hx:TK σ x)(hy:TK σ y)(hc:Ax c)(q:∀ ws,Row (.bin b x y) l ws->Q (.ok (.va (.lst (ws.map Tv.str))))):
    fU (c8 n) [.va (km (.bin b x y)),.va (.int l),.va (.int c),.va (.int ((J3 b:Nat):Int)),.un,.un,.un,.un,.un,.un,.un] (bg Q):=by
  have key:∀ T:Sv,(∀ u v,Row x (J3 b) u->Row y (J3 b+1) v->T [.va (km (.bin b x y)),.va (.int l),.va (.int c),.va (.int ((J3 b:Nat):Int)),.un,.un,.un,.va (.lst ((u++markB b::v).map Tv.str)),.un,.un,.va (.str (markB b))] (bg Q))->aE (gv (c8 n)) T [.va (km (.bin b x y)),.va (.int l),.va (.int c),.va (.int ((J3 b:Nat):Int)),.un,.un,.un,.un,.un,.un,.un] (bg Q):=by
    intro T hT
    obtain⟨n1,n2,n3,n4⟩:=L4 b
    have hb:J3 b<=2:=by
      match b with
      | 0=>decide
      | 1=>decide
      | 2=>decide
    refine bF (fun e=>absurd (of_decide_eq_true e) n1) fun _=>bF (fun e=>absurd (of_decide_eq_true e) n2) fun _=>bF (fun e=>absurd (of_decide_eq_true e) n3) fun _=>bF (fun e=>absurd (of_decide_eq_true e) n4) fun _=>?_
    refine i_ (Qk b) ?_
    refine⟨c,6,rfl,hc,⟨by decide,by decide⟩,fun m a1 b1=>⟨x,J3 b,m,σ,rfl,h1,hn,by omega,hx,wG a1 b1,fun u hu=>?_⟩⟩
    have lu:=Row.xc h1 hn hx hu
    refine⟨ie (m:=1) (by rw[List.length_map];omega),?_⟩
    refine⟨c,7,rfl,hc,⟨by decide,by decide⟩,fun m2 a2 b2=>⟨y,J3 b+1,m2,σ,rfl,h2,hn,by omega,hy,wG a2 b2,fun v hv=>?_⟩⟩
    have lv:=Row.xc h2 hn hy hv
    have hT:=hT u v hu hv
    have e:(u++markB b::v).map Tv.str=u.map Tv.str++[Tv.str (markB b)]++v.map Tv.str:=by simp
    rw[e] at hT
    exact⟨ie (by rw[List.length_append,List.length_map,List.length_map];show _+1+_<=_;omega),hT⟩
  exact key _ fun u v hu hv=>qi (by have:=Row.xc h1 hn hx hu;have:=Row.xc h2 hn hy hv;rw[List.length_append,List.length_cons];omega) hc fun ws hb=>q ws ⟨u,v,hu,hv,hb⟩
theorem pU{Cr:Ct}{h:Str}{tt:List Tv}{l c:Int}{k:Int}{Q:yh Sl->Prop}(hx:vg tt 0=some (.str h))(hv:(uC Rq (Sum.inr h)).getD (.int 4)=.int k)(g:fU Cr [.va (.tup tt),.va (.int l),.va (.int c),.va (.int k),.un,.un,.un,.un,.un,.un,.un] (bg Q)):
    oC Cr [.va (.tup tt),.va (.int l),.va (.int c),.un,.un,.un,.un,.un,.un,.un,.un] (bg Q):=by
  have key:∀ T:Sv,T [.va (.tup tt),.va (.int l),.va (.int c),.va ((uC Rq (Sum.inr h)).getD (.int 4)),.un,.un,.un,.un,.un,.un,.un] (bg Q)->aE (rW Cr) T [.va (.tup tt),.va (.int l),.va (.int c),.un,.un,.un,.un,.un,.un,.un,.un] (bg Q):=fun T hT=>i_ hx hT
  exact key _ (by rw[hv];exact g)
theorem AD(n:Nat):∀ ts Q,c8 (n+1) ts Q->fu 11 (oC (c8 n)) ts Q:=by
  rintro ts Q ⟨t,l,c,σ,rfl,hd,hn,hl,hk,hc,q⟩
  show oC (c8 n) [.va (km t),.va (.int l),.va (.int c),.un,.un,.un,.un,.un,.un,.un,.un] (bg Q)
  cases t with
  | num a=>exact pU rfl Q0 (Oq (by cases σ <;> exact hk) hc q)
  | ent x ks=>
    have hk:Nw x/\ks.length<=2/\∀ k∈ks,Nw k:=by cases σ <;> exact hk
    exact pU rfl QC (Np hk.2.1 hc q)
  | neg t=>
    have e:dp (.neg t)=1+dp t:=rfl
    exact pU rfl SR (Oi (σ:=σ) (by omega) (by omega) (by cases σ <;> exact hk) hc q)
  | bin b x y=>
    have hk:TK σ x/\TK σ y:=by cases σ <;> exact hk
    have e:dp (.bin b x y)=1+max (dp x) (dp y):=rfl
    exact pU rfl (Tn b) (Ni (by omega) (by omega) (by omega) hk.1 hk.2 hc q)
  | sum b g t=>
    have e:dp (.sum b g t)=1+dp t:=rfl
    cases σ with
    | zero=>exact hk.elim
    | succ s=>exact pU rfl So (OI (by omega) (by omega) hk.2.2 hc q)
theorem wK(A:dS K mg)(B:pP mg):∀ n,aQ P w K mg base (iP P w) (6+n) A.sr A.tE ["_law_tree_here","_law_least","_law_cell"] (sN K (c8 n))
  | 0=>aQ.none fun _ _ ⟨t,_,_,_,_,h,_⟩=>absurd (lR t) (by omega)
  | n+1=>by
    have ih:=wK A B n
    exact i7 A.bz.F bq (oC (c8 n)) (De n) (AD n) fun c9 A_ outer s H E hr=>have hu:=hr.units
      ah (aD (i:=3) bq.nd rfl (Or.inl dH) (QJ (hu1 hu) (OC (kvs:=([("plus",1),("minus",1),("times",2),("negative",3)]:List (Str×Int))) (lF fR mO (lF fR mO (lF fR mO (lF fR mO (Jg))))) (by decide +kernel) (by decide) (h15:=aJ rfl)) (d9 (d_ rfl) (v_var (i:=0) rfl (Or.inl ar)) (au) (fun _ _=>rfl)) (au) ⟨rfl,rfl,rfl,rfl⟩))
        (ah (cM (aZ (k9 rfl hu) (d9 (d_ rfl) (v_var (i:=0) rfl (Or.inl ar)) (au) (fun _ _=>rfl)) (aq) (aL _)) (ah (aD (i:=4) bq.nd rfl (Or.inl cR) (d9 (d_ rfl) (bj (hz:=aJ rfl) (aa (au) (aa (au) (aa (au) (aa (au) ae))))) (cN (ef (aT rfl (cG A B) (hr.mono (by show _<=6+n;omega)) bT A.ay.m A.ay.F.kp A.ay.b af (ai (v_var (i:=2) rfl (Or.inl b9)) (aa (au) ae))))) (fun _ _=>rfl)))
        (ah (MB (d9 (d_ rfl) (v_var (i:=0) rfl (Or.inl ar)) (au) (fun _ _=>rfl)) (Dj rfl rfl (nh (i:=5) bq.nd rfl (Or.inl eO) (.inl rfl) (nh (i:=6) bq.nd rfl (Or.inl cu) (.inl rfl) (Cy)))) (Hj rfl))
        (ah (aD (i:=7) bq.nd rfl (Or.inl aB) (bj (hz:=aJ rfl) (aM (kI IB iM B.str Cn (bQ (bI mm (v_var (i:=5) rfl (Or.inl eO)) (v_var (i:=4) rfl (Or.inl cR))) ae)) (aa (aq) (aM (kI IB iM B.str Cn (bQ (bI mm (v_var (i:=6) rfl (Or.inl cu)) (v_var (i:=4) rfl (Or.inl cR))) ae)) ae)))))
        (av (cM (PW.pt (rL (aZ YZ (bI mm (v_var (i:=5) rfl (Or.inl eO)) (v_var (i:=4) rfl (Or.inl cR))) (bI Ph (au) (au)) (aL _)) (vY (aZ (k9 rfl hu) (bI mm (v_var (i:=6) rfl (Or.inl cu)) (v_var (i:=4) rfl (Or.inl cR))) (au) (aL _))))) (av (aD (i:=7) bq.nd rfl (Or.inl aB) (MM rfl (bj (hz:=aJ rfl) (aM (kI IB iM B.str Cn (ai (v_var (i:=5) rfl (Or.inl eO)) ae)) (aa (aq) (aM (kI IB iM B.str Cn (ai (v_var (i:=6) rfl (Or.inl cu)) ae)) ae)))) (bI (cn rfl) (au) (bI mm (au) (kI Bt o4 B.int tF (lY (wV Nd (v_var (i:=6) rfl (Or.inl cu)) (au) (aL _)) ae))))))) (cg)))))) (av (cM (aZ (k9 rfl hu) (d9 (d_ rfl) (v_var (i:=0) rfl (Or.inl ar)) (au) (fun _ _=>rfl)) (aq) (aL _)) (ah (aD (i:=7) bq.nd rfl (Or.inl aB) (bj (hz:=aJ rfl) (aN (d9 (d_ rfl) (v_var (i:=0) rfl (Or.inl ar)) (au) (fun _ _=>rfl)) ae)))
        (ah (sI jj rfl (LY rfl pE B.enumerate (aN (d9 (d_ rfl) (v_var (i:=0) rfl (Or.inl ar)) (au) (fun _ _=>rfl)) ae)) (Dj rfl rfl (nh (i:=8) bq.nd rfl (Or.inl lL) (.inl rfl) (nh (i:=9) bq.nd rfl (Or.inl j_) (.inl rfl) (Cy)))) (Hj rfl) (av (aD (i:=7) bq.nd rfl (Or.inl aB) (bI (cn rfl) (v_var (i:=7) rfl (Or.inl aB)) (bj (hz:=aJ rfl) (aN (d9 (d_ rfl) (bj (hz:=aJ rfl) (aa (aq) (aa (aq) ae))) (v_var (i:=8) rfl (Or.inl lL)) (fun _ _=>rfl)) (ai (v_var (i:=9) rfl (Or.inl j_)) ae)))))))
        (av (aD (i:=7) bq.nd rfl (Or.inl aB) (bI (cn rfl) (v_var (i:=7) rfl (Or.inl aB)) (bI mm (bj (hz:=aJ rfl) (aa (aq) ae)) (kI Bt o4 B.int tF (lY (wV (Hr rfl hu) (d9 (d_ rfl) (v_var (i:=0) rfl (Or.inl ar)) (au) (fun _ _=>rfl)) (cy ae) (aL _)) ae)))))))) (av (cM (aZ (k9 rfl hu) (d9 (d_ rfl) (v_var (i:=0) rfl (Or.inl ar)) (au) (fun _ _=>rfl)) (aq) (aL _)) (av (aD (i:=7) bq.nd rfl (Or.inl aB) (bI (cn rfl) (bI (cn rfl) (bj (hz:=aJ rfl) (aa (aq) (aa (aq) (aN (d9 (d_ rfl) (v_var (i:=0) rfl (Or.inl ar)) (au) (fun _ _=>rfl)) (aa (aq) (aN (d9 (d_ rfl) (v_var (i:=0) rfl (Or.inl ar)) (au) (fun _ _=>rfl)) (aa (aq) ae))))))) (aT rfl ih hr du A.bz.m A.bz.F.kp A.bz.b af (aN (d9 (d_ rfl) (v_var (i:=0) rfl (Or.inl ar)) (au) (fun _ _=>rfl)) (aa (au) (aM (aT rfl (cG A B) (hr.mono (by show _<=6+n;omega)) bT A.ay.m A.ay.F.kp A.ay.b af (ai (v_var (i:=2) rfl (Or.inl b9)) (aa (au) ae))) ae))))) (bj (hz:=aJ rfl) (aa (aq) ae))))) (av (cM (aZ (k9 rfl hu) (d9 (d_ rfl) (v_var (i:=0) rfl (Or.inl ar)) (au) (fun _ _=>rfl)) (aq) (aL _)) (av (aD (i:=7) bq.nd rfl (Or.inl aB) (bI (cn rfl) (bj (hz:=aJ rfl) (aa (aq) ae)) (aT rfl ih hr du A.bz.m A.bz.F.kp A.bz.b af (aN (d9 (d_ rfl) (v_var (i:=0) rfl (Or.inl ar)) (au) (fun _ _=>rfl)) (aa (au) (aM (aT rfl (cG A B) (hr.mono (by show _<=6+n;omega)) bT A.ay.m A.ay.F.kp A.ay.b af (ai (v_var (i:=2) rfl (Or.inl b9)) (aa (au) ae))) ae))))))) (ah (aD (i:=10) bq.nd rfl (Or.inl jz) (WS (hu1 hu) (Sz (kvs:=([("plus","+"),("minus","-"),("times","*")]:List (Str×Str))) (lF fR fR (lF fR fR (lF fR fR (Jg)))) (by decide +kernel) (by decide) (h15:=aJ rfl)) (d9 (d_ rfl) (v_var (i:=0) rfl (Or.inl ar)) (au) (fun _ _=>rfl)) (fun _ _=>rfl)))
        (ah (aD (i:=7) bq.nd rfl (Or.inl aB) (bI (cn rfl) (aT rfl ih hr du A.bz.m A.bz.F.kp A.bz.b af (aN (d9 (d_ rfl) (v_var (i:=0) rfl (Or.inl ar)) (au) (fun _ _=>rfl)) (ai (v_var (i:=3) rfl (Or.inl dH)) (aM (aT rfl (cG A B) (hr.mono (by show _<=6+n;omega)) bT A.ay.m A.ay.F.kp A.ay.b af (ai (v_var (i:=2) rfl (Or.inl b9)) (aa (au) ae))) ae)))) (bj (hz:=aJ rfl) (ai (v_var (i:=10) rfl (Or.inl jz)) ae))))
        (av (aD (i:=7) bq.nd rfl (Or.inl aB) (bI (cn rfl) (v_var (i:=7) rfl (Or.inl aB)) (aT rfl ih hr du A.bz.m A.bz.F.kp A.bz.b af (aN (d9 (d_ rfl) (v_var (i:=0) rfl (Or.inl ar)) (au) (fun _ _=>rfl)) (bQ (bI (cn rfl) (v_var (i:=3) rfl (Or.inl dH)) (au)) (aM (aT rfl (cG A B) (hr.mono (by show _<=6+n;omega)) bT A.ay.m A.ay.F.kp A.ay.b af (ai (v_var (i:=2) rfl (Or.inl b9)) (aa (au) ae))) ae))))))))))))))))
        (ah (cM (PW.pt (rL (aZ Ml (v_var (i:=3) rfl (Or.inl dH)) (v_var (i:=1) rfl (Or.inl ot)) (aL _)) (vY (aZ (k9 rfl hu) (cN (ef (aT rfl (cG A B) (hr.mono (by show _<=6+n;omega)) bT A.ay.m A.ay.F.kp A.ay.b af (ai (v_var (i:=2) rfl (Or.inl b9)) (aa (au) ae))))) (au) (aL _))))) (av (a_ (bI (cn rfl) (bI (cn rfl) (bj (hz:=aJ rfl) (aa (aq) ae)) (v_var (i:=7) rfl (Or.inl aB))) (bj (hz:=aJ rfl) (aa (aq) ae))))) (cg))
        (av (a_ (v_var (i:=7) rfl (Or.inl aB))))))
end
end Pw
namespace Pw
open PySem L2
seal PE PT PW PA PS ju PG sg PI rA PO PJ
section
variable {P:Program} {w:World} {K:PySem.W.Frag} {mg:Str->Option Value} {base:Heap} {f:Addr} {fd:FuncData}
theorem OR:bootBuiltins "ValueError"=some (.type "ValueError"):=by decide +kernel
def Wm(CB:Addr):Sp:=fun vs H Q _=>∃ ea:Addr,vs=[.ref ea]/\H ea=some (.ext (pX ea CB))/\Q (.bl true) H
theorem Fc:aA ["_law_e"] ["_law_e"] (ak cE):=⟨rfl,rfl,rfl,by decide +kernel,rfl,by decide +kernel,by decide +kernel⟩
theorem bw:Lk cE "_law_e" .local:=by decide +kernel
theorem qZ:Lk cE "BadEnds" .globalImplicit:=by decide +kernel
theorem mS:Lk cE "BadFraction" .globalImplicit:=by decide +kernel
theorem rC:Lk cE "BadGoal" .globalImplicit:=by decide +kernel
theorem qU:Lk cE "BadName" .globalImplicit:=by decide +kernel
theorem pH:Lk cE "BadTable" .globalImplicit:=by decide +kernel
theorem rf:Lk cE "BadText" .globalImplicit:=by decide +kernel
theorem pC:Lk cE "NotLinear" .globalImplicit:=by decide +kernel
theorem qX:Lk cE "TooMany" .globalImplicit:=by decide +kernel
theorem oN:Lk cE "ValueError" .globalImplicit:=by decide +kernel
theorem aR:Lk cE "isinstance" .globalImplicit:=by decide +kernel
theorem Eb(A:dS K mg)(B:pP mg):M5 P w K mg base 1 A.sM A.tf ["_law_e"] (Wm A.cB):=by
  refine A.iS.F.okH Fc (fun vs H Q E h=>?_) (fun c9 A' outer s H vs Q hr h=>?_)
  · obtain⟨ea,rfl,_⟩:=h
    rfl
  obtain⟨ea,rfl,he,q⟩:=h
  refine⟨_,cF (Ag (PW.pt (BE (qa (fm (jl (K:=K) rfl) aR B.isinstance bR (dk (pv 0 rfl (Or.inl bw)) (dk (jP (v:=.ref A.c2) mS A.X.m2 rfl) cD)))) (BE (qa (fm (jl (K:=K) rfl) aR B.isinstance bR (dk (pv 0 rfl (Or.inl bw)) (dk (jP (v:=.ref A.c6) pC A.X.m6 rfl) cD)))) (BE (qa (fm (jl (K:=K) rfl) aR B.isinstance bR (dk (pv 0 rfl (Or.inl bw)) (dk (jP (v:=.ref A.c4) qU A.X.m4 rfl) cD)))) (G9 (qa (fm (jl (K:=K) rfl) aR B.isinstance bR (dk (pv 0 rfl (Or.inl bw)) (dk (jP (v:=.ref A.c5) pH A.X.m5 rfl) cD))))))))) (cz (lJ (Jp))) (ou))
    (cF (Ag (PW.pt (BE (qa (fm (jl (K:=K) rfl) aR B.isinstance bR (dk (pv 0 rfl (Or.inl bw)) (dk (jP (v:=.ref A.c1) qZ A.X.m1 rfl) cD)))) (BE (qa (fm (jl (K:=K) rfl) aR B.isinstance bR (dk (pv 0 rfl (Or.inl bw)) (dk (jP (v:=.ref A.c3) rC A.X.m3 rfl) cD)))) (G9 (qa (fm (jl (K:=K) rfl) aR B.isinstance bR (dk (pv 0 rfl (Or.inl bw)) (dk (jP (v:=.ref A.c7) qX A.X.m7 rfl) cD)))))))) (cz (lJ (Jp))) (ou))
    (cz (lJ (KG (fm (jl (K:=K) rfl) aR B.isinstance bR (dk (pv 0 rfl (Or.inl bw)) (dk (jP (v:=.ref A.cB) rf A.X.mb rfl) cD))) (KS (fm (jl (K:=K) rfl) aR B.isinstance bR (dk (pv 0 rfl (Or.inl bw)) (dk (Ih (v:=.ty "ValueError") oN A.X.ve OR rfl) cD)))))))),?_⟩
  refine⟨_,rfl,.ref ea,.ref A.c2,.ref A.cB,false,rfl,rfl,.exc he A.X.lk A.X.cl,A.X.n2,false,rfl,HJ ?_⟩
  refine⟨_,rfl,.ref ea,.ref A.c6,.ref A.cB,false,rfl,rfl,.exc he A.X.lk A.X.cl,A.X.n6,false,rfl,HJ ?_⟩
  refine⟨_,rfl,.ref ea,.ref A.c4,.ref A.cB,false,rfl,rfl,.exc he A.X.lk A.X.cl,A.X.n4,false,rfl,HJ ?_⟩
  refine⟨_,rfl,.ref ea,.ref A.c5,.ref A.cB,false,rfl,rfl,.exc he A.X.lk A.X.cl,A.X.n5,false,rfl,HJ ?_⟩
  refine⟨_,rfl,.ref ea,.ref A.c1,.ref A.cB,false,rfl,rfl,.exc he A.X.lk A.X.cl,A.X.n1,false,rfl,HJ ?_⟩
  refine⟨_,rfl,.ref ea,.ref A.c3,.ref A.cB,false,rfl,rfl,.exc he A.X.lk A.X.cl,A.X.n3,false,rfl,HJ ?_⟩
  refine⟨_,rfl,.ref ea,.ref A.c7,.ref A.cB,false,rfl,rfl,.exc he A.X.lk A.X.cl,A.X.n7,false,rfl,HJ ?_⟩
  refine⟨_,rfl,.ref ea,.ref A.cB,.ref A.cB,true,rfl,rfl,.exc he A.X.lk A.X.cl,A.X.me,true,rfl,Sh ?_⟩
  exact⟨_,rfl,.ref ea,.ty "ValueError",.ref A.cB,true,rfl,rfl,.exc he A.X.lk A.X.cl,A.X.va,q⟩
def p9(cc:Kd->Addr)(cB:Addr):Ct:=fun ts P=>∃ m W p r p',ts=[.lst (W.map Tv.str),.int (p:Nat)]/\m<=140/\Rd W m .term 0 0 p r p'/\match r with | some t=>P (.ok (.va (.tup [enc cc t,.int (p':Nat)]))) | none=>P (.ok (.va .non))
theorem Gn{cc:Kd->Addr}{cB:Addr}:∀ ts Q,p9 cc cB ts Q->ts.length=2:=fun ts Q ⟨_,_,_,_,_,e,_⟩=>by rw[e];rfl
theorem Bj:aA ["_law_row","_law_at_here","_law_e"] ["_law_row","_law_at_here"] (ak kl):=⟨rfl,rfl,rfl,by decide +kernel,rfl,by decide +kernel,by decide +kernel⟩
theorem sT:Lk kl "_law_row" .local:=by decide +kernel
theorem oF:Lk kl "_law_at_here" .local:=by decide +kernel
theorem wq:Lk kl "_law_e" .local:=by decide +kernel
theorem pF:Lk kl "_law_is_bad" .globalImplicit:=by decide +kernel
theorem uR:Lk kl "term_of" .globalImplicit:=by decide +kernel
theorem vO(A:dS K mg)(B:pP mg):aQ P w K mg base (iP P w) 212 A.zo A.yX ["_law_row","_law_at_here"] (sN K (p9 A.c A.cB)):=by
  refine A.fB.F.okX Bj (fun vs H Q E ⟨p,ts,P,u,h2,r,c,_⟩=>by rw[r.len];exact Gn ts _ c) (fun c9 A' outer s H vs Q E hr h=>?_)
  obtain⟨p,ts,P',u,h2,r,⟨m,W,yi,rr,at1,rfl,hm,hR,hP⟩,cQ,her⟩:=h
  obtain⟨x,y,rfl,r1,r2⟩:=Cj r
  have nd:=Bj.nd
  refine⟨_,cz (Rx (i:=2) (n:="_law_e") (CP:=A.cP) rfl rfl rfl nd rfl rfl rfl A.X.mp A.X.ep (fun pn xe E hp=>cz (lJ (lH (Hh A B) hr uR A.jF.m A.jF.F.kp A.jF.b .nil hp (dk (pv 0 rfl (Or.inl sT)) (dk (pv 1 rfl (Or.inl oF)) cD))))) (fun pn ea=>cz (lJ (F3 (qa (Mx (Eb A B) ((hr.h.mono (by decide)).mark _) pF A.iS.m A.iS.F.kp A.iS.b .nil (dk (pv 2 rfl (Or.inl wq)) cD))) (LN) (Jp))))),?_⟩
  refine⟨_,rfl,_,rfl,p,_,fun a=>match a with | .ok s=>P' (.ok s) | .er c=>c=A.cB/\P' (.ok (.va .non)),u,h2,r,⟨m,W,yi,rr,at1,rfl,hm,hR,?_⟩,fun s0 q=>cQ s0 q,fun c q p2 H2 g2 u2 h3=>?_⟩
  · cases rr with
    | none=>exact⟨rfl,hP⟩
    | some t=>exact hP
  · obtain⟨rfl,q⟩:=q
    refine⟨A.cB,rfl,A.X.eb,A.X.mro,fun ea hea=>?_⟩
    refine⟨_,rfl,ea,rfl,aH,true,rfl,?_⟩
    have s0:bP (p2 0) (upd (p2 0) ea (.ext (pX ea A.cB))):=fun c o' e=>by rw[aI (aU e (u2.fresh hea 0))];exact e
    exact cQ _ q _ _ _ (g2.trans (jv s0)) (u2.alloc hea 0 _) (fun j hj=>by rw[aj (by omega)];exact h3 j (by omega)) ⟨by rw[aj (by decide)];exact h3 2 (by decide),_,rfl,d7.mpr rfl⟩
end
end Pw
namespace Pw
open PySem L2
seal PE PT PW PA PS ju PG sg PI rA PO PJ
section
variable {P:Program} {w:World} {K:PySem.W.Frag} {mg:Str->Option Value} {base:Heap} {f:Addr} {fd:FuncData}
def N3(c:Kd->Addr)(n:Addr):Addr->Addr->Bool->Prop:=fun C B b=>Gb c C/\B=n/\b=true
theorem dS.N3(A:dS K mg):∀ C B b,Pw.N3 A.c A.cT C B b->Lp K C/\PySem.W.kitOne K (.ref C) (.ref B)=some b:=fun C B b ⟨⟨k,e1⟩,e2,e3⟩=>by subst e1 e2 e3;exact A.isi k
theorem D_:∀ (ks:List Str) (n:Nat),jo n (ks.map Tv.str)=true
  | [],n=>by unfold jo;rfl
  | k::ks,n=>by
    rw[List.map_cons]
    unfold jo
    rw[D_ ks n]
    cases n <;> rfl
theorem uy:∀ (t:ir) (n:Nat),dp t<=n->jo n (ud t)=true
  | t,0,h=>absurd h (by have:=lR t;omega)
  | .num a,n+1,_=>by
    show (An (n+1) (.str "number")&&(An (n+1) (Kk a)&&jo (n+1) []))=true
    cases n <;> rfl
  | .ent x ks,n+1,_=>by
    show (An (n+1) (.str "entry")&&(An (n+1) (.str x)&&(An (n+1) (y9 ks)&&jo (n+1) [])))=true
    have e:An (n+1) (y9 ks)=true:=by show jo n (ks.map Tv.str)=true;exact D_ ks n
    rw[e];rfl
  | .neg t,n+1,h=>by
    have e:jo n (ud t)=true:=uy t n (by have:dp (.neg t)=1+dp t:=rfl;omega)
    show (An (n+1) (.str "negative")&&(jo n (ud t)&&jo (n+1) []))=true
    rw[e];rfl
  | .bin w a b,n+1,h=>by
    have d:dp (.bin w a b)=1+max (dp a) (dp b):=rfl
    have e:jo n (ud a)=true:=uy a n (by omega)
    have e2:jo n (ud b)=true:=uy b n (by omega)
    show (An (n+1) (.str (sj w))&&(jo n (ud a)&&(jo n (ud b)&&jo (n+1) [])))=true
    rw[e,e2];rfl
  | .sum x g t,n+1,h=>by
    have e:jo n (ud t)=true:=uy t n (by have:dp (.sum x g t)=1+dp t:=rfl;omega)
    show (An (n+1) (.str "sum")&&(An (n+1) (.str x)&&(An (n+1) (.str g)&&(jo n (ud t)&&jo (n+1) []))))=true
    rw[e];rfl
theorem yj:∀ W:List Str,(W.map Tv.str).all lC=true
  | []=>rfl
  | w::W=>by rw[List.map_cons,List.all_cons,yj W];rfl
theorem BF:∀ W:List Str,Ek (W.map Tv.str) (W.map Tv.str)=true
  | []=>rfl
  | w::W=>by
    rw[List.map_cons]
    have e:=BF W
    show (_&&_)=true
    rw[e,Bool.and_true]
    exact beq_self_eq_true w
def B_(cc:Kd->Addr)(cC cB cT:Addr):Sv:=f_ (Ma (eK UM (sf (DM cc (CM cc km 61)) "told" (ck lj (ag 6) (vC (.int 0))) []) (ag 2)) (Ma (eK Pe (ck lj (ag 6) (vC (.int 1))) (ag 3)) (j' pf (rh Th [ck lj (ag 6) (vC (.int 1)),vC (.ty "bool")])))) (gk (vC (.bl false))) (dc)
def A1(cc:Kd->Addr)(cC cB cT:Addr):Sv:=f_ (Ma (Dh (j' pf (rh Th [ag 6,vC (.ty "tuple")]))) (Ma (eK Pe (rh yR [ag 6]) (vC (.int 2))) (Ma (Dh (j' pf (rh (Pf (N3 cc cT)) [ck lj (ag 6) (vC (.int 0)),vC (.cls cT)]))) (eK Pe (ag 4) (ag 0))))) (gk (vC (.bl false))) (dc)
def CW(cc:Kd->Addr)(cC cB cT:Addr):Sv:=aE (A1 cc cC cB cT) (B_ cc cC cB cT)
def AY(cc:Kd->Addr)(cC cB cT:Addr):Sv:=bM 6 (bB (p9 cc cB) [ag 4,ag 1])
def Dm(cc:Kd->Addr)(cC cB cT:Addr):Sv:=aE (AY cc cC cB cT) (CW cc cC cB cT)
def EZ(cc:Kd->Addr)(cC cB cT:Addr):Sv:=gk (vC (.bl true))
def CL(cc:Kd->Addr)(cC cB cT:Addr):Sv:=FT (EO (vC (.int 2))) (gV 5) ((Dm cc cC cB cT))
def Ez(cc:Kd->Addr)(cC cB cT:Addr):Sv:=aE (CL cc cC cB cT) (EZ cc cC cB cT)
def Dv(cc:Kd->Addr)(cC cB cT:Addr):Sv:=bM 4 (rh Ja [ag 0])
def Bi(cc:Kd->Addr)(cC cB cT:Addr):Sv:=
  aE (Dv cc cC cB cT) (Ez cc cC cB cT)
def mY(cc:Kd->Addr)(cC cB cT:Addr):Ct:=fun ts P=>∃ m W p t p',ts=[.lst (W.map Tv.str),.int (p:Nat),km t,.int (p':Nat)]/\m<=140/\Rd W m .term 0 0 p (some t) p'/\dp t<=60/\P (.ok (.va (.bl true)))
theorem oB:aA ["_law_row","_law_at_here","_law_tree_here","_law_end","_law_handed","_law_turn","_law_found"] ["_law_row","_law_at_here","_law_tree_here","_law_end"] (ak b_):=⟨rfl,rfl,rfl,by decide +kernel,rfl,by decide +kernel,by decide +kernel⟩
theorem kE:Lk b_ "_law_row" .local:=by decide +kernel
theorem nv:Lk b_ "_law_at_here" .local:=by decide +kernel
theorem l_:Lk b_ "_law_tree_here" .local:=by decide +kernel
theorem rq:Lk b_ "_law_end" .local:=by decide +kernel
theorem gb:Lk b_ "_law_handed" .local:=by decide +kernel
theorem qm:Lk b_ "_law_turn" .local:=by decide +kernel
theorem bG:Lk b_ "_law_found" .local:=by decide +kernel
theorem xl:Lk b_ "Term" .globalImplicit:=by decide +kernel
theorem p6:Lk b_ "_law_told" .globalImplicit:=by decide +kernel
theorem xm:Lk b_ "bool" .globalImplicit:=by decide +kernel
theorem gx:Lk b_ "isinstance" .globalImplicit:=by decide +kernel
theorem zN:Lk b_ "len" .globalImplicit:=by decide +kernel
theorem xv:Lk b_ "list" .globalImplicit:=by decide +kernel
theorem wd:Lk b_ "range" .globalImplicit:=by decide +kernel
theorem vJ:Lk b_ "tuple" .globalImplicit:=by decide +kernel
theorem DS{cc:Kd->Addr}{cC cB cT:Addr}:∀ ts Q,mY cc cC cB cT ts Q->ts.length=4:=fun ts Q ⟨_,_,_,_,_,e,_⟩=>by rw[e];rfl
theorem BW{cc:Kd->Addr}{cC cB cT:Addr}:∀ ts Q,mY cc cC cB cT ts Q->fu 7 (Bi cc cC cB cT) ts Q:=by
  rintro ts Q ⟨m,W,p,t,p2,rfl,hm,hR,hd,q⟩
  refine⟨⟨by decide,by decide⟩,qK (fun _ ρ=>∃ x5 x6,ρ=[.va (.lst (W.map Tv.str)),.va (.int p),.va (km t),.va (.int p2),.va (.lst (W.map Tv.str)),x5,x6]) ⟨_,_,rfl⟩ ?_ ?_⟩
  · rintro i x ρ hi ⟨x5,x6,rfl⟩ Kn hk
    refine⟨_,rfl,m,W,p,some t,p2,rfl,hm,hR,?_⟩
    refine⟨true,⟨⟨_,rfl⟩,rfl,rfl⟩,.inl ⟨yj W,yj W,?_⟩⟩
    rw[BF W]
    refine⟨mr (by decide) _,_,⟨_,rfl,rfl⟩,t,rfl,rfl,Nat.le_trans hd (by decide),trivial,rfl,uy t 120 (by omega),?_⟩
    refine bF (fun e=>?_) fun _=>hk _ ⟨_,_,rfl⟩
    have e:(!decide ((p2:Int)=(p2:Int)))=true:=e
    rw[decide_eq_true rfl] at e
    cases e
  · rintro ρ ⟨x5,x6,rfl⟩
    exact q
theorem zE(A:dS K mg)(B:pP mg):aQ P w K mg base (iP P w) 213 A.vT A.vH ["_law_row","_law_at_here","_law_tree_here","_law_end"] (sN K (mY A.c A.cC A.cB A.cT)):=
  i7 A.gr.F oB (Bi A.c A.cC A.cB A.cT) DS BW fun c9 A_ outer s H E hr=>have hu:=hr.units
  ah (aD (i:=4) oB.nd rfl (Or.inl gb) (kI (HK rfl) xv B.list B9 (ai (v_var (i:=0) rfl (Or.inl kE)) ae)))
  (ah (sI jj rfl (tu wd B.range (aa (au) ae)) (gh (i:=5) oB.nd rfl (Or.inl qm) (.inl rfl)) (gD 5) (ah (aD (i:=6) oB.nd rfl (Or.inl bG) (aT rfl (vO A B) (hr.mono (by decide)) p6 A.fB.m A.fB.F.kp A.fB.b af (ai (v_var (i:=4) rfl (Or.inl gb)) (ai (v_var (i:=1) rfl (Or.inl nv)) ae))))
  (ah (cM (PW.pt (rL (p8 (ic rfl (my (Pl rfl) gx B.isinstance bR (ai (v_var (i:=6) rfl (Or.inl bG)) (ai (V5 vJ B.tuple t5) ae))))) (rL (aZ (Hr rfl hu) (my (r9 rfl) zN B.len lU (ai (v_var (i:=6) rfl (Or.inl bG)) ae)) (au) (aL _)) (rL (p8 (ic rfl (my (RK rfl A.N3) gx B.isinstance bR (aN (d9 (d_ rfl) (v_var (i:=6) rfl (Or.inl bG)) (au) (fun _ _=>rfl)) (ai (Ac (v:=.ref A.cT) xl A.Ls rfl (fun _=>DA.mpr rfl)) ae))))) (vY (aZ (Hr rfl hu) (v_var (i:=4) rfl (Or.inl gb)) (v_var (i:=0) rfl (Or.inl kE)) (aL _))))))) (av (a_ (JR))) (cg))
  (av (cM (PW.pt (rL (aZ (Vp rfl hr.units2) (fh (dD (fun k=>IH A B 61 k) A.vS A.cl A.wt (hr.mono (by decide)) af) (d9 (d_ rfl) (v_var (i:=6) rfl (Or.inl bG)) (au) (fun _ _=>rfl))) (v_var (i:=2) rfl (Or.inl l_)) (aL _)) (rL (aZ (Hr rfl hu) (d9 (d_ rfl) (v_var (i:=6) rfl (Or.inl bG)) (au) (fun _ _=>rfl)) (v_var (i:=3) rfl (Or.inl rq)) (aL _)) (vY (ic rfl (my (Pl rfl) gx B.isinstance bR (aN (d9 (d_ rfl) (v_var (i:=6) rfl (Or.inl bG)) (au) (fun _ _=>rfl)) (ai (V5 xm B.bool Ot) ae)))))))) (av (a_ (JR))) (cg))))))
  (av (a_ (JR))))
end
end Pw
namespace Pw
open PySem L2
inductive yg
  | ng | br | sm
def T6:yg->Str
  | .ng=>"-"
  | .br=>"("
  | .sm=>"sum"
def m_(nm:Str):yg->List Str
  | .ng=>["-"]
  | .br=>["("]
  | .sm=>["sum","(",nm,"in","days",","]
def dw(nm:Str)(ks:List Str):List yg->List Str
  | []=>nm::d6 ks
  | .ng::ms=>("-":Str)::dw nm ks ms
  | .br::ms=>("(":Str)::(dw nm ks ms++[(")":Str)])
  | .sm::ms=>("sum":Str)::"("::nm::"in"::"days"::","::(dw nm ks ms++[(")":Str)])
def Ca:List yg->Nat
  | []=>0
  | .ng::ms=>Ca ms
  | .br::ms=>Ca ms+1
  | .sm::ms=>Ca ms+1
def rj:List yg->Nat
  | []=>0
  | .ng::ms=>rj ms
  | .br::ms=>rj ms
  | .sm::ms=>rj ms+1
def T5(nm:Str):yg->ir->ir
  | .ng,t=>.neg t
  | .br,t=>t
  | .sm,t=>.sum nm "days" t
def F_(nm:Str)(ms:List yg)(t:ir):ir:=ms.foldr (T5 nm) t
theorem E3{nm:Str}{ks:List Str}:∀ ms,dw nm ks ms=ms.flatMap (m_ nm)++(nm::d6 ks)++List.replicate (Ca ms) (")":Str)
  | []=>by show _=[]++_++[];rw[List.nil_append,List.append_nil];rfl
  | .ng::ms=>by rw[dw,E3 ms];rfl
  | .br::ms=>by rw[dw,E3 ms,Ca,List.replicate_succ'];simp [m_]
  | .sm::ms=>by rw[dw,E3 ms,Ca,List.replicate_succ'];simp [m_]
theorem tm{nm:Str}{t:ir}:∀ ms,dp (F_ nm ms t)<=ms.length+dp t
  | []=>by show dp t<=0+dp t;omega
  | m::ms=>by
    have:=tm (nm:=nm) (t:=t) ms
    rw[List.length_cons]
    cases m with
    | ng=>show 1+dp (F_ nm ms t)<=_;omega
    | br=>show dp (F_ nm ms t)<=_;omega
    | sm=>show 1+dp (F_ nm ms t)<=_;omega
theorem Ck:Nw "days":=⟨⟨by decide,by decide⟩,by decide +kernel,by decide⟩
theorem MP:Nw "mon":=⟨⟨by decide,by decide⟩,by decide +kernel,by decide⟩
theorem QF:Nw "tue":=⟨⟨by decide,by decide⟩,by decide +kernel,by decide⟩
section
variable {W:List Str} {nm:Str} {ks:List Str}
theorem Fp(hn:Nw nm){p o s:Nat}{r:Option ir}{q:Nat}(h:sn W p=nm)(h2:Rd W 1 .ent o s p r q):Rd W 2 .part o s p r q:=
  .inr (.inr (.inr ⟨⟨by rw[h];exact hn.ne (by decide +kernel),by rw[h];exact hn.ne (by decide +kernel),by rw[h];exact hn.nsum⟩,.inr ⟨by rw[h];exact hn.nd,h2⟩⟩))
theorem Qv(hn:Nw nm)(hl:ks.length<=2)(hk:∀ k∈ks,Nw k){p o s:Nat}(a:At W p (nm::d6 ks))(n1:sn W (p+(nm::d6 ks).length)≠"(")(ho:ks=[]\/o≠30):Rd W 2 .part o s p (some (.ent nm ks)) (p+(nm::d6 ks).length):=by
  obtain⟨a1,a2⟩:=a
  refine Fp hn a1 ⟨by rw[a1];exact hn.nm,?_⟩
  by_cases z:ks=[]
  · subst z
    exact .inl ⟨n1,by rw[a1],rfl⟩
  · obtain⟨h1,h2,h3,h4⟩:=sU z (fun k h=>(hk k h).nm) hl a2
    refine .inr ⟨h1,.inr ⟨ho.resolve_left z,ks,h2,hl,h3,by rw[a1],?_⟩⟩
    rw[List.length_cons,h4];omega
theorem S5(hn:Nw nm)(hl:ks.length<=2)(hk:∀ k∈ks,Nw k)(z:ks≠[]){p s:Nat}(a:At W p (nm::d6 ks)):Rd W 2 .part 30 s p none (p+2):=by
  obtain⟨a1,a2⟩:=a
  refine Fp hn a1 ⟨by rw[a1];exact hn.nm,.inr ⟨(sU z (fun k h=>(hk k h).nm) hl a2).1,.inl ⟨rfl,rfl,rfl⟩⟩⟩
theorem vV{n o s p q:Nat}{t:ir}(h:Rd W n .part o s p (some t) q)(hd:dp t<=60)(n1:sn W q≠"*")(n2:sn W q≠"+")(n3:sn W q≠"-"):Rd W (n+2) .term o s p (some t) q:=by
  have hn:1<=n:=by
    cases n with
    | zero=>exact h.elim
    | succ n=>omega
  have h1:Rd W 1 (.pl t) o s q (some t) q:=.inr ⟨n1,rfl,rfl⟩
  have h2:Rd W 1 (.tl t) o s q (some t) q:=.inr (.inr ⟨n2,n3,rfl,rfl⟩)
  exact⟨some t,q,⟨some t,q,h,.inr ⟨t,rfl,hd,bH h1 hn⟩⟩,.inr ⟨t,rfl,hd,bH h2 (by omega)⟩⟩
theorem vk{n o s p q:Nat}(h:Rd W n .part o s p none q):Rd W (n+2) .term o s p none q:=⟨none,q,⟨none,q,h,.inl ⟨rfl,rfl,rfl⟩⟩,.inl ⟨rfl,rfl,rfl⟩⟩
theorem uZ(hn:Nw nm)(hl:ks.length<=2)(hk:∀ k∈ks,Nw k):∀ (ms:List yg) (p o s:Nat),At W p (dw nm ks ms)->sn W (p+(dw nm ks ms).length)≠"("->o+ms.length<=30->(ks=[]\/o+ms.length≠30)->s+rj ms<=3->Rd W (4*ms.length+2) .part o s p (some (F_ nm ms (.ent nm ks))) (p+(dw nm ks ms).length)
  | [],p,o,s,a,n1,_,h2,_=>Qv hn hl hk a n1 h2
  | .ng::ms,p,o,s,a,n1,h1,h2,h3=>by
    obtain⟨a1,a2⟩:=a
    rw[List.length_cons] at h1 h2
    have e:p+(dw nm ks (.ng::ms)).length=p+1+(dw nm ks ms).length:=by rw[dw,List.length_cons];omega
    rw[e] at n1 ⊢
    have hd:=tm (nm:=nm) (t:=.ent nm ks) ms
    have hd:dp (F_ nm ms (.ent nm ks))<=ms.length+1:=hd
    have r:=uZ hn hl hk ms (p+1) (o+1) s a2 n1 (by omega) (h2.imp id (by omega)) h3
    refine bH (n:=4*ms.length+2+1) ?_ (by rw[List.length_cons];omega)
    exact .inl ⟨a1,.inr ⟨by omega,_,_,r,.inr ⟨_,rfl,by show 1+dp _<=60;omega,rfl,rfl⟩⟩⟩
  | .br::ms,p,o,s,a,n1,h1,h2,h3=>by
    obtain⟨a1,a2⟩:=a
    obtain⟨a2,a3,_⟩:=a2.app
    rw[List.length_cons] at h1 h2
    have e:p+(dw nm ks (.br::ms)).length=p+1+(dw nm ks ms).length+1:=by rw[dw,List.length_cons,List.length_append,List.length_singleton];omega
    rw[e]
    have hd:=tm (nm:=nm) (t:=.ent nm ks) ms
    have hd:dp (F_ nm ms (.ent nm ks))<=ms.length+1:=hd
    have r:=uZ hn hl hk ms (p+1) (o+1) s a2 (by rw[a3];decide) (by omega) (h2.imp id (by omega)) h3
    refine bH (n:=4*ms.length+2+2+1) ?_ (by rw[List.length_cons];omega)
    exact .inr (.inl ⟨a1,.inr ⟨by omega,_,_,vV r (by omega) (by rw[a3];decide) (by rw[a3];decide) (by rw[a3];decide),.inr ⟨_,rfl,a3,rfl,rfl⟩⟩⟩)
  | .sm::ms,p,o,s,a,n1,h1,h2,h3=>by
    obtain⟨a1,a2,a4,a5,a6,a7,a8⟩:=a
    obtain⟨a8,a3,_⟩:=a8.app
    rw[List.length_cons] at h1 h2
    have h3:s+(rj ms+1)<=3:=h3
    have e:p+(dw nm ks (.sm::ms)).length=p+6+(dw nm ks ms).length+1:=by rw[dw];simp only [List.length_cons,List.length_append,List.length_nil];omega
    rw[e]
    have hd:=tm (nm:=nm) (t:=.ent nm ks) ms
    have hd:dp (F_ nm ms (.ent nm ks))<=ms.length+1:=hd
    have r:=uZ hn hl hk ms (p+6) (o+1) (s+1) a8 (by rw[a3];decide) (by omega) (h2.imp id (by omega)) (by omega)
    have a4:sn W (p+1+1)=nm:=a4
    have a6:sn W (p+1+3)="days":=a6
    refine bH (n:=4*ms.length+2+2+1+1) ?_ (by rw[List.length_cons];omega)
    exact .inr (.inr (.inl ⟨a1,.inr ⟨by omega,a2,by rw[a4];exact hn.nm,a5,by rw[a6];exact Ck.nm,a7,.inr ⟨by omega,_,_,vV r (by omega) (by rw[a3];decide) (by rw[a3];decide) (by rw[a3];decide),.inr ⟨_,rfl,a3,by show 1+dp _<=60;omega,by rw[a4,a6];rfl,rfl⟩⟩⟩⟩))
theorem yd(hn:Nw nm)(hl:ks.length<=2)(hk:∀ k∈ks,Nw k):∀ (ms:List yg) (p o s:Nat),At W p (dw nm ks ms)->o<=30->s<=3->(30<o+ms.length\/(ks≠[]/\o+ms.length=30)\/3<s+rj ms)->∃ q,Rd W (4*ms.length+2) .part o s p none q
  | [],p,o,s,a,ho,hs,h=>by
    rw[List.length_nil] at h
    rcases h with h | ⟨z,h⟩ | h
    · omega
    · obtain rfl:o=30:=by omega
      exact⟨_,S5 hn hl hk z a⟩
    · have h:3<s+0:=h
      omega
  | .ng::ms,p,o,s,a,ho,hs,h=>by
    obtain⟨a1,a2⟩:=a
    rw[List.length_cons] at h
    by_cases e:o=30
    · exact⟨_,.inl ⟨a1,.inl ⟨e,rfl,rfl⟩⟩⟩
    · obtain⟨q,r⟩:=yd hn hl hk ms (p+1) (o+1) s a2 (by omega) hs (h.imp (by omega) (Or.imp (And.imp id (by omega)) id))
      exact⟨q,bH (n:=4*ms.length+2+1) (.inl ⟨a1,.inr ⟨e,_,_,r,.inl ⟨rfl,rfl,rfl⟩⟩⟩) (by rw[List.length_cons];omega)⟩
  | .br::ms,p,o,s,a,ho,hs,h=>by
    obtain⟨a1,a2⟩:=a
    obtain⟨a2,a3,_⟩:=a2.app
    rw[List.length_cons] at h
    by_cases e:o=30
    · exact⟨_,.inr (.inl ⟨a1,.inl ⟨e,rfl,rfl⟩⟩)⟩
    · obtain⟨q,r⟩:=yd hn hl hk ms (p+1) (o+1) s a2 (by omega) hs (h.imp (by omega) (Or.imp (And.imp id (by omega)) id))
      exact⟨q,bH (n:=4*ms.length+2+2+1) (.inr (.inl ⟨a1,.inr ⟨e,_,_,vk r,.inl ⟨rfl,rfl,rfl⟩⟩⟩)) (by rw[List.length_cons];omega)⟩
  | .sm::ms,p,o,s,a,ho,hs,h=>by
    obtain⟨a1,a2,a4,a5,a6,a7,a8⟩:=a
    obtain⟨a8,a3,_⟩:=a8.app
    rw[List.length_cons] at h
    have a4:sn W (p+1+1)=nm:=a4
    have a6:sn W (p+1+3)="days":=a6
    by_cases es:s=3
    · exact⟨_,bH (n:=4*ms.length+2+2+1+1) (.inr (.inr (.inl ⟨a1,.inl ⟨es,rfl,rfl⟩⟩))) (by rw[List.length_cons];omega)⟩
    by_cases e:o=30
    · exact⟨_,bH (n:=4*ms.length+2+2+1+1) (.inr (.inr (.inl ⟨a1,.inr ⟨es,a2,by rw[a4];exact hn.nm,a5,by rw[a6];exact Ck.nm,a7,.inl ⟨e,rfl,rfl⟩⟩⟩))) (by rw[List.length_cons];omega)⟩
    · have h:30<o+(ms.length+1)\/(ks≠[]/\o+(ms.length+1)=30)\/3<s+(rj ms+1):=h
      obtain⟨q,r⟩:=yd hn hl hk ms (p+6) (o+1) (s+1) a8 (by omega) (by omega) (h.imp (by omega) (Or.imp (And.imp id (by omega)) (by omega)))
      exact⟨q,bH (n:=4*ms.length+2+2+1+1) (.inr (.inr (.inl ⟨a1,.inr ⟨es,a2,by rw[a4];exact hn.nm,a5,by rw[a6];exact Ck.nm,a7,.inr ⟨e,_,_,vk r,.inl ⟨rfl,rfl,rfl⟩⟩⟩⟩))) (by rw[List.length_cons];omega)⟩
def lw(b:Fin 3)(w:List Str):Nat->List Str
  | 0=>[]
  | j+1=>markB b::(w++lw b w j)
def Nc(b:Fin 3)(u:ir)(t:ir):Nat->ir
  | 0=>t
  | j+1=>Nc b u (.bin b t u) j
theorem Gh{b:Fin 3}{u:ir}:∀ (j:Nat) {t:ir},dp u<=dp t->dp (Nc b u t j)=dp t+j
  | 0,t,_=>rfl
  | j+1,t,h=>by
    have e:dp (.bin b t u)=1+max (dp t) (dp u):=rfl
    rw[Nc,Gh j (by omega),e];omega
theorem B4{b:Fin 3}{w:List Str}:∀ (j:Nat) {p:Nat},At W p (lw b w j)->sn W (p+(lw b w j).length)=""->sn W p=""\/sn W p=markB b
  | 0,_,_,h=>.inl h
  | _+1,_,a,_=>.inr a.1
theorem Ed{b:Fin 3}(hb:b≠2){u:ir}{w:List Str}(hP:∀ p,At W p w->sn W (p+w.length)≠"("->Rd W 10 .part 0 0 p (some u) (p+w.length))(hu:dp u<=60):∀ (j:Nat) (t:ir) (p:Nat),dp u<=dp t->dp t<=60->At W p (lw b w j)->sn W (p+(lw b w j).length)="" ->
    (dp t+j<=60->Rd W (12+j) (.tl t) 0 0 p (some (Nc b u t j)) (p+(lw b w j).length))/\(60<dp t+j->∃ q,Rd W (12+j) (.tl t) 0 0 p none q)
  | 0,t,p,_,ht,a,he=>⟨fun _=>.inr (.inr ⟨by rw[show sn W p="" from he];decide,by rw[show sn W p="" from he];decide,rfl,rfl⟩),fun h=>absurd h (by omega)⟩
  | j+1,t,p,hut,ht,a,he=>by
    obtain⟨a1,a2⟩:=a
    obtain⟨a2,a3⟩:=a2.app
    have e:p+(lw b w (j+1)).length=p+1+w.length+(lw b w j).length:=by rw[lw,List.length_cons,List.length_append];omega
    rw[e] at he ⊢
    have mk:markB b≠"("/\markB b≠"*":=by
      match b,hb with
      | 0,_=>exact⟨by decide,by decide⟩
      | 1,_=>exact⟨by decide,by decide⟩
      | 2,z=>exact absurd rfl z
    have nx:=B4 j a3 he
    have n1:sn W (p+1+w.length)≠"(":=by rcases nx with h | h <;> rw[h];decide;exact mk.1
    have n2:sn W (p+1+w.length)≠"*":=by rcases nx with h | h <;> rw[h];decide;exact mk.2
    have hq0:Rd W (11+j+1) .prod 0 0 (p+1) (some u) (p+1+w.length):=⟨some u,_,bH (hP (p+1) a2 n1) (by omega),.inr ⟨u,rfl,hu,bH (n:=1) (.inr ⟨n2,rfl,rfl⟩) (by omega)⟩⟩
    have hq:Rd W (12+j) .prod 0 0 (p+1) (some u) (p+1+w.length):=bH hq0 (by omega)
    have ed:dp (.bin b t u)=dp t+1:=by show 1+max (dp t) (dp u)=_;omega
    have step:∀ r q,(60<dp (.bin b t u)/\r=none/\q=p+1+w.length)\/(dp (.bin b t u)<=60/\Rd W (12+j) (.tl (.bin b t u)) 0 0 (p+1+w.length) r q)->Rd W (12+(j+1)) (.tl t) 0 0 p r q:=fun r q h=>by
      match b,hb,a1,h with
      | 0,_,a1,h=>exact .inl ⟨a1,some u,_,hq,.inr ⟨u,rfl,hu,h⟩⟩
      | 1,_,a1,h=>exact .inr (.inl ⟨a1,some u,_,hq,.inr ⟨u,rfl,hu,h⟩⟩)
      | 2,z,_,_=>exact absurd rfl z
    by_cases hd:dp (.bin b t u)<=60
    · obtain⟨i1,i2⟩:=Ed hb hP hu j (.bin b t u) (p+1+w.length) (by omega) hd a3 he
      exact⟨fun h=>step _ _ (.inr ⟨hd,i1 (by omega)⟩),fun h=>let ⟨q,r⟩:=i2 (by omega);⟨q,step _ _ (.inr ⟨hd,r⟩)⟩⟩
    · exact⟨fun h=>absurd h (by omega),fun h=>⟨_,step _ _ (.inl ⟨by omega,rfl,rfl⟩)⟩⟩
theorem E7{u:ir}{w:List Str}(hP:∀ p,At W p w->sn W (p+w.length)≠"("->Rd W 10 .part 0 0 p (some u) (p+w.length))(hu:dp u<=60):∀ (j:Nat) (t:ir) (p:Nat),dp u<=dp t->dp t<=60->At W p (lw 2 w j)->sn W (p+(lw 2 w j).length)="" ->
    (dp t+j<=60->Rd W (12+j) (.pl t) 0 0 p (some (Nc 2 u t j)) (p+(lw 2 w j).length))/\(60<dp t+j->∃ q,Rd W (12+j) (.pl t) 0 0 p none q)
  | 0,t,p,_,ht,a,he=>⟨fun _=>.inr ⟨by rw[show sn W p="" from he];decide,rfl,rfl⟩,fun h=>absurd h (by omega)⟩
  | j+1,t,p,hut,ht,a,he=>by
    obtain⟨a1,a2⟩:=a
    obtain⟨a2,a3⟩:=a2.app
    have e:p+(lw 2 w (j+1)).length=p+1+w.length+(lw 2 w j).length:=by rw[lw,List.length_cons,List.length_append];omega
    rw[e] at he ⊢
    have nx:=B4 j a3 he
    have n1:sn W (p+1+w.length)≠"(":=by rcases nx with h | h <;> rw[h] <;> decide
    have hq:Rd W (12+j) .part 0 0 (p+1) (some u) (p+1+w.length):=bH (hP (p+1) a2 n1) (by omega)
    have ed:dp (.bin 2 t u)=dp t+1:=by show 1+max (dp t) (dp u)=_;omega
    have step:∀ r q,(60<dp (.bin 2 t u)/\r=none/\q=p+1+w.length)\/(dp (.bin 2 t u)<=60/\Rd W (12+j) (.pl (.bin 2 t u)) 0 0 (p+1+w.length) r q)->Rd W (12+(j+1)) (.pl t) 0 0 p r q:=fun r q h=>.inl ⟨a1,some u,_,hq,.inr ⟨u,rfl,hu,h⟩⟩
    by_cases hd:dp (.bin 2 t u)<=60
    · obtain⟨i1,i2⟩:=E7 hP hu j (.bin 2 t u) (p+1+w.length) (by omega) hd a3 he
      exact⟨fun h=>step _ _ (.inr ⟨hd,i1 (by omega)⟩),fun h=>let ⟨q,r⟩:=i2 (by omega);⟨q,step _ _ (.inr ⟨hd,r⟩)⟩⟩
    · exact⟨fun h=>absurd h (by omega),fun h=>⟨_,step _ _ (.inl ⟨by omega,rfl,rfl⟩)⟩⟩
end
theorem At.all(W:List Str):At W 0 W:=by
  have:=At.self [] W []
  rw[List.nil_append,List.append_nil] at this
  exact this
theorem LX(W:List Str):sn W (0+W.length)="":=HL (by omega)
theorem Ms{b:Fin 3}{u:ir}{w:List Str}{j:Nat}(hj:j<=62)(hP:∀ W p,At W p w->sn W (p+w.length)≠"("->Rd W 10 .part 0 0 p (some u) (p+w.length))(hu:dp u<=60):
    (dp u+j<=60->Rd (w++lw b w j) 80 .term 0 0 0 (some (Nc b u u j)) (w++lw b w j).length)/\(60<dp u+j->∃ q,Rd (w++lw b w j) 80 .term 0 0 0 none q):=by
  have A:=At.all (w++lw b w j)
  have E:=LX (w++lw b w j)
  generalize hW:w++lw b w j=W at A E ⊢
  have e:0+W.length=0+w.length+(lw b w j).length:=by rw[← hW,List.length_append];omega
  have e2:W.length=0+w.length+(lw b w j).length:=by omega
  rw[e] at E
  have A:At W 0 (w++lw b w j):=by rw[hW];exact A
  obtain⟨a1,a2⟩:=A.app
  have nx:=B4 j a2 E
  have n1:sn W (0+w.length)≠"(":=by
    rcases nx with h | h <;> rw[h]
    · decide
    · match b with
      | 0=>decide
      | 1=>decide
      | 2=>decide
  have h0:=hP W 0 a1 n1
  rw[e2]
  by_cases hb:b=2
  · subst hb
    obtain⟨i1,i2⟩:=E7 (hP W) hu j u (0+w.length) (Nat.le_refl _) hu a2 E
    refine⟨fun h=>?_,fun h=>?_⟩
    · have hd:=Gh (b:=2) j (Nat.le_refl (dp u))
      refine bH (n:=12+j+1+1) ?_ (by omega)
      exact⟨_,_,⟨some u,_,bH h0 (by omega),.inr ⟨u,rfl,hu,i1 h⟩⟩,.inr ⟨_,rfl,by omega,bH (n:=1) (.inr (.inr ⟨by rw[E];decide,by rw[E];decide,rfl,rfl⟩)) (by omega)⟩⟩
    · obtain⟨q,r⟩:=i2 h
      refine⟨q,bH (n:=12+j+1+1) ?_ (by omega)⟩
      exact⟨none,_,⟨some u,_,bH h0 (by omega),.inr ⟨u,rfl,hu,r⟩⟩,.inl ⟨rfl,rfl,rfl⟩⟩
  · have n2:sn W (0+w.length)≠"*":=by
      rcases nx with h | h <;> rw[h]
      · decide
      · match b,hb with
        | 0,_=>decide
        | 1,_=>decide
        | 2,z=>exact absurd rfl z
    obtain⟨i1,i2⟩:=Ed hb (hP W) hu j u (0+w.length) (Nat.le_refl _) hu a2 E
    have hq:Rd W 12 .prod 0 0 0 (some u) (0+w.length):=⟨some u,_,bH (n:=10) h0 (by decide),.inr ⟨u,rfl,hu,bH (n:=1) (.inr ⟨n2,rfl,rfl⟩) (by decide)⟩⟩
    refine⟨fun h=>bH (n:=12+j+1) ⟨some u,_,bH hq (by omega),.inr ⟨u,rfl,hu,i1 h⟩⟩ (by omega),fun h=>?_⟩
    obtain⟨q,r⟩:=i2 h
    exact⟨q,bH (n:=12+j+1) ⟨some u,_,bH hq (by omega),.inr ⟨u,rfl,hu,r⟩⟩ (by omega)⟩
theorem FI{nm:Str}{ks:List Str}(hn:Nw nm)(hl:ks.length<=2)(hk:∀ k∈ks,Nw k){ms:List yg}(hm:ms.length<=32):
    ((ms.length<=30/\(ks=[]\/ms.length≠30)/\rj ms<=3)->Rd (dw nm ks ms) 140 .term 0 0 0 (some (F_ nm ms (.ent nm ks))) (dw nm ks ms).length)/\((30<ms.length\/(ks≠[]/\ms.length=30)\/3<rj ms)->∃ q,Rd (dw nm ks ms) 140 .term 0 0 0 none q):=by
  have A:=At.all (dw nm ks ms)
  have E:=LX (dw nm ks ms)
  refine⟨fun⟨h1,h2,h3⟩=>?_,fun h=>?_⟩
  · have r:=uZ hn hl hk ms 0 0 0 A (by rw[E];decide) (by omega) (h2.imp id (by omega)) (by omega)
    have hd:=tm (nm:=nm) (t:=.ent nm ks) ms
    have hd:dp (F_ nm ms (.ent nm ks))<=ms.length+1:=hd
    have:=bH (vV r (by omega) (by rw[E];decide) (by rw[E];decide) (by rw[E];decide)) (m:=140) (by omega)
    rw[Nat.zero_add] at this
    exact this
  · obtain⟨q,r⟩:=yd hn hl hk ms 0 0 0 A (by omega) (by omega) (h.imp (by omega) (Or.imp (And.imp id (by omega)) (by omega)))
    exact⟨q,bH (vk r) (by omega)⟩
end Pw
namespace Pw
open PySem L2
seal PE PT PW PA PS ju PG sg PI rA PO PJ
section
variable {P:Program} {w:World} {K:PySem.W.Frag} {mg:Str->Option Value} {base:Heap} {f:Addr} {fd:FuncData}
def CK(W:List Str)(r:Tv):Prop:=(∃ t,r=km t/\dp t<=60/\Rd W 140 .term 0 0 0 (some t) W.length)\/(r=.non/\∃ q,Rd W 140 .term 0 0 0 none q)
def wH:Ct:=fun ts P=>∃ c nm,ts=[.int c,.str nm]/\Nw nm/\∀ W r,CK W r->P (.ok (.va (.tup [.lst (W.map Tv.str),r])))
theorem wH.len:∀ ts Q,wH ts Q->ts.length=2:=fun ts Q ⟨_,_,e,_⟩=>by rw[e];rfl
theorem Ib{b:Fin 3}{w:List Str}:∀ j,lw b w (j+1)=lw b w j++markB b::w
  | 0=>by show markB b::(w++[])=_;rw[List.append_nil];rfl
  | j+1=>by show markB b::(w++lw b w (j+1))=(markB b::(w++lw b w j))++markB b::w;rw[Ib j];simp
theorem Fu{b:Fin 3}{u:ir}:∀ (j:Nat) {t:ir},Nc b u t (j+1)=.bin b (Nc b u t j) u
  | 0,t=>rfl
  | j+1,t=>by rw[Nc,Fu j];rfl
theorem L9{b:Fin 3}{w:List Str}:∀ j,(lw b w j).length=j*(w.length+1)
  | 0=>by rw[Nat.zero_mul];rfl
  | j+1=>by rw[lw,List.length_cons,List.length_append,L9 j,Nat.add_mul,Nat.one_mul];omega
theorem Vj:∀ (b:Fin 3) {k:Tv->Prop},k (.str (markB b))->mF (vg [Tv.str "+",.str "-",.str "*"] ((b.val:Nat):Int)) k
  | 0,_,h=>h
  | 1,_,h=>h
  | 2,_,h=>h
theorem Wp:∀ (b:Fin 3) {k:Tv->Prop},k (.str (sj b))->mF (vg [Tv.str "plus",.str "minus",.str "times"] ((b.val:Nat):Int)) k
  | 0,_,h=>h
  | 1,_,h=>h
  | 2,_,h=>h
def DU:Sv:=bM 8 (fG [ck lj (cY [vC (.str "plus"),vC (.str "minus"),vC (.str "times")]) (ag 6),ag 8,ag 4])
def CO:Sv:=bM 7 (ck fM (ck fM (ag 7) (cY [ck lj (cY [vC (.str "+"),vC (.str "-"),vC (.str "*")]) (ag 6)])) (ag 5))
def Fw:Sv:=aE CO DU
def Hq:Sv:=gk (fG [ag 7,T4 (eK Xn (ck fM (ag 2) (rh Ge [ck xG (ag 3) (vC (.int 1))])) (vC (.int 60))) (ag 8) (vC .non)])
def EB:Sv:=FT (EO (ck GA (ag 2) (vC (.int 1)))) (gV 9) (Fw)
def yD:Sv:=aE EB Hq
def wI:Sv:=bM 8 (ag 4)
def Hi:Sv:=aE wI yD
def xf:Sv:=bM 7 (rh Ja [ag 5])
def yA:Sv:=aE xf Hi
def wL:Sv:=bM 6 (ko (eN 3) (ko (gU 18) (ag 0)))
def lE:Sv:=aE wL yA
def wu:Sv:=bM 5 (ck lj (cY [cY [ag 1],cY [vC (.str "-"),ag 1],cY [ag 1,vC (.str "("),vC (.str "mon"),vC (.str ","),vC (.str "tue"),vC (.str ")")]]) (ag 3))
def G5:Sv:=aE wu lE
def wZ:Sv:=bM 4 (ck lj (cY [fG [vC (.str "entry"),ag 1,fG []],fG [vC (.str "negative"),fG [vC (.str "entry"),ag 1,fG []]],fG [vC (.str "entry"),ag 1,fG [vC (.str "mon"),vC (.str "tue")]]]) (ag 3))
def Al:Sv:=aE wZ G5
def wD:Sv:=bM 3 (ko (eN 3) (ko (gU 6) (ag 0)))
def yE:Sv:=aE wD Al
def wB:Sv:=bM 2 (ck fM (vC (.int 57)) (ko (eN 6) (ag 0)))
def FD:Sv:=
  aE wB yE
abbrev uG:Ct:=wH
theorem fz:aA ["_law_cell","_law_name","_law_many","_law_way","_law_leaf","_law_own","_law_kind","_law_row","_law_tree_here","_law_k"] ["_law_cell","_law_name"] (ak dE):=⟨rfl,rfl,rfl,by decide +kernel,rfl,by decide +kernel,by decide +kernel⟩
theorem ip:Lk dE "_law_cell" .local:=by decide +kernel
theorem cH:Lk dE "_law_name" .local:=by decide +kernel
theorem ij:Lk dE "_law_many" .local:=by decide +kernel
theorem fX:Lk dE "_law_way" .local:=by decide +kernel
theorem ik:Lk dE "_law_leaf" .local:=by decide +kernel
theorem iU:Lk dE "_law_own" .local:=by decide +kernel
theorem iu:Lk dE "_law_kind" .local:=by decide +kernel
theorem f6:Lk dE "_law_row" .local:=by decide +kernel
theorem dh:Lk dE "_law_tree_here" .local:=by decide +kernel
theorem vA:Lk dE "_law_k" .local:=by decide +kernel
theorem Az:Lk dE "int" .globalImplicit:=by decide +kernel
theorem zA:Lk dE "list" .globalImplicit:=by decide +kernel
theorem xH:Lk dE "range" .globalImplicit:=by decide +kernel
theorem HM:∀ ts Q,uG ts Q->ts.length=2:=wH.len
theorem vL{c:Int}{nm:Str}{j:Nat}{way:Int}{u:ir}{w:List Str}{Q:yh Sl->Prop}(hj:j<=62)(hw:w.length<=6)(hu:dp u=1+(Ku (decide (way=1))).toNat)(hP:∀ W p,At W p w->sn W (p+w.length)≠"("->Rd W 10 .part 0 0 p (some u) (p+w.length))
    (q:∀ W r,CK W r->Q (.ok (.va (.tup [.lst (W.map Tv.str),r])))) :
    lE [.va (.int c),.va (.str nm),.va (.int ((j+1:Nat):Int)),.va (.int way),.va (km u),.va (.lst (w.map Tv.str)),.un,.un,.un,.un] (bg Q):=by
  obtain⟨b,hb⟩:∃ b:Fin 3,c / 18 % 3=((b.val:Nat):Int):=⟨⟨(c / 18 % 3).toNat,by omega⟩,by show _=(((c / 18 % 3).toNat:Nat):Int);omega⟩
  have Y9:∀ T:Sv,T [.va (.int c),.va (.str nm),.va (.int ((j+1:Nat):Int)),.va (.int way),.va (km u),.va (.lst (w.map Tv.str)),.va (.int (c / 18 % 3)),.un,.un,.un] (bg Q)->aE wL T [.va (.int c),.va (.str nm),.va (.int ((j+1:Nat):Int)),.va (.int way),.va (km u),.va (.lst (w.map Tv.str)),.un,.un,.un,.un] (bg Q):=fun T h=>h
  refine Y9 yA ?_
  rw[hb]
  have ZM:∀ T:Sv,T [.va (.int c),.va (.str nm),.va (.int ((j+1:Nat):Int)),.va (.int way),.va (km u),.va (.lst (w.map Tv.str)),.va (.int ((b.val:Nat):Int)),.va (.lst (w.map Tv.str)),.va (km u),.un] (bg Q)->aE xf (aE wI T) [.va (.int c),.va (.str nm),.va (.int ((j+1:Nat):Int)),.va (.int way),.va (km u),.va (.lst (w.map Tv.str)),.va (.int ((b.val:Nat):Int)),.un,.un,.un] (bg Q):=fun T h=>h
  refine ZM yD ?_
  have ej:(((j+1:Nat):Int)-1).toNat=j:=by omega
  refine⟨⟨by show _<=((j+1:Nat):Int)-1;omega,by show ((j+1:Nat):Int)-1<_;omega⟩,?_⟩
  refine qK (fun i ρ=>∃ l x9,l=(w++lw b w i).map Tv.str/\ρ=[.va (.int c),.va (.str nm),.va (.int ((j+1:Nat):Int)),.va (.int way),.va (km u),.va (.lst (w.map Tv.str)),.va (.int ((b.val:Nat):Int)),.va (.lst l),.va (km (Nc b u u i)),x9]) ⟨_,_,by rw[lw,List.append_nil],rfl⟩ ?_ ?_
  · rintro i x ρ hi ⟨l,x9,hl,rfl⟩ Kn hk
    have hi:i<j:=by have:=(Ce hi).1;rw[ej] at this;exact this
    have ll:l.length<=6+62*7:=by
      rw[hl,List.length_map,List.length_append,L9]
      have:i*(w.length+1)<=62*7:=Nat.mul_le_mul (by omega) (by omega)
      omega
    refine⟨_,rfl,Vj b ?_⟩
    refine⟨ie (m:=1) (by omega),ie (by rw[List.length_append,List.length_map];show _+1+_<=_;omega),Wp b ?_⟩
    refine hk _ ⟨_,_,?_,by rw[Fu];rfl⟩
    rw[hl,Ib]
    simp
  · rintro ρ ⟨l,x9,hl,rfl⟩
    rw[nT,ej] at hl ⊢
    subst hl
    have hd:=Gh (b:=b) j (Nat.le_refl (dp u))
    have hy:0<=Ku (decide (way=1))/\Ku (decide (way=1))<=1:=by cases decide (way=1) <;> decide
    obtain⟨t1,t2⟩:=Ms (b:=b) (j:=j) hj hP (by omega)
    refine bF (fun e=>?_) fun e=>?_
    · have:=of_decide_eq_true e
      exact q _ _ (.inl ⟨_,rfl,by omega,bH (t1 (by omega)) (by decide)⟩)
    · have:=of_decide_eq_false e
      obtain⟨z,r⟩:=t2 (by omega)
      exact q _ _ (.inr ⟨rfl,z,bH r (by decide)⟩)
theorem Dp{nm:Str}{ks:List Str}{ms:List yg}(hn:Nw nm)(hl:ks.length<=2)(hk:∀ k∈ks,Nw k)(hm:ms.length<=1)(hc:rj ms<=3):∀ W p,At W p (dw nm ks ms)->sn W (p+(dw nm ks ms).length)≠"("->Rd W 10 .part 0 0 p (some (F_ nm ms (.ent nm ks))) (p+(dw nm ks ms).length):=
  fun W p a n=>bH (uZ hn hl hk ms p 0 0 a n (by omega) (.inr (by omega)) (by omega)) (by omega)
theorem Fd:∀ ts Q,uG ts Q->fu 10 FD ts Q:=by
  rintro ts Q ⟨c,nm,rfl,hn,q⟩
  obtain⟨j,hj,j0⟩:∃ j:Nat,57+c % 6=((j+1:Nat):Int)/\j<=62:=⟨(56+c % 6).toNat,by omega,by omega⟩
  have K3:∀ T:Sv,T [.va (.int c),.va (.str nm),.va (.int (57+c % 6)),.un,.un,.un,.un,.un,.un,.un] (bg Q)->aE wB T [.va (.int c),.va (.str nm),.un,.un,.un,.un,.un,.un,.un,.un] (bg Q):=fun T h=>h
  refine K3 yE ?_
  rw[hj]
  have S3:∀ T:Sv,T [.va (.int c),.va (.str nm),.va (.int ((j+1:Nat):Int)),.va (.int (c / 6 % 3)),.un,.un,.un,.un,.un,.un] (bg Q)->aE wD T [.va (.int c),.va (.str nm),.va (.int ((j+1:Nat):Int)),.un,.un,.un,.un,.un,.un,.un] (bg Q):=fun T h=>h
  refine S3 Al ?_
  have ZL:c / 6 % 3=0\/c / 6 % 3=1\/c / 6 % 3=2:=by omega
  have Si:∀ (T:Sv) (way:Int) (u:ir) (w:List Str),(way=0/\u=.ent nm []/\w=[nm]\/way=1/\u=.neg (.ent nm [])/\w=[("-":Str),nm]\/way=2/\u=.ent nm ["mon","tue"]/\w=[nm,"(","mon",",","tue",")"])->T [.va (.int c),.va (.str nm),.va (.int ((j+1:Nat):Int)),.va (.int way),.va (km u),.va (.lst (w.map Tv.str)),.un,.un,.un,.un] (bg Q)->aE wZ (aE wu T) [.va (.int c),.va (.str nm),.va (.int ((j+1:Nat):Int)),.va (.int way),.un,.un,.un,.un,.un,.un] (bg Q):=by
    intro T way u w hu h
    rcases hu with ⟨rfl,rfl,rfl⟩ | ⟨rfl,rfl,rfl⟩ | ⟨rfl,rfl,rfl⟩ <;> exact h
  rcases ZL with e | e | e <;> rw[e]
  · exact Si lE _ (.ent nm []) [nm] (.inl ⟨rfl,rfl,rfl⟩) (vL (u:=.ent nm []) (w:=[nm]) j0 (aJ rfl) rfl (Dp (ks:=[]) (ms:=[]) hn (by decide) (fun _ h=>nomatch h) (by decide) (by decide)) q)
  · exact Si lE _ (.neg (.ent nm [])) [("-":Str),nm] (.inr (.inl ⟨rfl,rfl,rfl⟩)) (vL (u:=.neg (.ent nm [])) (w:=[("-":Str),nm]) j0 (aJ rfl) rfl (Dp (ks:=[]) (ms:=[.ng]) hn (by decide) (fun _ h=>nomatch h) (by decide) (by decide)) q)
  · refine Si lE _ (.ent nm ["mon","tue"]) [nm,"(","mon",",","tue",")"] (.inr (.inr ⟨rfl,rfl,rfl⟩)) (vL (u:=.ent nm ["mon","tue"]) (w:=[nm,"(","mon",",","tue",")"]) j0 (aJ rfl) rfl (Dp (ks:=["mon","tue"]) (ms:=[]) hn (by decide) ?_ (by decide) (by decide)) q)
    intro k hk
    rcases List.mem_cons.mp hk with rfl | hk
    · exact MP
    · rw[List.mem_singleton.mp hk];exact QF
theorem JH(A:dS K mg)(B:pP mg):aQ P w K mg base (iP P w) 1 A.zW A.y8 ["_law_cell","_law_name"] (sN K uG):=
  i7 A.lD.F fz FD HM Fd fun c9 A_ outer s H E hr=>have hu:=hr.units
  ah (aD (i:=2) fz.nd rfl (Or.inl ij) (bI (cn rfl) (au) (cN (v_var (i:=0) rfl (Or.inl ip)))))
  (ah (aD (i:=3) fz.nd rfl (Or.inl fX) (cN (ef (v_var (i:=0) rfl (Or.inl ip)))))
  (ah (aD (i:=4) fz.nd rfl (Or.inl ik) (d9 (d_ rfl) (bj (gX (cy (aa (aq) (ai (v_var (i:=1) rfl (Or.inl cH)) (gX (cy ae) ae)))) (gX (cy (aa (aq) (gX (cy (aa (aq) (ai (v_var (i:=1) rfl (Or.inl cH)) (gX (cy ae) ae)))) ae))) (gX (cy (aa (aq) (ai (v_var (i:=1) rfl (Or.inl cH)) (gX (cy (aa (aq) (aa (aq) ae))) ae)))) ae)))) (v_var (i:=3) rfl (Or.inl fX)) (fun _ _=>rfl)))
  (ah (aD (i:=5) fz.nd rfl (Or.inl iU) (d9 (d_ rfl) (bj (eT (bj (ai (v_var (i:=1) rfl (Or.inl cH)) ae)) (eT (bj (aa (aq) (ai (v_var (i:=1) rfl (Or.inl cH)) ae))) (eT (bj (ai (v_var (i:=1) rfl (Or.inl cH)) (aa (aq) (aa (aq) (aa (aq) (aa (aq) (aa (aq) ae))))))) ae)))) (v_var (i:=3) rfl (Or.inl fX)) (fun _ _=>rfl)))
  (ah (aD (i:=6) fz.nd rfl (Or.inl iu) (cN (ef (v_var (i:=0) rfl (Or.inl ip)))))
  (ah (aD (i:=7) fz.nd rfl (Or.inl f6) (kI (HK rfl) zA B.list B9 (ai (v_var (i:=5) rfl (Or.inl iU)) ae)))
  (ah (aD (i:=8) fz.nd rfl (Or.inl dh) (v_var (i:=4) rfl (Or.inl ik)))
  (ah (sI jj rfl (tu xH B.range (bQ (bI Bm (v_var (i:=2) rfl (Or.inl ij)) (au)) ae)) (gh (i:=9) fz.nd rfl (Or.inl vA) (.inl rfl)) (gD 9) (ah (aD (i:=7) fz.nd rfl (Or.inl f6) (bI (cn rfl) (bI (cn rfl) (v_var (i:=7) rfl (Or.inl f6)) (bj (aN (d9 (d_ rfl) (bj (aa (aq) (aa (aq) (aa (aq) ae)))) (v_var (i:=6) rfl (Or.inl iu)) (fun _ _=>rfl)) ae))) (v_var (i:=5) rfl (Or.inl iU))))
  (av (aD (i:=8) fz.nd rfl (Or.inl dh) (cy (aN (d9 (d_ rfl) (bj (aa (aq) (aa (aq) (aa (aq) ae)))) (v_var (i:=6) rfl (Or.inl iu)) (fun _ _=>rfl)) (ai (v_var (i:=8) rfl (Or.inl dh)) (ai (v_var (i:=4) rfl (Or.inl ik)) ae))))))))
  (av (a_ (cy (ai (v_var (i:=7) rfl (Or.inl f6)) (yF (Jb (aZ RF (bI (cn rfl) (v_var (i:=2) rfl (Or.inl ij)) (kI Bt Az B.int tF (lY (wV (k9 rfl hu) (v_var (i:=3) rfl (Or.inl fX)) (au) (aL _)) ae))) (au) (aL _)) (v_var (i:=8) rfl (Or.inl dh)) (Bd)) ae))))))))))))
end
end Pw
namespace Pw
open PySem L2
seal PE PT PW PA PS ju PG sg PI rA PO PJ
section
variable {P:Program} {w:World} {K:PySem.W.Frag} {mg:Str->Option Value} {base:Heap} {f:Addr} {fd:FuncData}
def GN:Sv:=gk (fG [ck fM (ck fM (ck sV (cY [vC (.str "sum"),vC (.str "("),ag 1,vC (.str "in"),vC (.str "days"),vC (.str ",")]) (ag 2)) (cY [ag 1])) (ck sV (cY [vC (.str ")")]) (ag 2)),T4 (eK Xn (ag 2) (vC (.int 3))) (ag 3) (vC .non)])
def FY:Sv:=FT (EO (ag 2)) (gV 4) (bM 3 (fG [vC (.str "sum"),ag 1,vC (.str "days"),ag 3]))
def Aa:Sv:=aE FY GN
def xa:Sv:=bM 3 (fG [vC (.str "entry"),ag 1,fG []])
def yJ:Sv:=aE xa Aa
def wO:Sv:=bM 2 (ck fM (vC (.int 1)) (ko (eN 5) (ag 0)))
def F0:Sv:=
  aE wO yJ
abbrev tP:Ct:=wH
theorem nE:aA ["_law_cell","_law_name","_law_many","_law_tree_here","_law_k"] ["_law_cell","_law_name"] (ak jn):=⟨rfl,rfl,rfl,by decide +kernel,rfl,by decide +kernel,by decide +kernel⟩
theorem rH:Lk jn "_law_cell" .local:=by decide +kernel
theorem e_:Lk jn "_law_name" .local:=by decide +kernel
theorem dG:Lk jn "_law_many" .local:=by decide +kernel
theorem de:Lk jn "_law_tree_here" .local:=by decide +kernel
theorem v_:Lk jn "_law_k" .local:=by decide +kernel
theorem xq:Lk jn "range" .globalImplicit:=by decide +kernel
theorem HN:∀ ts Q,tP ts Q->ts.length=2:=wH.len
theorem O8{nm:Str}(n:Nat):((List.replicate n ([.str "sum",.str "(",.str nm,.str "in",.str "days",.str ","]:List Tv)).flatten++[.str nm])++(List.replicate n [Tv.str ")"]).flatten=(dw nm [] (List.replicate n .sm)).map Tv.str:=by
  rw[E3]
  have h1:∀ n,(List.replicate n ([.str "sum",.str "(",.str nm,.str "in",.str "days",.str ","]:List Tv)).flatten=((List.replicate n yg.sm).flatMap (m_ nm)).map Tv.str:=by
    intro n
    induction n with
    | zero=>rfl
    | succ n ih=>rw[List.replicate_succ,List.flatten_cons,ih,List.replicate_succ,List.flatMap_cons,List.map_append];rfl
  have h2:∀ n,(List.replicate n [Tv.str ")"]).flatten=(List.replicate n (")":Str)).map Tv.str:=by
    intro n
    induction n with
    | zero=>rfl
    | succ n ih=>rw[List.replicate_succ,List.flatten_cons,ih,List.replicate_succ];rfl
  have h3:∀ n,Ca (List.replicate n yg.sm)=n:=by
    intro n
    induction n with
    | zero=>rfl
    | succ n ih=>rw[List.replicate_succ];show Ca _+1=_;rw[ih]
  rw[h1,h2,h3,List.map_append,List.map_append]
  rfl
theorem VR:∀ n,rj (List.replicate n yg.sm)=n:=by
  intro n
  induction n with
  | zero=>rfl
  | succ n ih=>rw[List.replicate_succ];show rj _+1=_;rw[ih]
theorem Eu:∀ ts Q,tP ts Q->fu 5 F0 ts Q:=by
  rintro ts Q ⟨c,nm,rfl,hn,q⟩
  obtain⟨n,he,n0⟩:∃ n:Nat,1+c % 5=((n:Nat):Int)/\n<=5:=⟨(1+c % 5).toNat,by omega,by omega⟩
  have K3:∀ T:Sv,T [.va (.int c),.va (.str nm),.va (.int (1+c % 5)),.un,.un] (bg Q)->aE wO T [.va (.int c),.va (.str nm),.un,.un,.un] (bg Q):=fun T h=>h
  refine K3 yJ ?_
  rw[he]
  have en:((n:Nat):Int).toNat=n:=by omega
  have S3:∀ T:Sv,T [.va (.int c),.va (.str nm),.va (.int ((n:Nat):Int)),.va (km (.ent nm [])),.un] (bg Q)->aE xa T [.va (.int c),.va (.str nm),.va (.int ((n:Nat):Int)),.un,.un] (bg Q):=fun T h=>h
  refine S3 Aa ?_
  refine⟨⟨by show _<=((n:Nat):Int);omega,by show ((n:Nat):Int)<_;omega⟩,?_⟩
  refine qK (fun i ρ=>∃ x4,ρ=[.va (.int c),.va (.str nm),.va (.int ((n:Nat):Int)),.va (km (F_ nm (List.replicate i .sm) (.ent nm []))),x4]) ⟨_,rfl⟩ ?_ ?_
  · rintro i x ρ hi ⟨x4,rfl⟩ Kn hk
    exact⟨_,rfl,hk _ ⟨_,by rw[List.replicate_succ];rfl⟩⟩
  · rintro ρ ⟨x4,rfl⟩
    rw[nT,en]
    have hl1:((List.replicate n ([.str "sum",.str "(",.str nm,.str "in",.str "days",.str ","]:List Tv)).flatten).length<=30:=by
      rw[List.length_flatten,List.map_replicate,List.sum_replicate_nat]
      show n*6<=30
      omega
    have hl2:((List.replicate n [Tv.str ")"]).flatten).length<=5:=by
      rw[List.length_flatten,List.map_replicate,List.sum_replicate_nat]
      show n*1<=5
      omega
    have ms:(List.replicate n yg.sm).length=n:=List.length_replicate
    obtain⟨t1,t2⟩:=FI (ks:=[]) (ms:=List.replicate n .sm) hn (by decide) (fun _ h=>nomatch h) (by omega)
    rw[ms,VR] at t1 t2
    have hd:=tm (nm:=nm) (t:=.ent nm []) (List.replicate n .sm)
    rw[ms] at hd
    have hd:dp (F_ nm (List.replicate n .sm) (.ent nm []))<=n+1:=hd
    have q:=q (dw nm [] (List.replicate n .sm))
    rw[← O8] at q
    refine⟨⟨by show _<=((n:Nat):Int);omega,by show ((n:Nat):Int)<_;omega,by show 6*((n:Nat):Int).toNat<=_;rw[en];exact Nat.le_of_lt (d3 (by omega))⟩,?_⟩
    rw[en]
    refine⟨ie (m:=1) (by omega),⟨by show _<=((n:Nat):Int);omega,by show ((n:Nat):Int)<_;omega,by show 1*((n:Nat):Int).toNat<=_;rw[en];exact Nat.le_of_lt (d3 (by omega))⟩,?_⟩
    rw[en]
    refine⟨ie (by rw[List.length_append];show _+1+_<=_;omega),?_⟩
    refine bF (fun e=>?_) fun e=>?_
    · have:=of_decide_eq_true e
      exact q _ (.inl ⟨_,rfl,by omega,t1 ⟨by omega,.inl rfl,by omega⟩⟩)
    · have:=of_decide_eq_false e
      exact q _ (.inr ⟨rfl,t2 (.inr (.inr (by omega)))⟩)
theorem Jt(A:dS K mg)(B:pP mg):aQ P w K mg base (iP P w) 1 A.Am A.Ae ["_law_cell","_law_name"] (sN K tP):=
  i7 A.lI.F nE F0 HN Eu fun c9 A_ outer s H E hr=>have hu:=hr.units
  ah (aD (i:=2) nE.nd rfl (Or.inl dG) (bI (cn rfl) (au) (cN (v_var (i:=0) rfl (Or.inl rH)))))
  (ah (aD (i:=3) nE.nd rfl (Or.inl de) (cy (aa (aq) (ai (v_var (i:=1) rfl (Or.inl e_)) (gX (cy ae) ae)))))
  (ah (sI jj rfl (tu xq B.range (ai (v_var (i:=2) rfl (Or.inl dG)) ae)) (gh (i:=4) nE.nd rfl (Or.inl v_) (.inl rfl)) (gD 4) (av (aD (i:=3) nE.nd rfl (Or.inl de) (cy (aa (aq) (ai (v_var (i:=1) rfl (Or.inl e_)) (aa (aq) (ai (v_var (i:=3) rfl (Or.inl de)) ae))))))))
  (av (a_ (cy (bQ (bI (cn rfl) (bI (cn rfl) (bI mm (bj (aa (aq) (aa (aq) (ai (v_var (i:=1) rfl (Or.inl e_)) (aa (aq) (aa (aq) (aa (aq) ae))))))) (v_var (i:=2) rfl (Or.inl dG))) (bj (ai (v_var (i:=1) rfl (Or.inl e_)) ae))) (bI mm (bj (aa (aq) ae)) (v_var (i:=2) rfl (Or.inl dG)))) (yF (Jb (aZ RF (v_var (i:=2) rfl (Or.inl dG)) (au) (aL _)) (v_var (i:=3) rfl (Or.inl de)) (Bd)) ae)))))))
end
end Pw
namespace Pw
open PySem L2
seal PE PT PW PA PS ju PG sg PI rA PO PJ
section
variable {P:Program} {w:World} {K:PySem.W.Frag} {mg:Str->Option Value} {base:Heap} {f:Addr} {fd:FuncData}
def Fh:Sv:=Gr 5 (My 5 (ag 5) (T4 (eK Pe (ag 7) (vC (.str "sum"))) (cY [ag 7]) (cY [vC (.str "sum"),vC (.str "("),ag 1,vC (.str "in"),vC (.str "days"),vC (.str ",")])))
def CI:Sv:=Ke 4 (ag 7)
def p_:Sv:=aE CI Fh
def CC:Sv:=f_ (Qh (eK xG (ag 7) (vC (.str "sum"))) (eK xG (M7 4 (vC (.str "sum"))) (vC (.int 3)))) (bM 7 (vC (.str "("))) (dc)
def FX:Sv:=aE CC p_
def C8:Sv:=bM 7 (ck lj (cY [vC (.str "-"),vC (.str "("),ck lj (cY [vC (.str "("),vC (.str "-"),vC (.str "sum"),vC (.str "(")]) (ko (eN 4) (ck Bl (ag 0) (ck fM (vC (.int 75)) (ag 6))))]) (ck GA (ag 2) (vC (.int 1))))
def Fk:Sv:=aE C8 FX
def Ff:Sv:=bM 3 (ck fM (ag 3) (vC (.int 1)))
def Cq:Sv:=bM 9 (fG [vC (.str "entry"),ag 1,fG [vC (.str "mon")]])
def Fv:Sv:=aE Cq Ff
def CD:Sv:=Gr 5 (My 5 (ag 5) (cY [vC (.str "("),vC (.str "mon"),vC (.str ")")]))
def E4:Sv:=aE CD Fv
def ES:Sv:=Gr 5 (gk (fG [ck fM (ag 5) (ag 8),T4 (eK Xn (ag 3) (vC (.int 30))) (ag 9) (vC .non)]))
def CU:Sv:=FT (P3 (ag 4)) (gV 7) (f_ (eK xG (ag 7) (vC (.str "-"))) (bM 9 (fG [vC (.str "negative"),ag 9])) (f_ (eK xG (ag 7) (vC (.str "sum"))) (bM 9 (fG [vC (.str "sum"),ag 1,vC (.str "days"),ag 9])) (dc)))
def wA:Sv:=aE CU ES
def CH:Sv:=f_ (eK xG (ko (eN 3) (ko (gU 25) (ag 0))) (vC (.int 1))) (E4) (dc)
def wJ:Sv:=aE CH wA
def D2:Sv:=Ke 5 (ag 1)
def Gg:Sv:=aE D2 wJ
def FU:Sv:=bM 9 (fG [vC (.str "entry"),ag 1,fG []])
def Gf:Sv:=aE FU Gg
def FQ:Sv:=Gr 4 (bM 8 (ck sV (cY [vC (.str ")")]) (rh yR [BC 1 [] (K1 (ag 4)) (gV 0) (eK Pe (ag 0) (vC (.str "-"))) (ag 0)])))
def Ho:Sv:=aE FQ Gf
def F5:Sv:=FT (EO (ag 3)) (gV 6) (Fk)
def Gj:Sv:=aE F5 Ho
def Ey:Sv:=EA 5 []
def He:Sv:=aE Ey Gj
def F8:Sv:=EA 4 []
def zk:Sv:=aE F8 He
def w9:Sv:=bM 3 (ck fM (vC (.int 28)) (ko (eN 5) (ko (gU 5) (ag 0))))
def HE:Sv:=aE w9 zk
def Em:Sv:=f_ (eK xG (ag 2) (vC (.int 4))) (gk (bB tP [ko (gU 5) (ag 0),ag 1])) (dc)
def G_:Sv:=aE Em HE
def DY:Sv:=f_ (eK xG (ag 2) (vC (.int 0))) (gk (bB uG [ko (gU 5) (ag 0),ag 1])) (dc)
def yw:Sv:=aE DY G_
def wy:Sv:=bM 2 (ko (eN 5) (ag 0))
def DI:Sv:=
  aE wy yw
abbrev uk:Ct:=wH
theorem cw:aA ["_law_cell","_law_name","_law_kind","_law_many","_law_marks","_law_row","_law_k","_law_mark","_law_back","_law_tree_here"] ["_law_cell","_law_name"] (ak cS):=⟨rfl,rfl,rfl,by decide +kernel,rfl,by decide +kernel,by decide +kernel⟩
theorem cI:Lk cS "_law_cell" .local:=by decide +kernel
theorem bX:Lk cS "_law_name" .local:=by decide +kernel
theorem e7:Lk cS "_law_kind" .local:=by decide +kernel
theorem dF:Lk cS "_law_many" .local:=by decide +kernel
theorem dq:Lk cS "_law_marks" .local:=by decide +kernel
theorem cq:Lk cS "_law_row" .local:=by decide +kernel
theorem mU:Lk cS "_law_k" .local:=by decide +kernel
theorem bc:Lk cS "_law_mark" .local:=by decide +kernel
theorem kL:Lk cS "_law_back" .local:=by decide +kernel
theorem aY:Lk cS "_law_tree_here" .local:=by decide +kernel
theorem rB:Lk cS "_law_long" .globalImplicit:=by decide +kernel
theorem rn:Lk cS "_law_sums" .globalImplicit:=by decide +kernel
theorem AG:Lk cS "len" .globalImplicit:=by decide +kernel
theorem xB:Lk cS "range" .globalImplicit:=by decide +kernel
theorem sS:Lk cS "reversed" .globalImplicit:=by decide +kernel
theorem GY:∀ ts Q,uk ts Q->ts.length=2:=wH.len
abbrev BD(m:yg):Tv:=.str (T6 m)
theorem LA(nm:Str):∀ ms n,rj (ms++n)=rj ms+rj n
  | [],n=>by show rj n=0+rj n;omega
  | m::ms,n=>by
    have:=LA nm ms n
    cases m with
    | ng=>exact this
    | br=>exact this
    | sm=>show rj (ms++n)+1=rj ms+1+rj n;omega
theorem E2:∀ ms,(ms.map T6).count ("sum":Str)=rj ms
  | []=>rfl
  | m::ms=>by
    rw[List.map_cons,List.count_cons,E2 ms]
    cases m with
    | ng=>show rj ms+(if ((("-":Str)=="sum")=true) then 1 else 0)=rj ms;rw[if_neg (by decide),Nat.add_zero]
    | br=>show rj ms+(if ((("(":Str)=="sum")=true) then 1 else 0)=rj ms;rw[if_neg (by decide),Nat.add_zero]
    | sm=>show rj ms+(if ((("sum":Str)=="sum")=true) then 1 else 0)=rj ms+1;rw[if_pos (by decide)]
def Bg:yg->Bool
  | .ng=>false
  | _=>true
theorem qD:∀ ms,(ms.filter Bg).length=Ca ms
  | []=>rfl
  | .ng::ms=>qD ms
  | .br::ms=>by show (_::_).length=_;rw[List.length_cons];exact congrArg (·+1) (qD ms)
  | .sm::ms=>by show (_::_).length=_;rw[List.length_cons];exact congrArg (·+1) (qD ms)
theorem Fo:∀ ms,Ca ms<=ms.length
  | []=>Nat.le_refl _
  | .ng::ms=>Nat.le_trans (Fo ms) (Nat.le_succ _)
  | .br::ms=>Nat.succ_le_succ (Fo ms)
  | .sm::ms=>Nat.succ_le_succ (Fo ms)
theorem xZ{nm:Str}:∀ ms:List yg,(ms.flatMap (m_ nm)).length<=6*ms.length
  | []=>Nat.le_refl _
  | m::ms=>by
    rw[List.flatMap_cons,List.length_append,List.length_cons]
    have:=xZ (nm:=nm) ms
    have:(m_ nm m).length<=6:=by cases m <;> exact aJ rfl
    omega
theorem N_{x k:Int}{K':Tv->Prop}(x0:0<=x)(x1:x<4)(k0:0<=k)(k1:k<3)(h:∀ m:yg,K' (BD m)):mF (vg [Tv.str "(",.str "-",.str "sum",.str "("] x) fun t=>mF (vg [Tv.str "-",.str "(",t] k) K':=by
  refine oO x0 x1 fun t ht=>oO k0 k1 fun y hy=>?_
  have ht:∃ m,t=BD m:=by
    simp only [List.mem_cons,List.not_mem_nil,or_false] at ht
    rcases ht with rfl | rfl | rfl | rfl
    · exact⟨.br,rfl⟩
    · exact⟨.ng,rfl⟩
    · exact⟨.sm,rfl⟩
    · exact⟨.br,rfl⟩
  obtain⟨m,rfl⟩:=ht
  simp only [List.mem_cons,List.not_mem_nil,or_false] at hy
  rcases hy with rfl | rfl | rfl
  · exact h .ng
  · exact h .br
  · exact h m
theorem OB{m:yg}(h:T6 m≠"sum"):rj [m]=0:=by
  cases m with
  | ng=>rfl
  | br=>rfl
  | sm=>exact absurd rfl h
theorem QO(m:yg):rj [m]<=1:=by cases m <;> decide
theorem BH{c kind many:Int}{nm:Str}{ms:List yg}{D5:Addr}{ks:List Str}{x6 x7:Sl}{Q:yh Sl->Prop}(hn:Nw nm)(hl:ks.length<=2)(hk:∀ k∈ks,Nw k)(hm:ms.length<=32)(hc:rj ms<=3)(l1:ks.length<=1)(VC:many=((ms.length+ks.length:Nat):Int))
    (q:∀ W r,CK W r->Q (.ok (.va (.tup [.lst (W.map Tv.str),r])))) :
    wA [.va (.int c),.va (.str nm),.va (.int kind),.va (.int many),.va (.lst (ms.map BD)),.ow D5 ((ms.flatMap (m_ nm)++(nm::d6 ks)).map Tv.str),x6,x7,.va (.lst ((List.replicate (Ca ms) (")":Str)).map Tv.str)),.va (km (.ent nm ks))] (bg Q):=by
  refine qK (fun i ρ=>∃ x7,ρ=[.va (.int c),.va (.str nm),.va (.int kind),.va (.int many),.va (.lst (ms.map BD)),.ow D5 ((ms.flatMap (m_ nm)++(nm::d6 ks)).map Tv.str),x6,x7,.va (.lst ((List.replicate (Ca ms) (")":Str)).map Tv.str)),.va (km ((ms.reverse.take i).foldl (fun t m=>T5 nm m t) (.ent nm ks)))]) ⟨_,rfl⟩ ?_ ?_
  · rintro i x ρ hi ⟨x7,rfl⟩ Kn hk'
    rw[← List.map_reverse,List.getElem?_map] at hi
    obtain⟨m,e,rfl⟩:=Option.map_eq_some_iff.mp hi
    have et:(ms.reverse.take (i+1)).foldl (fun t m=>T5 nm m t) (.ent nm ks)=T5 nm m ((ms.reverse.take i).foldl (fun t m=>T5 nm m t) (.ent nm ks)):=by
      rw[List.take_add_one,e,List.foldl_append];rfl
    have SL:=fun x7=>hk' _ ⟨x7,rfl⟩
    rw[et] at SL
    cases m with
    | ng=>exact⟨_,rfl,SL _⟩
    | br=>exact⟨_,rfl,SL _⟩
    | sm=>exact⟨_,rfl,SL _⟩
  · rintro ρ ⟨x7,rfl⟩
    have et:(ms.reverse.take ((ms.map BD).reverse).length).foldl (fun t m=>T5 nm m t) (.ent nm ks)=F_ nm ms (.ent nm ks):=by
      rw[List.length_reverse,List.length_map,List.take_of_length_le (by rw[List.length_reverse];exact Nat.le_refl _)]
      unfold F_
      rw[List.foldr_eq_foldl_reverse]
    rw[et]
    have hp:=xZ (nm:=nm) ms
    have NC:=Fo ms
    have hkl:=yL hl
    have eW:(ms.flatMap (m_ nm)++(nm::d6 ks)).map Tv.str++(List.replicate (Ca ms) (")":Str)).map Tv.str=(dw nm ks ms).map Tv.str:=by rw[E3,List.map_append (l₁:=ms.flatMap (m_ nm)++(nm::d6 ks))]
    have q:=q (dw nm ks ms)
    rw[← eW] at q
    obtain⟨t1,t2⟩:=FI (ms:=ms) hn hl hk hm
    have hd:=tm (nm:=nm) (t:=.ent nm ks) ms
    have hd:dp (F_ nm ms (.ent nm ks))<=ms.length+1:=hd
    refine⟨ie (by rw[List.length_map,List.length_map,List.length_append,List.length_cons,List.length_replicate];omega),?_⟩
    refine bF (fun e=>?_) fun e=>?_
    · have:=of_decide_eq_true e
      refine q _ (.inl ⟨_,rfl,by omega,t1 ⟨by omega,?_,hc⟩⟩)
      by_cases z:ks=[]
      · exact .inl z
      · have:=List.length_pos_iff.mpr z
        exact .inr (by omega)
    · have:=of_decide_eq_false e
      refine q _ (.inr ⟨rfl,t2 ?_⟩)
      by_cases z:ks=[]
      · subst z
        rw[List.length_nil] at VC
        exact .inl (by omega)
      · have:=List.length_pos_iff.mpr z
        by_cases z2:30<ms.length
        · exact .inl z2
        · exact .inr (.inl ⟨z,by omega⟩)
theorem LH{c:Int}{nm:Str}{kind many:Int}{D4 D5:Addr}{ms:List yg}{l4 l5:List Tv}{m:yg}{x6:Sl}{Kn:En->Prop}{P':Fl->En->Prop}(h4:l4=ms.map BD)(h5:l5=(ms.flatMap (m_ nm)).map Tv.str)(hm:ms.length<=40)
    (hk:∀ D,Kn [.va (.int c),.va (.str nm),.va (.int kind),.va (.int many),.ow D4 ((ms++[m]).map BD),.ow D (((ms++[m]).flatMap (m_ nm)).map Tv.str),x6,.va (BD m),.un,.un]) :
    p_ [.va (.int c),.va (.str nm),.va (.int kind),.va (.int many),.ow D4 l4,.ow D5 l5,x6,.va (BD m),.un,.un] (F9 Kn P'):=by
  have hp:=xZ (nm:=nm) ms
  have e4:(ms++[m]).map BD=l4++[BD m]:=by rw[h4,List.map_append];rfl
  have e5:((ms++[m]).flatMap (m_ nm)).map Tv.str=l5++(m_ nm m).map Tv.str:=by rw[h5,List.flatMap_append,List.map_append];simp
  rw[e4,e5] at hk
  have b4:l4.length<=40:=by rw[h4,List.length_map];exact hm
  have b5:l5.length<=240:=by rw[h5,List.length_map];omega
  refine⟨d3 (by omega),?_⟩
  cases m with
  | ng=>exact⟨ie (m:=1) (by omega),fun D=>hk D⟩
  | br=>exact⟨ie (m:=1) (by omega),fun D=>hk D⟩
  | sm=>exact⟨ie (m:=6) (by omega),fun D=>hk D⟩
theorem E5:∀ ts Q,uk ts Q->fu 10 DI ts Q:=by
  rintro ts Q ⟨c,nm,rfl,hn,q⟩
  have tW:0<=c % 5/\c % 5<5:=⟨by omega,by omega⟩
  have K3:∀ T:Sv,T [.va (.int c),.va (.str nm),.va (.int (c % 5)),.un,.un,.un,.un,.un,.un,.un] (bg Q)->aE wy T [.va (.int c),.va (.str nm),.un,.un,.un,.un,.un,.un,.un,.un] (bg Q):=fun T h=>h
  refine K3 yw ?_
  generalize c % 5=kind at tW
  refine bF (fun e=>⟨c / 5,nm,rfl,hn,q⟩) fun e0=>bF (fun e=>⟨c / 5,nm,rfl,hn,q⟩) fun e4=>?_
  have n0:kind≠0:=of_decide_eq_false e0
  have n4:kind≠4:=of_decide_eq_false e4
  obtain⟨n,he,nl⟩:∃ n:Nat,28+c / 5 % 5=((n:Nat):Int)/\n<=32:=⟨(28+c / 5 % 5).toNat,by omega,by omega⟩
  have Z9:∀ T:Sv,T [.va (.int c),.va (.str nm),.va (.int kind),.va (.int (28+c / 5 % 5)),.un,.un,.un,.un,.un,.un] (bg Q)->aE w9 T [.va (.int c),.va (.str nm),.va (.int kind),.un,.un,.un,.un,.un,.un,.un] (bg Q):=fun T h=>h
  refine Z9 zk ?_
  rw[he]
  have en:((n:Nat):Int).toNat=n:=by omega
  intro D4 D5
  refine⟨⟨by show _<=((n:Nat):Int);omega,by show ((n:Nat):Int)<_;omega⟩,?_⟩
  refine qK (fun i ρ=>∃ ms l4 l5 D5 x6 x7,l4=ms.map BD/\l5=(ms.flatMap (m_ nm)).map Tv.str/\ms.length=i/\rj ms<=3/\ρ=[.va (.int c),.va (.str nm),.va (.int kind),.va (.int ((n:Nat):Int)),.ow D4 l4,.ow D5 l5,x6,x7,.un,.un]) ⟨[],[],[],D5,.un,.un,rfl,rfl,rfl,by decide,rfl⟩ ?_ ?_
  · rintro i x ρ hi ⟨ms,l4,l5,D5,x6,x7,h4,h5,hm,hc,rfl⟩ Kn hk
    obtain⟨hi,rfl⟩:=Ce hi
    rw[en] at hi
    have YQ:∀ {P':Fl->En->Prop} m,rj ms+rj [m]<=3->p_ [.va (.int c),.va (.str nm),.va (.int kind),.va (.int ((n:Nat):Int)),.ow D4 l4,.ow D5 l5,.va (.int (i:Int)),.va (BD m),.un,.un] (F9 Kn P'):=fun m h=>LH h4 h5 (by omega) fun D=>hk _ ⟨ms++[m],_,_,D,_,_,rfl,rfl,by rw[List.length_append,hm];rfl,by rw[LA nm];exact h,rfl⟩
    refine⟨_,rfl,⟨by show (75:Int)+i≠0;omega,?_⟩,?_⟩
    · show ((75:Int)+i).natAbs.log2<9000
      exact Nat.lt_of_le_of_lt (Nat.log2_le_self _) (by omega)
    refine N_ (Int.emod_nonneg _ (by decide)) (Int.emod_lt_of_pos _ (by decide)) (by show 0<=kind-1;omega) (by show kind-1<3;omega) fun m=>?_
    refine bF (fun e=>?_) fun e=>YQ m ?_
    · have es:T6 m="sum":=of_decide_eq_true e
      refine⟨ms.map T6,by rw[h4,List.map_map];rfl,?_⟩
      show (if decide ((((ms.map T6).count ("sum":Str):Nat):Int)=3)=true then _ else dc) _ _
      rw[E2]
      refine bF (fun e2=>YQ .br hc) fun e2=>YQ m ?_
      have:=of_decide_eq_false e2
      have:=QO m
      omega
    · rw[OB (of_decide_eq_false e)];exact hc
  · rintro ρ ⟨ms,l4,l5,D5,x6,x7,h4,h5,hm,hc,rfl⟩
    rw[nT,en] at hm
    subst h4 h5
    have hp:=xZ (nm:=nm) ms
    have e8:(List.replicate (Ca ms) [Tv.str ")"]).flatten=(List.replicate (Ca ms) (")":Str)).map Tv.str:=by
      induction Ca ms with
      | zero=>rfl
      | succ n ih=>rw[List.replicate_succ,List.flatten_cons,ih,List.replicate_succ];rfl
    have NC:=Fo ms
    refine⟨d3 (by rw[List.length_map];omega),Gz Bg BD BD ?_ ?_⟩
    · intro m _ Ky Kn h1 h2
      cases m with
      | ng=>exact⟨_,rfl,rfl,h2 rfl⟩
      | br=>exact⟨_,rfl,rfl,rfl,h1 rfl⟩
      | sm=>exact⟨_,rfl,rfl,rfl,h1 rfl⟩
    have el:((ms.filter Bg).map BD).length=Ca ms:=by rw[List.length_map,qD]
    have ec:((((ms.filter Bg).map BD).length:Nat):Int).toNat=Ca ms:=by rw[el];omega
    refine⟨⟨by show _<=((((ms.filter Bg).map BD).length:Nat):Int);omega,by show ((((ms.filter Bg).map BD).length:Nat):Int)<_;rw[el];omega,by rw[ec];exact Nat.le_of_lt (d3 (by show 1*_<=_;omega))⟩,?_⟩
    rw[ec,e8]
    refine⟨d3 (by rw[List.length_map];omega),?_⟩
    show wJ [.va (.int c),.va (.str nm),.va (.int kind),.va (.int ((n:Nat):Int)),.va (.lst (ms.map BD)),.ow D5 ((ms.flatMap (m_ nm)).map Tv.str++[.str nm]),x6,x7,.va (.lst ((List.replicate (Ca ms) (")":Str)).map Tv.str)),.va (km (.ent nm []))] (bg Q)
    refine bF (fun e=>?_) fun e=>?_
    · refine⟨ie (m:=3) (by rw[List.length_append,List.length_map];show _+1+3<=_;omega),fun D=>?_⟩
      have t:=BH (c:=c) (kind:=kind) (many:=((n:Nat):Int)+1) (ms:=ms) (D5:=D) (ks:=["mon"]) (x6:=x6) (x7:=x7) (Q:=Q) hn (by decide) (fun k h=>by rw[List.mem_singleton.mp h];exact MP) (by omega) hc (by decide) (by show ((n:Nat):Int)+1=((ms.length+1:Nat):Int);omega) q
      have e5:(ms.flatMap (m_ nm)++(nm::d6 ["mon"])).map Tv.str=(ms.flatMap (m_ nm)).map Tv.str++[.str nm]++[.str "(",.str "mon",.str ")"]:=by rw[List.map_append,List.append_assoc];rfl
      rw[e5] at t
      exact t
    · have t:=BH (c:=c) (kind:=kind) (many:=((n:Nat):Int)) (ms:=ms) (D5:=D5) (ks:=[]) (x6:=x6) (x7:=x7) (Q:=Q) hn (by decide) (fun _ h=>nomatch h) (by omega) hc (by decide) (by show ((n:Nat):Int)=((ms.length+0:Nat):Int);omega) q
      have e5:(ms.flatMap (m_ nm)++(nm::d6 [])).map Tv.str=(ms.flatMap (m_ nm)).map Tv.str++[.str nm]:=by rw[List.map_append];rfl
      rw[e5] at t
      exact t
theorem JA(A:dS K mg)(B:pP mg):aQ P w K mg base (iP P w) 2 A.yr A.Ad ["_law_cell","_law_name"] (sN K uk):=
  i7 A.lN.F cw DI GY E5 fun c9 A_ outer s H E hr=>have hu:=hr.units
  ah (aD (i:=2) cw.nd rfl (Or.inl e7) (cN (v_var (i:=0) rfl (Or.inl cI))))
  (ah (cM (aZ (k9 rfl hu) (v_var (i:=2) rfl (Or.inl e7)) (au) (aL _)) (av (a_ (aT rfl (JH A B) (hr.mono (by decide)) rB A.lD.m A.lD.F.kp A.lD.b af (bQ (ef (v_var (i:=0) rfl (Or.inl cI))) (ai (v_var (i:=1) rfl (Or.inl bX)) ae))))) (cg))
  (ah (cM (aZ (k9 rfl hu) (v_var (i:=2) rfl (Or.inl e7)) (au) (aL _)) (av (a_ (aT rfl (Jt A B) (hr.mono (by decide)) rn A.lI.m A.lI.F.kp A.lI.b af (bQ (ef (v_var (i:=0) rfl (Or.inl cI))) (ai (v_var (i:=1) rfl (Or.inl bX)) ae))))) (cg))
  (ah (aD (i:=3) cw.nd rfl (Or.inl dF) (bI (cn rfl) (au) (cN (ef (v_var (i:=0) rfl (Or.inl cI))))))
  (ah (xW (i:=4) cw.nd rfl (Or.inl dq) ae)
  (ah (xW (i:=5) cw.nd rfl (Or.inl cq) ae)
  (ah (sI jj rfl (tu xB B.range (ai (v_var (i:=3) rfl (Or.inl dF)) ae)) (gh (i:=6) cw.nd rfl (Or.inl mU) (.inl rfl)) (gD 6) (ah (aD (i:=7) cw.nd rfl (Or.inl bc) (d9 (d_ rfl) (bj (aa (aq) (aa (aq) (aN (d9 (d_ rfl) (bj (aa (aq) (aa (aq) (aa (aq) (aa (aq) ae))))) (cN (bI yo (v_var (i:=0) rfl (Or.inl cI)) (bI (cn rfl) (au) (v_var (i:=6) rfl (Or.inl mU))))) (fun _ _=>rfl)) ae)))) (bI Bm (v_var (i:=2) rfl (Or.inl e7)) (au)) (fun _ _=>rfl)))
  (ah (cM (PW.pt (KW (aZ (k9 rfl hu) (v_var (i:=7) rfl (Or.inl bc)) (aq) (aL _)) (Ic (aZ (k9 rfl hu) (TM (i:=4) rfl (Or.inl dq) (aq)) (au) (aL _))))) (av (aD (i:=7) cw.nd rfl (Or.inl bc) (aq))) (cg))
  (ah (CT (i:=4) rfl rfl (Or.inl dq) (v_var (i:=7) rfl (Or.inl bc)))
  (av (we 5 (Jj (i:=5) cw.nd rfl (Or.inl cq) (v_var (i:=5) rfl (Or.inl cq)) (Jb (aZ (Hr rfl hu) (v_var (i:=7) rfl (Or.inl bc)) (aq) (aL _)) (bj (ai (v_var (i:=7) rfl (Or.inl bc)) ae)) (bj (aa (aq) (aa (aq) (ai (v_var (i:=1) rfl (Or.inl bX)) (aa (aq) (aa (aq) (aa (aq) ae)))))))))))))))
  (ah (we 4 (aD (i:=8) cw.nd rfl (Or.inl kL) (bI mm (bj (aa (aq) ae)) (my (r9 rfl) AG B.len lU (pT (pL rfl (j7 ["_law_mark"] [] ["_law_cell","_law_name","_law_kind","_law_many","_law_marks","_law_row","_law_k","_law_mark","_law_back","_law_tree_here"] (by decide +kernel)) (vp rfl) (by decide +kernel) rfl (by decide +kernel) (fun y hy=>PySem.mem_of_lookup hy) rfl (gD 0) (gL (by decide)) i4 (vX rfl (v_var (i:=4) rfl (Or.inl dq))) (fun cl C s H fp pins=>gh (i:=0) (show (["_law_mark"]:List Str).Nodup by decide +kernel) rfl (Or.inl (kj (by decide +kernel))) (.inr (kj (by decide +kernel)))) (fun cl C s H fp pins=>OH (aZ (Hr rfl hu) (v_var (i:=0) rfl (oQ (by decide +kernel))) (aq) (aL _))) (fun cl C s H fp pins=>v_var (i:=0) rfl (oQ (by decide +kernel)))) ae)))))
  (ah (aD (i:=9) cw.nd rfl (Or.inl aY) (cy (aa (aq) (ai (v_var (i:=1) rfl (Or.inl bX)) (gX (cy ae) ae)))))
  (ah (CT (i:=5) rfl rfl (Or.inl cq) (v_var (i:=1) rfl (Or.inl bX)))
  (ah (cM (aZ (k9 rfl hu) (cN (ef (v_var (i:=0) rfl (Or.inl cI)))) (au) (aL _)) (ah (we 5 (Jj (i:=5) cw.nd rfl (Or.inl cq) (v_var (i:=5) rfl (Or.inl cq)) (bj (aa (aq) (aa (aq) (aa (aq) ae))))))
  (ah (aD (i:=9) cw.nd rfl (Or.inl aY) (cy (aa (aq) (ai (v_var (i:=1) rfl (Or.inl bX)) (gX (cy (aa (aq) ae)) ae)))))
  (av (aD (i:=3) cw.nd rfl (Or.inl dF) (bI (cn rfl) (v_var (i:=3) rfl (Or.inl dF)) (au)))))) (cg))
  (ah (sI jj rfl (S' rfl sS B.reversed (ai (v_var (i:=4) rfl (Or.inl dq)) ae)) (gh (i:=7) cw.nd rfl (Or.inl bc) (.inl rfl)) (gD 7) (av (cM (aZ (k9 rfl hu) (v_var (i:=7) rfl (Or.inl bc)) (aq) (aL _)) (av (aD (i:=9) cw.nd rfl (Or.inl aY) (cy (aa (aq) (ai (v_var (i:=9) rfl (Or.inl aY)) ae))))) (av (cM (aZ (k9 rfl hu) (v_var (i:=7) rfl (Or.inl bc)) (aq) (aL _)) (av (aD (i:=9) cw.nd rfl (Or.inl aY) (cy (aa (aq) (ai (v_var (i:=1) rfl (Or.inl bX)) (aa (aq) (ai (v_var (i:=9) rfl (Or.inl aY)) ae))))))) (cg))))))
  (av (we 5 (a_ (cy (bQ (bI (cn rfl) (v_var (i:=5) rfl (Or.inl cq)) (v_var (i:=8) rfl (Or.inl kL))) (yF (Jb (aZ RF (v_var (i:=3) rfl (Or.inl dF)) (au) (aL _)) (v_var (i:=9) rfl (Or.inl aY)) (Bd)) ae)))))))))))))))))
end
end Pw
namespace Pw
open PySem L2
seal PE PT PW PA PS ju PG sg PI rA PO PJ
section
variable {P:Program} {w:World} {K:PySem.W.Frag} {mg:Str->Option Value} {base:Heap} {f:Addr} {fd:FuncData}
theorem IX{α:Type}{l:List Tv}{t:Tv}(h:t∈l){f:List (List Str)}(e:l=f.map fun A=>Tv.lst (A.map Tv.str)):∃ A∈f,t=.lst (A.map Tv.str):=by
  rw[e] at h
  obtain⟨A,hA,rfl⟩:=List.mem_map.mp h
  exact⟨A,hA,rfl⟩
def GC(B:List Str):Prop:=B.length<=2/\(B=[]\/∃ b B',B=b::B'/\b≠"("/\b≠"/"/\b≠"*"/\b≠"+"/\b≠"-")
theorem Nw.tail{x:Str}(h:Nw x):x≠"("/\x≠"/"/\x≠"*"/\x≠"+"/\x≠"-":=⟨h.ne (by decide +kernel),h.ne (by decide +kernel),h.ne (by decide +kernel),h.ne (by decide +kernel),h.ne (by decide +kernel)⟩
theorem Sr{t:ir}{A ws B:List Str}(hk:TK 3 t)(hd:dp t<=6)(hw:Row t 1 ws)(hB:GC B):Rd (A++ws++B) 140 .term 0 0 A.length (some t) (A.length+ws.length):=by
  have n:sn (A++ws++B) (A.length+ws.length)≠"("/\sn (A++ws++B) (A.length+ws.length)≠"/"/\sn (A++ws++B) (A.length+ws.length)≠"*"/\sn (A++ws++B) (A.length+ws.length)≠"+"/\sn (A++ws++B) (A.length+ws.length)≠"-":=by
    rcases hB.2 with rfl | ⟨b,B',rfl,h⟩
    · rw[N9];decide
    · rw[Sg];exact h
  have ha:=Mt hd
  have A6:Af 6=90:=rfl
  have h0:Rd (A++ws++B) 1 (.tl t) 0 0 (A.length+ws.length) (some t) (A.length+ws.length):=.inr (.inr ⟨n.2.2.2.1,n.2.2.2.2,rfl,rfl⟩)
  exact bH ((reads t 3 hk (by omega)).p1 ws hw A.length 0 0 (90+6) _ _ (At.self A ws B) n.1 n.2.1 n.2.2.1 (by omega) (by omega) (by omega) (bH h0 (by decide))) (by omega)
def NG(cc:Kd->Addr)(cC cB cT:Addr):Sv:=gk (LW (ck Y' (bB (p9 cc cB) [ag 7,vC (.int 0)]) (vC .non)) (ck Y' (bB (p9 cc cB) [rh Ja [ag 7],vC (.int 0)]) (vC .non)))
def MD(cc:Kd->Addr)(cC cB cT:Addr):Sv:=f_ (eK UB (ag 2) (vC .non)) (gk (bB (mY cc cC cB cT) [ag 7,vC (.int 0),ag 2,rh yR [ag 7]])) (dc)
def IS(cc:Kd->Addr)(cC cB cT:Addr):Sv:=aE (MD cc cC cB cT) (NG cc cC cB cT)
def Mb(cc:Kd->Addr)(cC cB cT:Addr):Sv:=Tg (gT [7,2]) (bB uk [ko (gU 7) (bB cv [bB oR [ag 0,vC (.int 5)],vC (.int 4)]),ck lj (ag 1) (vC (.int 1))])
def HY(cc:Kd->Addr)(cC cB cT:Addr):Sv:=aE (Mb cc cC cB cT) (IS cc cC cB cT)
def Lb(cc:Kd->Addr)(cC cB cT:Addr):Sv:=f_ (Dh (j' pf (bB (mY cc cC cB cT) [ck fM (ck fM (ag 5) (ag 4)) (ag 6),rh yR [ag 5],ag 2,ck fM (rh yR [ag 5]) (rh yR [ag 4])]))) (gk (vC (.bl false))) (dc)
def IL(cc:Kd->Addr)(cC cB cT:Addr):Sv:=aE (Lb cc cC cB cT) (HY cc cC cB cT)
def M0(cc:Kd->Addr)(cC cB cT:Addr):Sv:=bM 6 (ck lj (cY [cY [],cY [vC (.str ")")],cY [vC (.str ",")],cY [vC (.str ".")],cY [vC (.str "<=")],cY [vC (.str ">=")],cY [vC (.str "=")],cY [vC (.str ":")],cY [vC (.str "to"),vC (.str "3")],cY [ck lj (ag 1) (vC (.int 0)),vC (.str "(")]]) (ko (eN 10) (ko (gU 4) (ag 3))))
def IP(cc:Kd->Addr)(cC cB cT:Addr):Sv:=aE (M0 cc cC cB cT) (IL cc cC cB cT)
def KZ(cc:Kd->Addr)(cC cB cT:Addr):Sv:=bM 5 (ck lj (cY [cY [vC (.str "row"),vC (.str "a"),vC (.str ":")],cY [],cY [vC (.str "(")],cY [vC (.str "-"),vC (.str "<=")]]) (ko (eN 4) (ag 3)))
def H_(cc:Kd->Addr)(cC cB cT:Addr):Sv:=aE (KZ cc cC cB cT) (IP cc cC cB cT)
def Ll(cc:Kd->Addr)(cC cB cT:Addr):Sv:=bM 4 (bB (c8 6) [ag 2,vC (.int 1),bB cv [bB oR [ag 0,vC (.int 4)],vC (.int 3)]])
def O4(cc:Kd->Addr)(cC cB cT:Addr):Sv:=aE (Ll cc cC cB cT) (H_ cc cC cB cT)
def Lu(cc:Kd->Addr)(cC cB cT:Addr):Sv:=bM 3 (ko (gU 7) (bB cv [bB oR [ag 0,vC (.int 3)],vC (.int 2)]))
def Oz(cc:Kd->Addr)(cC cB cT:Addr):Sv:=aE (Lu cc cC cB cT) (O4 cc cC cB cT)
def M1(cc:Kd->Addr)(cC cB cT:Addr):Sv:=bM 2 (bB (gP 6) [bB cv [bB oR [ag 0,vC (.int 1)],vC (.int 1)],ck fM (vC (.int 1)) (ko (eN 5) (bB oR [ag 0,vC (.int 2)])),vC (.int 3),ag 1])
def Ny(cc:Kd->Addr)(cC cB cT:Addr):Sv:=aE (M1 cc cC cB cT) (Oz cc cC cB cT)
def LG(cc:Kd->Addr)(cC cB cT:Addr):Sv:=bM 1 (bB t4 [rh Ub [bB oR [ag 0,vC (.int 0)]]])
def Pq(cc:Kd->Addr)(cC cB cT:Addr):Sv:=
  aE (LG cc cC cB cT) (Ny cc cC cB cT)
def Jo(cc:Kd->Addr)(cC cB cT:Addr):Ct:=fun ts P=>∃ ns:List Int,ts=[.scr (ns.map Tv.int)]/\QA ns/\P (.ok (.va (.bl true)))
theorem oy:aA ["_law_script","_law_pool_here","_law_tree_here","_law_cell","_law_own","_law_ahead","_law_tail","_law_row"] ["_law_script"] (ak fK):=⟨rfl,rfl,rfl,by decide +kernel,rfl,by decide +kernel,by decide +kernel⟩
theorem cZ:Lk fK "_law_script" .local:=by decide +kernel
theorem d5:Lk fK "_law_pool_here" .local:=by decide +kernel
theorem b8:Lk fK "_law_tree_here" .local:=by decide +kernel
theorem jA:Lk fK "_law_cell" .local:=by decide +kernel
theorem ky:Lk fK "_law_own" .local:=by decide +kernel
theorem gH:Lk fK "_law_ahead" .local:=by decide +kernel
theorem nc:Lk fK "_law_tail" .local:=by decide +kernel
theorem gj:Lk fK "_law_row" .local:=by decide +kernel
theorem fD:Lk fK "_law_at" .globalImplicit:=by decide +kernel
theorem vZ:Lk fK "_law_deep" .globalImplicit:=by decide +kernel
theorem gF:Lk fK "_law_mixed" .globalImplicit:=by decide +kernel
theorem vW:Lk fK "_law_pool" .globalImplicit:=by decide +kernel
theorem mi:Lk fK "_law_right" .globalImplicit:=by decide +kernel
theorem sH:Lk fK "_law_row_of" .globalImplicit:=by decide +kernel
theorem mR:Lk fK "_law_told" .globalImplicit:=by decide +kernel
theorem wk:Lk fK "_law_tree" .globalImplicit:=by decide +kernel
theorem HR:Lk fK "abs" .globalImplicit:=by decide +kernel
theorem oz:Lk fK "len" .globalImplicit:=by decide +kernel
theorem FO:Lk fK "list" .globalImplicit:=by decide +kernel
theorem O_{cc:Kd->Addr}{cC cB cT:Addr}:∀ ts Q,Jo cc cC cB cT ts Q->ts.length=1:=fun ts Q ⟨_,e,_⟩=>by rw[e];rfl
theorem N7{cc:Kd->Addr}{cC cB cT:Addr}{x0 x1 x3 x4 x5 x6:Sl}{W:List Str}{r:Tv}{Q:yh Sl->Prop}(ok:CK W r)(q:Q (.ok (.va (.bl true)))):IS cc cC cB cT [x0,x1,.va r,x3,x4,x5,x6,.va (.lst (W.map Tv.str))] (bg Q):=by
  rcases ok with ⟨t,rfl,hd,R⟩ | ⟨rfl,z,R⟩
  · exact⟨140,W,0,t,W.length,by rw[List.length_map];rfl,Nat.le_refl _,R,hd,q⟩
  · exact⟨140,W,0,none,z,rfl,Nat.le_refl _,R,140,W,0,none,z,rfl,Nat.le_refl _,R,q⟩
theorem NL{cc:Kd->Addr}{cC cB cT:Addr}{ns:List Int}{jI:List Str}{x3:Sl}{t:ir}{A ws B:List Str}{Q:yh Sl->Prop}(xc:QA ns)(hp:yM jI)(hk:TK 3 t)(hd:dp t<=6)(hw:Row t 1 ws)(hA:A.length<=3)(hB:GC B)(q:Q (.ok (.va (.bl true)))):
    IL cc cC cB cT [.va (.scr (ns.map Tv.int)),.va (.lst (jI.map Tv.str)),.va (km t),x3,.va (.lst (ws.map Tv.str)),.va (.lst (A.map Tv.str)),.va (.lst (B.map Tv.str)),.un] (bg Q):=by
  have hl:=Row.xc hd (Nat.le_refl _) hk hw
  have hb:=hB.1
  refine⟨ie (by rw[List.length_map,List.length_map];omega),ie (by rw[List.length_append,List.length_map,List.length_map,List.length_map];omega),?_⟩
  refine⟨140,A++ws++B,A.length,t,A.length+ws.length,by simp,Nat.le_refl _,Sr hk hd hw hB,by omega,?_⟩
  show HY cc cC cB cT [.va (.scr (ns.map Tv.int)),.va (.lst (jI.map Tv.str)),.va (km t),x3,.va (.lst (ws.map Tv.str)),.va (.lst (A.map Tv.str)),.va (.lst (B.map Tv.str)),.un] (bg Q)
  refine⟨ns,5,rfl,xc,by decide,fun c5 h5=>⟨c5,4,rfl,h5,⟨by decide,by decide⟩,fun m5 a5 b5=>?_⟩⟩
  refine pick (i:=1) hp (by decide) (by decide) fun x hx=>⟨_,x,rfl,hp.2 x hx,fun W r ok=>⟨_,rfl,?_⟩⟩
  exact N7 ok q
theorem MV{cc:Kd->Addr}{cC cB cT:Addr}:∀ ts Q,Jo cc cC cB cT ts Q->fu 8 (Pq cc cC cB cT) ts Q:=by
  rintro ts Q ⟨ns,rfl,xc,q⟩
  refine⟨ns,0,rfl,xc,by decide,fun c0 h0=>⟨_,rfl,fun jI hp=>?_⟩⟩
  refine⟨ns,1,rfl,xc,by decide,fun c1 h1=>⟨c1,1,rfl,h1,⟨by decide,by decide⟩,fun cell a0 a1=>?_⟩⟩
  refine⟨ns,2,rfl,xc,by decide,fun c2 h2=>?_⟩
  have d0:0<=c2 % 5:=Int.emod_nonneg _ (by decide)
  have d1:c2 % 5<5:=Int.emod_lt_of_pos _ (by decide)
  refine⟨cell,1+c2 % 5,3,jI,rfl,wG a0 a1,by omega,by show 1+c2 % 5<=((5:Nat):Int);omega,by decide,hp,fun t hd tk=>?_⟩
  have hd:dp t<=6:=by omega
  have tk:TK 3 t:=tk
  refine⟨ns,3,rfl,xc,by decide,fun c3 h3=>⟨c3,2,rfl,h3,⟨by decide,by decide⟩,fun m3 a3 b3=>?_⟩⟩
  refine⟨ns,4,rfl,xc,by decide,fun c4 h4=>⟨c4,3,rfl,h4,⟨by decide,by decide⟩,fun m4 a4 b4=>⟨t,1,m4,3,rfl,hd,by decide,by decide,tk,wG a4 b4,fun ws hw=>?_⟩⟩⟩
  show H_ cc cC cB cT [.va (.scr (ns.map Tv.int)),.va (.lst (jI.map Tv.str)),.va (km t),.va (.int (m3 / 7)),.va (.lst (ws.map Tv.str)),.un,.un,.un] (bg Q)
  refine oO (i:=m3 / 7 % 4) (by omega) (by show _<(4:Int);omega) fun y hy=>?_
  obtain⟨A,hA,rfl⟩:∃ A:List Str,A.length<=3/\y=.lst (A.map Tv.str):=by
    obtain⟨A,hA,e⟩:=IX (α:=Nat) hy (f:=[["row","a",":"],[],["("],["-","<="]]) rfl
    refine⟨A,?_,e⟩
    simp only [List.mem_cons,List.not_mem_nil,or_false] at hA
    rcases hA with rfl | rfl | rfl | rfl <;> decide
  show IP cc cC cB cT [.va (.scr (ns.map Tv.int)),.va (.lst (jI.map Tv.str)),.va (km t),.va (.int (m3 / 7)),.va (.lst (ws.map Tv.str)),.va (.lst (A.map Tv.str)),.un,.un] (bg Q)
  refine pick (i:=0) hp (by decide) (by decide) fun x hx=>?_
  refine oO (i:=m3 / 7 / 4 % 10) (by omega) (by show _<(10:Int);omega) fun y hy=>?_
  obtain⟨B,hB,rfl⟩:∃ B:List Str,GC B/\y=.lst (B.map Tv.str):=by
    obtain⟨B,hB,e⟩:=IX (α:=Nat) hy (f:=[[],[")"],[","],["."],["<="],[">="],["="],[":"],["to","3"],[x,"("]]) rfl
    refine⟨B,?_,e⟩
    simp only [List.mem_cons,List.not_mem_nil,or_false] at hB
    rcases hB with rfl | rfl | rfl | rfl | rfl | rfl | rfl | rfl | rfl | rfl
    · exact⟨by decide,.inl rfl⟩
    all_goals first | exact⟨by decide,.inr ⟨_,_,rfl,by decide⟩⟩ | exact⟨Nat.le_refl _,.inr ⟨_,_,rfl,(hp.2 x hx).tail⟩⟩
  exact NL xc hp tk hd hw hA hB q
theorem Qx(A:dS K mg)(B:pP mg):aQ P w K mg base (iP P w) 214 A.Mg A.MS ["_law_script"] (sN K (Jo A.c A.cC A.cB A.cT)):=
  i7 A.IY.F oy (Pq A.c A.cC A.cB A.cT) O_ MV fun c9 A_ outer s H E hr=>have hu:=hr.units
  ah (aD (i:=1) oy.nd rfl (Or.inl d5) (aT rfl (Km A B) (hr.mono (by decide)) vW A.lB.m A.lB.F.kp A.lB.b af (aM (my UR HR B.abs Hm (aM (aT rfl (qw A B) (hr.mono (by decide)) fD A.ee.m A.ee.F.kp A.ee.b af (ai (v_var (i:=0) rfl (Or.inl cZ)) (aa (au) ae))) ae)) ae)))
  (ah (aD (i:=2) oy.nd rfl (Or.inl b8) (aT rfl (Bs A B 6) (hr.mono (by decide)) wk A.fo.m A.fo.F.kp A.fo.b af (aM (aT rfl (cG A B) (hr.mono (by decide)) gF A.ay.m A.ay.F.kp A.ay.b af (aM (aT rfl (qw A B) (hr.mono (by decide)) fD A.ee.m A.ee.F.kp A.ee.b af (ai (v_var (i:=0) rfl (Or.inl cZ)) (aa (au) ae))) (aa (au) ae))) (bQ (bI (cn rfl) (au) (cN (aT rfl (qw A B) (hr.mono (by decide)) fD A.ee.m A.ee.F.kp A.ee.b af (ai (v_var (i:=0) rfl (Or.inl cZ)) (aa (au) ae))))) (aa (au) (ai (v_var (i:=1) rfl (Or.inl d5)) ae))))))
  (ah (aD (i:=3) oy.nd rfl (Or.inl jA) (ef (aT rfl (cG A B) (hr.mono (by decide)) gF A.ay.m A.ay.F.kp A.ay.b af (aM (aT rfl (qw A B) (hr.mono (by decide)) fD A.ee.m A.ee.F.kp A.ee.b af (ai (v_var (i:=0) rfl (Or.inl cZ)) (aa (au) ae))) (aa (au) ae)))))
  (ah (aD (i:=4) oy.nd rfl (Or.inl ky) (aT rfl (wK A B 6) (hr.mono (by decide)) sH A.bz.m A.bz.F.kp A.bz.b af (ai (v_var (i:=2) rfl (Or.inl b8)) (aa (au) (aM (aT rfl (cG A B) (hr.mono (by decide)) gF A.ay.m A.ay.F.kp A.ay.b af (aM (aT rfl (qw A B) (hr.mono (by decide)) fD A.ee.m A.ee.F.kp A.ee.b af (ai (v_var (i:=0) rfl (Or.inl cZ)) (aa (au) ae))) (aa (au) ae))) ae)))))
  (ah (aD (i:=5) oy.nd rfl (Or.inl gH) (d9 (d_ rfl) (bj (hz:=aJ rfl) (eT (bj (hz:=aJ rfl) (aa (aq) (aa (aq) (aa (aq) ae)))) (eT (bj ae) (eT (bj (hz:=aJ rfl) (aa (aq) ae)) (eT (bj (hz:=aJ rfl) (aa (aq) (aa (aq) ae))) ae))))) (cN (v_var (i:=3) rfl (Or.inl jA))) (fun _ _=>rfl)))
  (ah (aD (i:=6) oy.nd rfl (Or.inl nc) (d9 (d_ rfl) (bj (hz:=aJ rfl) (eT (bj ae) (eT (bj (hz:=aJ rfl) (aa (aq) ae)) (eT (bj (hz:=aJ rfl) (aa (aq) ae)) (eT (bj (hz:=aJ rfl) (aa (aq) ae)) (eT (bj (hz:=aJ rfl) (aa (aq) ae)) (eT (bj (hz:=aJ rfl) (aa (aq) ae)) (eT (bj (hz:=aJ rfl) (aa (aq) ae)) (eT (bj (hz:=aJ rfl) (aa (aq) ae)) (eT (bj (hz:=aJ rfl) (aa (aq) (aa (aq) ae))) (eT (bj (hz:=aJ rfl) (aN (d9 (d_ rfl) (v_var (i:=1) rfl (Or.inl d5)) (au) (fun _ _=>rfl)) (aa (aq) ae))) ae))))))))))) (cN (ef (v_var (i:=3) rfl (Or.inl jA)))) (fun _ _=>rfl)))
  (ah (cM (p8 (ic rfl (aT rfl (zE A B) (hr.mono (by decide)) mi A.gr.m A.gr.F.kp A.gr.b af (bQ (bI (cn rfl) (bI (cn rfl) (v_var (i:=5) rfl (Or.inl gH)) (v_var (i:=4) rfl (Or.inl ky))) (v_var (i:=6) rfl (Or.inl nc))) (aM (my (r9 rfl) oz B.len lU (ai (v_var (i:=5) rfl (Or.inl gH)) ae)) (ai (v_var (i:=2) rfl (Or.inl b8)) (bQ (bI (cn rfl) (my (r9 rfl) oz B.len lU (ai (v_var (i:=5) rfl (Or.inl gH)) ae)) (my (r9 rfl) oz B.len lU (ai (v_var (i:=4) rfl (Or.inl ky)) ae))) ae))))))) (av (a_ (JR))) (cg))
  (ah (MB (aT rfl (JA A B) (hr.mono (by decide)) vZ A.lN.m A.lN.F.kp A.lN.b af (bQ (ef (aT rfl (cG A B) (hr.mono (by decide)) gF A.ay.m A.ay.F.kp A.ay.b af (aM (aT rfl (qw A B) (hr.mono (by decide)) fD A.ee.m A.ee.F.kp A.ee.b af (ai (v_var (i:=0) rfl (Or.inl cZ)) (aa (au) ae))) (aa (au) ae)))) (aN (d9 (d_ rfl) (v_var (i:=1) rfl (Or.inl d5)) (au) (fun _ _=>rfl)) ae))) (Dj rfl rfl (nh (i:=7) oy.nd rfl (Or.inl gj) (.inl rfl) (nh (i:=2) oy.nd rfl (Or.inl b8) (.inl rfl) (Cy)))) (Hj rfl))
  (ah (cM (aZ T_ (v_var (i:=2) rfl (Or.inl b8)) (Bd) (aL _)) (av (a_ (aT rfl (zE A B) (hr.mono (by decide)) mi A.gr.m A.gr.F.kp A.gr.b af (ai (v_var (i:=7) rfl (Or.inl gj)) (aa (au) (ai (v_var (i:=2) rfl (Or.inl b8)) (aM (my (r9 rfl) oz B.len lU (ai (v_var (i:=7) rfl (Or.inl gj)) ae)) ae))))))) (cg))
  (av (a_ (v_and (wV U5 (aT rfl (vO A B) (hr.mono (by decide)) mR A.fB.m A.fB.F.kp A.fB.b af (ai (v_var (i:=7) rfl (Or.inl gj)) (aa (au) ae))) (Bd) (aL _)) (PL (wV U5 (aT rfl (vO A B) (hr.mono (by decide)) mR A.fB.m A.fB.F.kp A.fB.b af (aM (kI (HK rfl) FO B.list B9 (ai (v_var (i:=7) rfl (Or.inl gj)) ae)) (aa (au) ae))) (Bd) (aL _))))))))))))))
end
end Pw
namespace Pw
open PySem L2
def Lm(K:PySem.W.Frag):Sp:=fun vs H Q _=>∃ (a:Addr) (ns:List Int),vs=[.ref a]/\fW K H a (ns.map V.int)/\ns.length<=63/\(∀ i∈ns,Ax i)/\∀ H',Q (.bl true) H'
theorem Yv{H:Hp}:d8 H (three H iN iN):=⟨fun b o=>⟨fun h=>⟨0,h⟩,fun⟨i,h⟩=>by
  match i,h with
  | 0,h=>exact h
  | 1,h=>cases h
  | 2,h=>cases h
  | _+3,h=>cases h⟩,fun i j b n=>by
  match i,j,n with
  | 0,0,n=>exact absurd rfl n
  | 0,1,_=>exact .inr rfl
  | 0,2,_=>exact .inr rfl
  | 0,_+3,_=>exact .inr rfl
  | 1,_,_=>exact .inl rfl
  | 2,_,_=>exact .inl rfl
  | _+3,_,_=>exact .inl rfl⟩
theorem Tq{cc:Kd->Addr}{cC cB cT:Addr}{P:Program}{w:World}{K:PySem.W.Frag}{mg:Str->Option Value}{base:Heap}{k:Nat}{f:Addr}{fd:FuncData}(F:aQ P w K mg base (iP P w) k f fd ["_law_script"] (sN K (Jo cc cC cB cT))):aQ P w K mg base yI k f fd ["_law_script"] (Lm K):=
  F.to0.imp fun vs H Q E ⟨a,ns,e,hS,hl,xc,q⟩=>by
    subst e
    refine⟨three H iN iN,[.scr (ns.map Tv.int)],fun r=>r=.ok (.va (.bl true)),Yv,jD,.cons (qA.mpr ⟨a,_,rfl,hS,aw.ints⟩) .nil,⟨ns,rfl,xc,rfl⟩,fun r hr v p' H' _ _ _ hs=>?_,fun c hc=>?_⟩
    · cases hr
      obtain⟨_,t,e,hr⟩:=hs
      cases e
      rw[aG.mp hr]
      exact q H'
    · cases hc
theorem iW{Q:Kd->Prop}(a:Q .num)(b:Q .ent)(c:Q .neg)(d:Q (.bin 0))(e:Q (.bin 1))(f:Q (.bin 2))(g:Q .sum):∀ k,Q k
  | .num=>a
  | .ent=>b
  | .neg=>c
  | .bin 0=>d
  | .bin 1=>e
  | .bin 2=>f
  | .sum=>g
def cK:Kd->Addr
  | .num=>343
  | .ent=>397
  | .neg=>451
  | .bin 0=>524
  | .bin 1=>557
  | .bin 2=>590
  | .sum=>644
def zG:Kd->Addr
  | .num=>251
  | .ent=>251
  | .neg=>420
  | .bin 0=>474
  | .bin 1=>474
  | .bin 2=>474
  | .sum=>613
def zU:Kd->FuncData
  | .num=>mC "parts" "Term.parts" (sub 18 0) .none "planwell.terms" 489 250
  | .ent=>mC "parts" "Term.parts" (sub 18 0) .none "planwell.terms" 489 250
  | .neg=>mC "parts" "Negative.parts" (sub 21 1) .none "planwell.terms" 489 419
  | .bin 0=>mC "parts" "Joined.parts" (sub 22 1) .none "planwell.terms" 489 473
  | .bin 1=>mC "parts" "Joined.parts" (sub 22 1) .none "planwell.terms" 489 473
  | .bin 2=>mC "parts" "Joined.parts" (sub 22 1) .none "planwell.terms" 489 473
  | .sum=>mC "parts" "Sum.parts" (sub 26 1) .none "planwell.terms" 489 612
def Do:Kd->Addr
  | .num=>319
  | .ent=>366
  | .neg=>427
  | .bin 0=>481
  | .bin 1=>481
  | .bin 2=>481
  | .sum=>620
def B5:Kd->FuncData
  | .num=>mC "told" "Number.told" (sub 19 1) .none "planwell.terms" 489 318
  | .ent=>mC "told" "Entry.told" (sub 20 1) .none "planwell.terms" 489 365
  | .neg=>mC "told" "Negative.told" (sub 21 2) .none "planwell.terms" 489 426
  | .bin 0=>mC "told" "Joined.told" (sub 22 2) .none "planwell.terms" 489 480
  | .bin 1=>mC "told" "Joined.told" (sub 22 2) .none "planwell.terms" 489 480
  | .bin 2=>mC "told" "Joined.told" (sub 22 2) .none "planwell.terms" 489 480
  | .sum=>mC "told" "Sum.told" (sub 26 2) .none "planwell.terms" 489 619
def zS:Kd->Addr
  | .num=>291
  | .ent=>291
  | .neg=>291
  | .bin 0=>291
  | .bin 1=>291
  | .bin 2=>291
  | .sum=>291
def yx:Kd->FuncData
  | .num=>mC "depth" "Term.depth" (sub 18 6) .none "planwell.terms" 489 290
  | .ent=>mC "depth" "Term.depth" (sub 18 6) .none "planwell.terms" 489 290
  | .neg=>mC "depth" "Term.depth" (sub 18 6) .none "planwell.terms" 489 290
  | .bin 0=>mC "depth" "Term.depth" (sub 18 6) .none "planwell.terms" 489 290
  | .bin 1=>mC "depth" "Term.depth" (sub 18 6) .none "planwell.terms" 489 290
  | .bin 2=>mC "depth" "Term.depth" (sub 18 6) .none "planwell.terms" 489 290
  | .sum=>mC "depth" "Term.depth" (sub 18 6) .none "planwell.terms" 489 290
def RL:Kd->Addr
  | .num=>312
  | .ent=>359
  | .neg=>413
  | .bin 0=>507
  | .bin 1=>540
  | .bin 2=>573
  | .sum=>606
def Rj:Kd->FuncData
  | .num=>mC "__init__" "Number.__init__" (sub 19 0) .none "planwell.terms" 489 311
  | .ent=>mC "__init__" "Entry.__init__" (sub 20 0) .none "planwell.terms" 489 358
  | .neg=>mC "__init__" "Negative.__init__" (sub 21 0) .none "planwell.terms" 489 412
  | .bin 0=>mC "__init__" "Plus.__init__" (sub 23 0) .none "planwell.terms" 489 506
  | .bin 1=>mC "__init__" "Minus.__init__" (sub 24 0) .none "planwell.terms" 489 539
  | .bin 2=>mC "__init__" "Times.__init__" (sub 25 0) .none "planwell.terms" 489 572
  | .sum=>mC "__init__" "Sum.__init__" (sub 26 0) .none "planwell.terms" 489 605
theorem qT{Q:List Value->Prop}(h:∀ a,Q [a]):∀ us:List Value,us.length=1->Q us | [a],_=>h a
theorem IQ{Q:List Value->Prop}(h:∀ a b,Q [a,b]):∀ us:List Value,us.length=2->Q us | [a,b],_=>h a b
theorem Nb{Q:List Value->Prop}(h:∀ a b c,Q [a,b,c]):∀ us:List Value,us.length=3->Q us | [a,b,c],_=>h a b c
theorem by4{Q:List Value->Prop}(h:∀ a b c d,Q [a,b,c,d]):∀ us:List Value,us.length=4->Q us | [a,b,c,d],_=>h a b c d
theorem by5{Q:List Value->Prop}(h:∀ a b c d e,Q [a,b,c,d,e]):∀ us:List Value,us.length=5->Q us | [a,b,c,d,e],_=>h a b c d e
theorem by0{Q:List Value->Prop}(h:Q []):∀ us:List Value,us.length=0->Q us | [],_=>h
section
variable {P:Params} {h:Heap} {mg:Str->Option Value}
theorem dat(X:(KP P).In h)(G:h.Ns mainGlobals mg)(n:Str)(s:Stmt)(f:Addr){fd:FuncData}(ps:List Str)(F:sk (KP P) n n s f fd)
    (a:PySem.W.nsIn (KP P) mainGlobals n=some (some (.ref f))) (b:∀ us:List Value,us.length=ps.length->bindArgs fd ⟨us,[]⟩=pure (ps.zip us)):fH (KP P) mg n s f fd ps:=⟨F,.all b,PySem.W.mg_of X G a⟩
theorem Z8{x qual:Str}{st:Stmt}{f:Addr}{oc:Value}{od an:Option Addr}{GW:Array (Option Value)}{kV doc pm c9 ct:Value}{fd:FuncData}(e:fd=PySem.W.fnOf x qual (ml st) (gE st) (ak st) .none kV doc pm an c9 ct)(l:(KP P).lookup f=some ⟨oc,od,.func fd,GW⟩)
    (c:PySem.W.codeIn (KP P) c9 qual=true):sk (KP P) x qual st f fd:=⟨⟨oc,od,kV,doc,pm,an,c9,ct,GW,e,l,c⟩,by unfold PySem.W.keepIn;dsimp only;rw[l]⟩
theorem wx{C:Addr}{fl:List Str}(h:fl.map (fun f=>PySem.W.findIn (KP P) (.ref C) f)=fl.map fun _=>some none):∀ f,f∈fl->il (KP P) C f:=fun f hf=>by
  have:∀ l:List Str,l.map (fun f=>PySem.W.findIn (KP P) (.ref C) f)=l.map (fun _=>some none)->∀ f∈l,PySem.W.findIn (KP P) (.ref C) f=some none:=by
    intro l
    induction l with
    | nil=>intro _ f hf;cases hf
    | cons x l ih=>
      intro e f hf
      rw[List.map_cons,List.map_cons] at e
      obtain⟨e1,e2⟩:=List.cons.inj e
      rcases List.mem_cons.mp hf with z | z
      · subst z;exact e1
      · exact ih e2 f z
  exact this fl h f hf
theorem iY{x qual:Str}{st:Stmt}{f:Addr}(n q:String)(s:Stmt)(m:String)(t c:Nat)(e:mC n q s .none m t c=PySem.W.fnOf x qual (ml st) (gE st) (ak st) .none .none .none (.str (.ofString m) t) none (.ref c) .none)(l:(KP P).lookup f=some ⟨.type "function",none,.func (mC n q s .none m t c),#[]⟩)(cc:PySem.W.codeIn (KP P) (.ref c) qual=true):sk (KP P) x qual st f (mC n q s .none m t c):=Z8 e l cc
theorem EJ:∀ k,Au (KP P) (cK k):=iW (⟨(by kernel_rfl),(by kernel_rfl),(by kernel_rfl),(by kernel_rfl)⟩) (⟨(by kernel_rfl),(by kernel_rfl),(by kernel_rfl),(by kernel_rfl)⟩) (⟨(by kernel_rfl),(by kernel_rfl),(by kernel_rfl),(by kernel_rfl)⟩) (⟨(by kernel_rfl),(by kernel_rfl),(by kernel_rfl),(by kernel_rfl)⟩) (⟨(by kernel_rfl),(by kernel_rfl),(by kernel_rfl),(by kernel_rfl)⟩) (⟨(by kernel_rfl),(by kernel_rfl),(by kernel_rfl),(by kernel_rfl)⟩) (⟨(by kernel_rfl),(by kernel_rfl),(by kernel_rfl),(by kernel_rfl)⟩)
theorem Zh:∀ k f,f∈SV->il (KP P) (cK k) f:=iW (wx (by kernel_rfl)) (wx (by kernel_rfl)) (wx (by kernel_rfl)) (wx (by kernel_rfl)) (wx (by kernel_rfl)) (wx (by kernel_rfl)) (wx (by kernel_rfl))
theorem UE:∀ k,Lp (KP P) (cK k)/\PySem.W.kitOne (KP P) (.ref (cK k)) (.ref 294)=some true:=iW (⟨⟨EJ _,(by kernel_rfl),(by kernel_rfl),(by kernel_rfl),(by kernel_rfl)⟩,(by kernel_rfl)⟩) (⟨⟨EJ _,(by kernel_rfl),(by kernel_rfl),(by kernel_rfl),(by kernel_rfl)⟩,(by kernel_rfl)⟩) (⟨⟨EJ _,(by kernel_rfl),(by kernel_rfl),(by kernel_rfl),(by kernel_rfl)⟩,(by kernel_rfl)⟩) (⟨⟨EJ _,(by kernel_rfl),(by kernel_rfl),(by kernel_rfl),(by kernel_rfl)⟩,(by kernel_rfl)⟩) (⟨⟨EJ _,(by kernel_rfl),(by kernel_rfl),(by kernel_rfl),(by kernel_rfl)⟩,(by kernel_rfl)⟩) (⟨⟨EJ _,(by kernel_rfl),(by kernel_rfl),(by kernel_rfl),(by kernel_rfl)⟩,(by kernel_rfl)⟩) (⟨⟨EJ _,(by kernel_rfl),(by kernel_rfl),(by kernel_rfl),(by kernel_rfl)⟩,(by kernel_rfl)⟩)
theorem JW:∀ k,n8 (KP P) (cK k) "parts" (zG k):=iW (⟨(by kernel_rfl),(by kernel_rfl),(by kernel_rfl)⟩) (⟨(by kernel_rfl),(by kernel_rfl),(by kernel_rfl)⟩) (⟨(by kernel_rfl),(by kernel_rfl),(by kernel_rfl)⟩) (⟨(by kernel_rfl),(by kernel_rfl),(by kernel_rfl)⟩) (⟨(by kernel_rfl),(by kernel_rfl),(by kernel_rfl)⟩) (⟨(by kernel_rfl),(by kernel_rfl),(by kernel_rfl)⟩) (⟨(by kernel_rfl),(by kernel_rfl),(by kernel_rfl)⟩)
theorem JL:∀ k,sk (KP P) "parts" (IK k) (II k) (zG k) (zU k):=iW ((iY "parts" "Term.parts" (sub 18 0) "planwell.terms" 489 250 (by kernel_rfl) (by kernel_rfl) (by kernel_rfl))) ((iY "parts" "Term.parts" (sub 18 0) "planwell.terms" 489 250 (by kernel_rfl) (by kernel_rfl) (by kernel_rfl))) ((iY "parts" "Negative.parts" (sub 21 1) "planwell.terms" 489 419 (by kernel_rfl) (by kernel_rfl) (by kernel_rfl))) ((iY "parts" "Joined.parts" (sub 22 1) "planwell.terms" 489 473 (by kernel_rfl) (by kernel_rfl) (by kernel_rfl))) ((iY "parts" "Joined.parts" (sub 22 1) "planwell.terms" 489 473 (by kernel_rfl) (by kernel_rfl) (by kernel_rfl))) ((iY "parts" "Joined.parts" (sub 22 1) "planwell.terms" 489 473 (by kernel_rfl) (by kernel_rfl) (by kernel_rfl))) ((iY "parts" "Sum.parts" (sub 26 1) "planwell.terms" 489 612 (by kernel_rfl) (by kernel_rfl) (by kernel_rfl)))
theorem JV:∀ k,Binds (KP P) (zU k) ["self"] []:=iW (.all (qT fun _=>rfl)) (.all (qT fun _=>rfl)) (.all (qT fun _=>rfl)) (.all (qT fun _=>rfl)) (.all (qT fun _=>rfl)) (.all (qT fun _=>rfl)) (.all (qT fun _=>rfl))
theorem LL:∀ k,n8 (KP P) (cK k) "told" (Do k):=iW (⟨(by kernel_rfl),(by kernel_rfl),(by kernel_rfl)⟩) (⟨(by kernel_rfl),(by kernel_rfl),(by kernel_rfl)⟩) (⟨(by kernel_rfl),(by kernel_rfl),(by kernel_rfl)⟩) (⟨(by kernel_rfl),(by kernel_rfl),(by kernel_rfl)⟩) (⟨(by kernel_rfl),(by kernel_rfl),(by kernel_rfl)⟩) (⟨(by kernel_rfl),(by kernel_rfl),(by kernel_rfl)⟩) (⟨(by kernel_rfl),(by kernel_rfl),(by kernel_rfl)⟩)
theorem LQ:∀ k,sk (KP P) "told" (Mp k) (Lx k) (Do k) (B5 k):=iW ((iY "told" "Number.told" (sub 19 1) "planwell.terms" 489 318 (by kernel_rfl) (by kernel_rfl) (by kernel_rfl))) ((iY "told" "Entry.told" (sub 20 1) "planwell.terms" 489 365 (by kernel_rfl) (by kernel_rfl) (by kernel_rfl))) ((iY "told" "Negative.told" (sub 21 2) "planwell.terms" 489 426 (by kernel_rfl) (by kernel_rfl) (by kernel_rfl))) ((iY "told" "Joined.told" (sub 22 2) "planwell.terms" 489 480 (by kernel_rfl) (by kernel_rfl) (by kernel_rfl))) ((iY "told" "Joined.told" (sub 22 2) "planwell.terms" 489 480 (by kernel_rfl) (by kernel_rfl) (by kernel_rfl))) ((iY "told" "Joined.told" (sub 22 2) "planwell.terms" 489 480 (by kernel_rfl) (by kernel_rfl) (by kernel_rfl))) ((iY "told" "Sum.told" (sub 26 2) "planwell.terms" 489 619 (by kernel_rfl) (by kernel_rfl) (by kernel_rfl)))
theorem KL:∀ k,Binds (KP P) (B5 k) ["self"] []:=iW (.all (qT fun _=>rfl)) (.all (qT fun _=>rfl)) (.all (qT fun _=>rfl)) (.all (qT fun _=>rfl)) (.all (qT fun _=>rfl)) (.all (qT fun _=>rfl)) (.all (qT fun _=>rfl))
theorem Kr:∀ k,n8 (KP P) (cK k) "depth" (zS k):=iW (⟨(by kernel_rfl),(by kernel_rfl),(by kernel_rfl)⟩) (⟨(by kernel_rfl),(by kernel_rfl),(by kernel_rfl)⟩) (⟨(by kernel_rfl),(by kernel_rfl),(by kernel_rfl)⟩) (⟨(by kernel_rfl),(by kernel_rfl),(by kernel_rfl)⟩) (⟨(by kernel_rfl),(by kernel_rfl),(by kernel_rfl)⟩) (⟨(by kernel_rfl),(by kernel_rfl),(by kernel_rfl)⟩) (⟨(by kernel_rfl),(by kernel_rfl),(by kernel_rfl)⟩)
theorem JG:∀ k,sk (KP P) "depth" (Ir k) (Iq k) (zS k) (yx k):=iW ((iY "depth" "Term.depth" (sub 18 6) "planwell.terms" 489 290 (by kernel_rfl) (by kernel_rfl) (by kernel_rfl))) ((iY "depth" "Term.depth" (sub 18 6) "planwell.terms" 489 290 (by kernel_rfl) (by kernel_rfl) (by kernel_rfl))) ((iY "depth" "Term.depth" (sub 18 6) "planwell.terms" 489 290 (by kernel_rfl) (by kernel_rfl) (by kernel_rfl))) ((iY "depth" "Term.depth" (sub 18 6) "planwell.terms" 489 290 (by kernel_rfl) (by kernel_rfl) (by kernel_rfl))) ((iY "depth" "Term.depth" (sub 18 6) "planwell.terms" 489 290 (by kernel_rfl) (by kernel_rfl) (by kernel_rfl))) ((iY "depth" "Term.depth" (sub 18 6) "planwell.terms" 489 290 (by kernel_rfl) (by kernel_rfl) (by kernel_rfl))) ((iY "depth" "Term.depth" (sub 18 6) "planwell.terms" 489 290 (by kernel_rfl) (by kernel_rfl) (by kernel_rfl)))
theorem Kp:∀ k,Binds (KP P) (yx k) ["self"] []:=iW (.all (qT fun _=>rfl)) (.all (qT fun _=>rfl)) (.all (qT fun _=>rfl)) (.all (qT fun _=>rfl)) (.all (qT fun _=>rfl)) (.all (qT fun _=>rfl)) (.all (qT fun _=>rfl))
theorem Z6:∀ k,Mk (KP P) (cK k) (RL k):=iW (⟨(by kernel_rfl),(by kernel_rfl),(by kernel_rfl),(by kernel_rfl)⟩) (⟨(by kernel_rfl),(by kernel_rfl),(by kernel_rfl),(by kernel_rfl)⟩) (⟨(by kernel_rfl),(by kernel_rfl),(by kernel_rfl),(by kernel_rfl)⟩) (⟨(by kernel_rfl),(by kernel_rfl),(by kernel_rfl),(by kernel_rfl)⟩) (⟨(by kernel_rfl),(by kernel_rfl),(by kernel_rfl),(by kernel_rfl)⟩) (⟨(by kernel_rfl),(by kernel_rfl),(by kernel_rfl),(by kernel_rfl)⟩) (⟨(by kernel_rfl),(by kernel_rfl),(by kernel_rfl),(by kernel_rfl)⟩)
theorem X4:∀ k,sk (KP P) "__init__" (LK k) (MI k) (RL k) (Rj k):=iW ((iY "__init__" "Number.__init__" (sub 19 0) "planwell.terms" 489 311 (by kernel_rfl) (by kernel_rfl) (by kernel_rfl))) ((iY "__init__" "Entry.__init__" (sub 20 0) "planwell.terms" 489 358 (by kernel_rfl) (by kernel_rfl) (by kernel_rfl))) ((iY "__init__" "Negative.__init__" (sub 21 0) "planwell.terms" 489 412 (by kernel_rfl) (by kernel_rfl) (by kernel_rfl))) ((iY "__init__" "Plus.__init__" (sub 23 0) "planwell.terms" 489 506 (by kernel_rfl) (by kernel_rfl) (by kernel_rfl))) ((iY "__init__" "Minus.__init__" (sub 24 0) "planwell.terms" 489 539 (by kernel_rfl) (by kernel_rfl) (by kernel_rfl))) ((iY "__init__" "Times.__init__" (sub 25 0) "planwell.terms" 489 572 (by kernel_rfl) (by kernel_rfl) (by kernel_rfl))) ((iY "__init__" "Sum.__init__" (sub 26 0) "planwell.terms" 489 605 (by kernel_rfl) (by kernel_rfl) (by kernel_rfl)))
theorem Yy:∀ k,Binds (KP P) (Rj k) (MO k) []:=iW (.all (IQ fun _ _=>rfl)) (.all (Nb fun _ _ _=>rfl)) (.all (IQ fun _ _=>rfl)) (.all (Nb fun _ _ _=>rfl)) (.all (Nb fun _ _ _=>rfl)) (.all (Nb fun _ _ _=>rfl)) (.all (by4 fun _ _ _ _=>rfl))
theorem all_mk{l:PySem.W.OpenLaw}{w:World}{fa:Addr}(X:(KP P).In h)(G:h.Ns mainGlobals mg)(hfa:mg "law"=some (.ref fa)):
    ∃ fd:FuncData,(∀ (s:Shared) (v:Value),BindsTo s fd ⟨[v],[]⟩ [("_law_script",v)])/\∀ base:Heap,(KP P).In base->base.Ns mainGlobals mg->aQ l.prog w (KP P) mg base yI 214 fa fd ["_law_script"] (Lm (KP P)):=by
  have M:=fun {x:Str} {v:Value} (q:PySem.W.nsIn (KP P) mainGlobals x=some (some v))=>PySem.W.mg_of X G q
  have Z:=fun {x:Str} (q:PySem.W.nsIn (KP P) mainGlobals x=some none)=>PySem.W.mg_none_of X G q
  have e:=hfa.symm.trans (M (v:=.ref 794) (by kernel_rfl))
  cases e
  have B:pP mg:=⟨Z (by kernel_rfl),Z (by kernel_rfl),Z (by kernel_rfl),Z (by kernel_rfl),Z (by kernel_rfl),Z (by kernel_rfl),Z (by kernel_rfl),Z (by kernel_rfl),Z (by kernel_rfl),Z (by kernel_rfl),Z (by kernel_rfl),Z (by kernel_rfl)⟩
  have fV:=dat X G "greatest_divisor" cV 137 ["one","other"] (iY "greatest_divisor" "greatest_divisor" (tp 12) "planwell.fractions" 342 136 (by kernel_rfl) (by kernel_rfl) (by kernel_rfl)) (by kernel_rfl) (IQ fun _ _=>rfl)
  have dl:(KP P).lookup 138=some (tO [.int 1 353]):=by kernel_rfl
  have lf:(KP P).lookup 145=some ⟨.type "function",none,.func (PySem.W.fnOf "fraction" "fraction" (ml f9) (gE f9) (ak f9) (.ref 138) .none .none (.str (.ofString "planwell.fractions") 342) none (.ref 144) .none),#[]⟩:=by kernel_rfl
  have dU:SX (KP P) mg "fraction" f9 (.ref 138) 145 _ ["top","bottom"] [.int 1 353]:=⟨N8 (st:=f9) lf (by kernel_rfl) (by kernel_rfl),(fun s us KX hl=>by
      obtain⟨u,v,rfl⟩:∃ u v,us=[u,v]:=by
        rcases us with _ | ⟨u,_ | ⟨v,_ | ⟨z,r⟩⟩⟩ <;> simp at hl
        exact⟨u,v,rfl⟩
      exact BindsTo.of_defaults rfl (KX _ _ dl) rfl rfl rfl),(fun s us KX hl=>by
      obtain⟨u,rfl⟩:∃ u,us=[u]:=by
        rcases us with _ | ⟨u,_ | ⟨v,r⟩⟩ <;> simp at hl
        exact⟨u,rfl⟩
      exact BindsTo.of_defaults rfl (KX _ _ dl) rfl rfl rfl),.cons ⟨353,rfl⟩ .nil,PySem.W.mg_of X G (by kernel_rfl)⟩
  have jF:=dat X G "term_of" hU 653 ["words","at"] (iY "term_of" "term_of" (tp 31) "planwell.parsing" 991 652 (by kernel_rfl) (by kernel_rfl) (by kernel_rfl)) (by kernel_rfl) (IQ fun _ _=>rfl)
  have dQ:=dat X G "term_at" fk 660 ["cursor","opened","sums"] (iY "term_at" "term_at" (tp 32) "planwell.parsing" 991 659 (by kernel_rfl) (by kernel_rfl) (by kernel_rfl)) (by kernel_rfl) (Nb fun _ _ _=>rfl)
  have bV:=dat X G "product_at" dm 667 ["cursor","opened","sums"] (iY "product_at" "product_at" (tp 33) "planwell.parsing" 991 666 (by kernel_rfl) (by kernel_rfl) (by kernel_rfl)) (by kernel_rfl) (Nb fun _ _ _=>rfl)
  have dR:=dat X G "part_at" cX 674 ["cursor","opened","sums"] (iY "part_at" "part_at" (tp 34) "planwell.parsing" 991 673 (by kernel_rfl) (by kernel_rfl) (by kernel_rfl)) (by kernel_rfl) (Nb fun _ _ _=>rfl)
  have lM:=dat X G "sum_at" d4 681 ["cursor","opened","sums"] (iY "sum_at" "sum_at" (tp 35) "planwell.parsing" 991 680 (by kernel_rfl) (by kernel_rfl) (by kernel_rfl)) (by kernel_rfl) (Nb fun _ _ _=>rfl)
  have iO:=dat X G "entry_at" gM 688 ["cursor","opened"] (iY "entry_at" "entry_at" (tp 36) "planwell.parsing" 991 687 (by kernel_rfl) (by kernel_rfl) (by kernel_rfl)) (by kernel_rfl) (IQ fun _ _=>rfl)
  have aK:=dat X G "one_more_open" eC 695 ["opened"] (iY "one_more_open" "one_more_open" (tp 37) "planwell.parsing" 991 694 (by kernel_rfl) (by kernel_rfl) (by kernel_rfl)) (by kernel_rfl) (qT fun _=>rfl)
  have aF:=dat X G "checked_depth" eA 702 ["term"] (iY "checked_depth" "checked_depth" (tp 38) "planwell.parsing" 991 701 (by kernel_rfl) (by kernel_rfl) (by kernel_rfl)) (by kernel_rfl) (qT fun _=>rfl)
  have ee:=dat X G "_law_at" vq 709 ["_law_script","_law_k"] (iY "_law_at" "_law_at" (tp 40) "law_planwell_k07_terms_read" 1074 708 (by kernel_rfl) (by kernel_rfl) (by kernel_rfl)) (by kernel_rfl) (IQ fun _ _=>rfl)
  have ay:=dat X G "_law_mixed" lg 716 ["_law_cell","_law_k"] (iY "_law_mixed" "_law_mixed" (tp 41) "law_planwell_k07_terms_read" 1074 715 (by kernel_rfl) (by kernel_rfl) (by kernel_rfl)) (by kernel_rfl) (IQ fun _ _=>rfl)
  have fP:=dat X G "_law_reserved" kU 723 [] (iY "_law_reserved" "_law_reserved" (tp 42) "law_planwell_k07_terms_read" 1074 722 (by kernel_rfl) (by kernel_rfl) (by kernel_rfl)) (by kernel_rfl) (by0 rfl)
  have lB:=dat X G "_law_pool" dX 728 ["_law_cell"] (iY "_law_pool" "_law_pool" (tp 43) "law_planwell_k07_terms_read" 1074 727 (by kernel_rfl) (by kernel_rfl) (by kernel_rfl)) (by kernel_rfl) (qT fun _=>rfl)
  have gf:=dat X G "_law_fraction" eE 735 ["_law_cell"] (iY "_law_fraction" "_law_fraction" (tp 44) "law_planwell_k07_terms_read" 1074 734 (by kernel_rfl) (by kernel_rfl) (by kernel_rfl)) (by kernel_rfl) (qT fun _=>rfl)
  have fo:=dat X G "_law_tree" cU 740 ["_law_cell","_law_deep_here","_law_sums_here","_law_pool_here"] (iY "_law_tree" "_law_tree" (tp 45) "law_planwell_k07_terms_read" 1074 739 (by kernel_rfl) (by kernel_rfl) (by kernel_rfl)) (by kernel_rfl) (by4 fun _ _ _ _=>rfl)
  have bz:=dat X G "_law_row_of" bu 747 ["_law_tree_here","_law_least","_law_cell"] (iY "_law_row_of" "_law_row_of" (tp 46) "law_planwell_k07_terms_read" 1074 746 (by kernel_rfl) (by kernel_rfl) (by kernel_rfl)) (by kernel_rfl) (Nb fun _ _ _=>rfl)
  have iS:=dat X G "_law_is_bad" cE 754 ["_law_e"] (iY "_law_is_bad" "_law_is_bad" (tp 47) "law_planwell_k07_terms_read" 1074 753 (by kernel_rfl) (by kernel_rfl) (by kernel_rfl)) (by kernel_rfl) (qT fun _=>rfl)
  have fB:=dat X G "_law_told" kl 761 ["_law_row","_law_at_here"] (iY "_law_told" "_law_told" (tp 48) "law_planwell_k07_terms_read" 1074 760 (by kernel_rfl) (by kernel_rfl) (by kernel_rfl)) (by kernel_rfl) (IQ fun _ _=>rfl)
  have gr:=dat X G "_law_right" b_ 768 ["_law_row","_law_at_here","_law_tree_here","_law_end"] (iY "_law_right" "_law_right" (tp 49) "law_planwell_k07_terms_read" 1074 767 (by kernel_rfl) (by kernel_rfl) (by kernel_rfl)) (by kernel_rfl) (by4 fun _ _ _ _=>rfl)
  have lD:=dat X G "_law_long" dE 775 ["_law_cell","_law_name"] (iY "_law_long" "_law_long" (tp 50) "law_planwell_k07_terms_read" 1074 774 (by kernel_rfl) (by kernel_rfl) (by kernel_rfl)) (by kernel_rfl) (IQ fun _ _=>rfl)
  have lI:=dat X G "_law_sums" jn 782 ["_law_cell","_law_name"] (iY "_law_sums" "_law_sums" (tp 51) "law_planwell_k07_terms_read" 1074 781 (by kernel_rfl) (by kernel_rfl) (by kernel_rfl)) (by kernel_rfl) (IQ fun _ _=>rfl)
  have lN:=dat X G "_law_deep" cS 787 ["_law_cell","_law_name"] (iY "_law_deep" "_law_deep" (tp 52) "law_planwell_k07_terms_read" 1074 786 (by kernel_rfl) (by kernel_rfl) (by kernel_rfl)) (by kernel_rfl) (IQ fun _ _=>rfl)
  have IY:=dat X G "law" fK 794 ["_law_script"] (iY "law" "law" (tp 53) "law_planwell_k07_terms_read" 1074 793 (by kernel_rfl) (by kernel_rfl) (by kernel_rfl)) (by kernel_rfl) (qT fun _=>rfl)
  exact⟨_,fun s v=>.of_eq rfl,fun base _ _=>Tq (Qx ({ lV:=_,lG:=_,fV:=fV,tN:=_,tw:=_,yQ:=_,yP:=_,dU:=dU,vh:=_,vP:=_,jF:=jF,v8:=_,vE:=_,dQ:=dQ,nZ:=_,nL:=_,bV:=bV,vy:=_,vQ:=_,dR:=dR,zj:=_,zV:=_,lM:=lM,sC:=_,sP:=_,iO:=iO,kx:=_,kz:=_,aK:=aK,kB:=_,kq:=_,aF:=aF,GF:=_,HC:=_,ee:=ee,vG:=_,vj:=_,ay:=ay,nN:=_,oj:=_,fP:=fP,y6:=_,zv:=_,lB:=lB,oG:=_,nS:=_,gf:=gf,y_:=_,zc:=_,fo:=fo,sr:=_,tE:=_,bz:=bz,sM:=_,tf:=_,iS:=iS,zo:=_,yX:=_,fB:=fB,vT:=_,vH:=_,gr:=gr,zW:=_,y8:=_,lD:=lD,Am:=_,Ae:=_,lI:=lI,yr:=_,Ad:=_,lN:=lN,Mg:=_,MS:=_,IY:=IY,k6:=_,uM:=M (by kernel_rfl),u9:=fun _=>la.mpr ⟨146,kept.map V.str,rfl,.inr ⟨_,_,_,(by kernel_rfl:(KP P).lookup 146=some (tO [.str "set" 365,.str "table" 366,.str "unknown" 367,.str "over" 368,.str "whole" 369,.str "from" 370,.str "to" 371,.str "row" 372,.str "each" 373,.str "in" 374,.str "sum" 375,.str "least" 376,.str "most" 377])),rfl,rfl,(by show 13<=sizeLine;decide),.cons ⟨_,rfl⟩ (.cons ⟨_,rfl⟩ (.cons ⟨_,rfl⟩ (.cons ⟨_,rfl⟩ (.cons ⟨_,rfl⟩ (.cons ⟨_,rfl⟩ (.cons ⟨_,rfl⟩ (.cons ⟨_,rfl⟩ (.cons ⟨_,rfl⟩ (.cons ⟨_,rfl⟩ (.cons ⟨_,rfl⟩ (.cons ⟨_,rfl⟩ (.cons ⟨_,rfl⟩ (.nil))))))))))))),rfl⟩,.cons (aC.mpr rfl) (.cons (aC.mpr rfl) (.cons (aC.mpr rfl) (.cons (aC.mpr rfl) (.cons (aC.mpr rfl) (.cons (aC.mpr rfl) (.cons (aC.mpr rfl) (.cons (aC.mpr rfl) (.cons (aC.mpr rfl) (.cons (aC.mpr rfl) (.cons (aC.mpr rfl) (.cons (aC.mpr rfl) (.cons (aC.mpr rfl) (.nil)))))))))))))⟩,rS:=_,rN:=⟨M (by kernel_rfl),(by kernel_rfl:PySem.W.excIn (KP P) 44 PY "ValueError.__new__"=true)⟩,c:=cK,cT:=294,Ls:=M (by kernel_rfl),cJ:=491,uV:=M (by kernel_rfl),Fg:=M (by kernel_rfl),CS:=M (by kernel_rfl),ze:=M (by kernel_rfl),La:=M (by kernel_rfl),HX:=M (by kernel_rfl),Jn:=M (by kernel_rfl),P0:=M (by kernel_rfl),cl:=EJ,na:=Zh,isi:=UE,xY:=zG,ye:=zU,qL:=JW,qB:=JL,qv:=JV,BR:=Do,Dk:=B5,vS:=LL,v5:=LQ,wt:=KL,xR:=zS,yb:=yx,oh:=Kr,qJ:=JG,n_:=Kp,fi:=RL,di:=Rj,Oh:=Z6,Fi:=X4,bi:=Yy,fJ:=467,dJ:=mC "__init__" "Joined.__init__" (sub 22 0) .none "planwell.terms" 489 466,cm:=⟨(by kernel_rfl),(by kernel_rfl),(by kernel_rfl),(by kernel_rfl)⟩,FJ:=(iY "__init__" "Joined.__init__" (sub 22 0) "planwell.terms" 489 466 (by kernel_rfl) (by kernel_rfl) (by kernel_rfl)),bJ:=.all (by5 fun _ _ _ _ _=>rfl),cC:=233,Fn:=M (by kernel_rfl),pb:=⟨(by kernel_rfl),(by kernel_rfl),(by kernel_rfl),(by kernel_rfl)⟩,XG:=wx (by kernel_rfl),Xe:=160,Xv:=mC "__init__" "Cursor.__init__" (sub 16 0) .none "planwell.cursor" 363 159,mkC:=⟨(by kernel_rfl),(by kernel_rfl),(by kernel_rfl),(by kernel_rfl)⟩,FiC:=(iY "__init__" "Cursor.__init__" (sub 16 0) "planwell.cursor" 363 159 (by kernel_rfl) (by kernel_rfl) (by kernel_rfl)),biC:=.all (Nb fun _ _ _=>rfl),yc:=167,xT:=mC "seen" "Cursor.seen" (sub 16 1) .none "planwell.cursor" 363 166,qN:=⟨(by kernel_rfl),(by kernel_rfl),(by kernel_rfl)⟩,IJ:=(iY "seen" "Cursor.seen" (sub 16 1) "planwell.cursor" 363 166 (by kernel_rfl) (by kernel_rfl) (by kernel_rfl)),qy:=.all (qT fun _=>rfl),qR:=174,qH:=mC "passes" "Cursor.passes" (sub 16 2) .none "planwell.cursor" 363 173,gu:=⟨(by kernel_rfl),(by kernel_rfl),(by kernel_rfl)⟩,Bc:=(iY "passes" "Cursor.passes" (sub 16 2) "planwell.cursor" 363 173 (by kernel_rfl) (by kernel_rfl) (by kernel_rfl)),gn:=.all (IQ fun _ _=>rfl),vc:=181,ui:=mC "wants" "Cursor.wants" (sub 16 3) .none "planwell.cursor" 363 180,kh:=⟨(by kernel_rfl),(by kernel_rfl),(by kernel_rfl)⟩,DV:=(iY "wants" "Cursor.wants" (sub 16 3) "planwell.cursor" 363 180 (by kernel_rfl) (by kernel_rfl) (by kernel_rfl)),j5:=.all (IQ fun _ _=>rfl),kZ:=188,kX:=mC "take_name" "Cursor.take_name" (sub 16 4) .none "planwell.cursor" 363 187,g6:=⟨(by kernel_rfl),(by kernel_rfl),(by kernel_rfl)⟩,vb:=(iY "take_name" "Cursor.take_name" (sub 16 4) "planwell.cursor" 363 187 (by kernel_rfl) (by kernel_rfl) (by kernel_rfl)),g8:=.all (qT fun _=>rfl),jQ:=195,jU:=mC "take_names" "Cursor.take_names" (sub 16 5) .none "planwell.cursor" 363 194,r6:=⟨(by kernel_rfl),(by kernel_rfl),(by kernel_rfl)⟩,rP:=(iY "take_names" "Cursor.take_names" (sub 16 5) "planwell.cursor" 363 194 (by kernel_rfl) (by kernel_rfl) (by kernel_rfl)),si:=.all (IQ fun _ _=>rfl),i':=202,jc:=mC "sees_number" "Cursor.sees_number" (sub 16 6) .none "planwell.cursor" 363 201,lX:=⟨(by kernel_rfl),(by kernel_rfl),(by kernel_rfl)⟩,qg:=(iY "sees_number" "Cursor.sees_number" (sub 16 6) "planwell.cursor" 363 201 (by kernel_rfl) (by kernel_rfl) (by kernel_rfl)),lO:=.all (qT fun _=>rfl),i9:=209,jd:=mC "take_number" "Cursor.take_number" (sub 16 7) .none "planwell.cursor" 363 208,lQ:=⟨(by kernel_rfl),(by kernel_rfl),(by kernel_rfl)⟩,p5:=(iY "take_number" "Cursor.take_number" (sub 16 7) "planwell.cursor" 363 208 (by kernel_rfl) (by kernel_rfl) (by kernel_rfl)),lS:=.all (qT fun _=>rfl),jR:=216,jW:=mC "take_ratio" "Cursor.take_ratio" (sub 16 8) .none "planwell.cursor" 363 215,rM:=⟨(by kernel_rfl),(by kernel_rfl),(by kernel_rfl)⟩,r_:=(iY "take_ratio" "Cursor.take_ratio" (sub 16 8) "planwell.cursor" 363 215 (by kernel_rfl) (by kernel_rfl) (by kernel_rfl)),rX:=.all (qT fun _=>rfl),k4:=230,kS:=mC "take_keys" "Cursor.take_keys" (sub 16 10) .none "planwell.cursor" 363 229,tX:=⟨(by kernel_rfl),(by kernel_rfl),(by kernel_rfl)⟩,um:=(iY "take_keys" "Cursor.take_keys" (sub 16 10) "planwell.cursor" 363 229 (by kernel_rfl) (by kernel_rfl) (by kernel_rfl)),uv:=.all (qT fun _=>rfl),uw:=993,uY:=M (by kernel_rfl),wF:=995,wU:=M (by kernel_rfl),wN:=997,wR:=M (by kernel_rfl),cB:=68,cP:=31,c1:=104,c2:=44,c3:=116,c4:=80,c5:=92,c6:=56,c7:=128,X:=⟨M (by kernel_rfl),(by kernel_rfl),M (by kernel_rfl),(by kernel_rfl),M (by kernel_rfl),M (by kernel_rfl),M (by kernel_rfl),M (by kernel_rfl),M (by kernel_rfl),M (by kernel_rfl),M (by kernel_rfl),Z (by kernel_rfl),(by kernel_rfl),⟨(by kernel_rfl),(by kernel_rfl),(by kernel_rfl),(by kernel_rfl),(by kernel_rfl),(by kernel_rfl),(by kernel_rfl)⟩,(by kernel_rfl),(by kernel_rfl),(by kernel_rfl),(by kernel_rfl),(by kernel_rfl),(by kernel_rfl),(by kernel_rfl),(by kernel_rfl),(by kernel_rfl),(by kernel_rfl)⟩ }:dS (KP P) mg) B)⟩
end
end Pw
open PySem PySem.W PyProof.Rows
set_option maxRecDepth 100000 in
set_option maxHeartbeats 0 in
theorem PySem.Challenge.cw_planwell_k07_terms_read_holds : PySem.Challenge.rw_planwell_k07_terms_read.Holds := by
  w_on;o_law
  refine W.holds_open (d:=⟨"law",L2.ml Pw.fK,L2.gE Pw.fK,L2.ak Pw.fK,Pw.posOf Pw.fK⟩) (kwd:=[]) (XP:=XL Pw.BO [])
    (YP:=fun w h=>(Pw.KP w.params).In h) Pw.left (fun w s e=>Frag.in_of (as:=Pw.KA) (by kernel_rfl) e)
    (fun w h h' x k=>Frag.In.keeps x k) (fun s e=>xl_of s (Bool.and_eq_true_iff.mp e).1) XL.keeps
    (by kernel_rfl) (by kernel_rfl) (by kernel_rfl) (fun s e=>recFacts_of (Bool.and_eq_true_iff.mp e).2)
    rfl (by first | assumption | decide +kernel) (by decide +kernel) ⟨rfl,rfl,rfl,rfl,rfl,by decide +kernel⟩ ?hw ?hc
  case hw=>w_witness2
  exact L2.Mo (n:=63) (k:=214) (x:="_law_script") (CX:=fun _=>L2.yI) (sp:=fun w=>Pw.Lm (Pw.KP w.params)) rfl (by decide) rfl ⟨rfl,by decide,by decide,rfl⟩ (fun _ _ Y=>Y)
    (fun w mg fa h X G e=>Pw.all_mk (l:=PySem.Challenge.rw_planwell_k07_terms_read) X G e) (fun _ _ a ns hl xc _ hS=>⟨a,ns,rfl,hS,hl,xc,fun _=>rfl⟩) fun _ _ _ _ _ z=>z
