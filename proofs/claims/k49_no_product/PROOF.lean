import PyProof.Rows.All
import Wide.All
import OpenK.AllK
import Wide.FinOn
import Lean
import PyProof.EqAt
import PyProof.EqKinds
import PyProof.TupleCall
import PySem.Challenge.RW_formcycle_k49_no_product
set_option Elab.async false
set_option linter.all false
set_option maxRecDepth 100000
set_option maxRecDepth 1000000
set_option maxHeartbeats 0
local macro_rules|`(command|def $d:declId $s:optDeclSig $v:declVal)=>`(command|noncomputable def $d:declId $s:optDeclSig $v:declVal)
local macro_rules|`(command|abbrev $d:declId $s:optDeclSig $v:declVal)=>`(command|noncomputable abbrev $d:declId $s:optDeclSig $v:declVal)
theorem My.said0:PySem.Challenge.rw_formcycle_k49_no_product.wellSaid=true:=by kernel_rfl
namespace My
open PySem W
def WD(tb:String→Option Builtin)(p:Program)(w:World)(m:Nat)(ann:Option Value):Nat→SharedT→Thread→Option SharedT
 |0,_,_=>none
 | k+1,s,t=>match through t with
  |true=>some s
  | false=>match stepOk m ann t with
   |false=>none
   | true=>match stepT (denote tb) p w s t with
    |some (s',t')=>WD tb p w m ann k s' t'
    |none=>none
theorem Us{tb:String→Option Builtin}{p:Program}{w:World}{m:Nat}{ann:Option Value}:∀(k:Nat){s r:SharedT}{t:Thread},WD tb p w m ann k s t=some r→topRun tb p w m ann k s.abs t=some r.abs
 |0,s,r,t,h=>by cases h
 | k+1,s,r,t,h=>by
  unfold WD at h
  unfold topRun
  cases e:through t with
  | true =>
   rw[e]at h
   cases h
   rfl
  | false =>
   rw[e]at h
   dsimp only at h ⊢
   cases e2:stepOk m ann t with
   |false=>rw[e2]at h;cases h
   | true =>
    rw[e2]at h
    dsimp only at h ⊢
    cases e3:stepT (denote tb) p w s t with
    |none=>rw[e3]at h;cases h
    | some st =>
     obtain⟨s',t'⟩:=st
     rw[e3]at h
     rw[stepT_spec e3]
     exact Us k h
def Ag7:List Obj→Nat→BT→BT
 | [],_,t=>t
 |o::os,n,t=>Ag7 os (n+1) (t.ins n o)
noncomputable def S5(w:World)(os:OsState):SharedT:=⟨Ag7 (boot_heap w.params).objs.toList 0 .nil,(boot_heap w.params).objs.size,(boot_heap w.params).life,Array.mk [],boot_drawn,boot_toks,os⟩
noncomputable def Cd(w:World)(os:OsState):Shared:=⟨boot_heap w.params,Array.mk [],boot_drawn,boot_toks,os⟩
def stays(p:Program)(s₀ s₁:Shared):Bool:=staticsOk (importedModules p.main.body) s₀.heap s₁.heap&&namesBound p s₁.heap&&gensDone s₁&&laidKept s₀.heap s₁.heap
theorem boot_abs:∀w os,(S5 w os).abs=Cd w os:=fun w os=>by kernel_rfl
theorem Agl{p:Program}{w:World}{N:Nat}{α:Type}{F:Shared→α}{g:α}(e:opening p=plainProg p.main.scope.names)(hN:Nat.ble 600 N=true)(f:∀s,fenceModules? p s=some s)
  (h:∀os,(WD treeTable p w (Cd w os).heap.objs.size ((Cd w os).heap.nsMap mainGlobals "__annotations__") N (S5 w os) (topStub p)).map (fun r=>(stays p (Cd w os) r.abs,F r.abs))=some (true,g))
  (h0:∀os,((Cd w os).heap.isNs mainGlobals&&(Cd w os).gens.size==0)=true):(openEnds treeTable p w N).map F=some g:=by
 have hb:=boot_open e hN f w
 unfold openEnds
 cases q:fencedOpening treeTable p w N with
 |none=>rw[q]at hb;cases hb
 | some s =>
  rw[q]at hb
  have hs:s=Cd w s.os:=by
   obtain⟨a,b,c,d,o⟩:=s
   simp only[Option.map_some,Option.some.injEq,Prod.mk.injEq]at hb
   obtain⟨rfl,rfl,rfl,rfl⟩:=hb
   rfl
  generalize s.os=o at hs
  subst hs
  show(topFrom treeTable p w N (Cd w o)).map F=some g
  unfold topFrom
  rw[h0 o]
  have hh:=h o
  cases q2:WD treeTable p w (Cd w o).heap.objs.size ((Cd w o).heap.nsMap mainGlobals "__annotations__") N (S5 w o) (topStub p)with
  |none=>rw[q2]at hh;cases hh
  | some r =>
   rw[q2]at hh
   have hr:=Us N q2
   rw[boot_abs]at hr
   simp only[Option.map_some,Option.some.injEq,Prod.mk.injEq]at hh
   obtain⟨h1,h2⟩:=hh
   unfold stays at h1
   dsimp only
   rw[hr]
   show(match staticsOk (importedModules p.main.body) (Cd w o).heap r.abs.heap&&namesBound p r.abs.heap&&gensDone r.abs&&laidKept (Cd w o).heap r.abs.heap with
    |true=>some r.abs
    |false=>none).map F=some g
   rw[h1]
   exact congrArg some h2
noncomputable def TR(p:Program)(w:World)(os:OsState)(N:Nat):Option SharedT:=WD treeTable p w (Cd w os).heap.objs.size ((Cd w os).heap.nsMap mainGlobals "__annotations__") N (S5 w os) (topStub p)
theorem AlK{p:Program}{w:World}{N:Nat}{α β:Type}{F:Shared→α}{G:Shared→β}{f':α}{g':β}(e:opening p=plainProg p.main.scope.names)(hN:Nat.ble 600 N=true)(f:∀s,fenceModules? p s=some s)
  (h1:∀os,(TR p w os N).map (fun r=>stays p (Cd w os) r.abs)=some true) (h2:∀os,(TR p w os N).map (fun r=>F r.abs)=some f') (h3:∀os,(TR p w os N).map (fun r=>G r.abs)=some g')
  (h0:∀os,((Cd w os).heap.isNs mainGlobals&&(Cd w os).gens.size==0)=true):(openEnds treeTable p w N).map (fun s=>(F s,G s))=some (f',g') :=
 Agl (F:=fun s=>(F s,G s)) e hN f (fun os=>by
  have a:=h1 os
  have b:=h2 os
  have c:=h3 os
  unfold TR at a b c
  revert a b c
  generalize WD treeTable p w (Cd w os).heap.objs.size ((Cd w os).heap.nsMap mainGlobals "__annotations__") N (S5 w os) (topStub p)=o
  intro a b c
  cases o with
  |none=>cases a
  | some r =>
   simp only[Option.map_some,Option.some.injEq]at a b c ⊢
   rw[a,b,c]) h0
end My
namespace My
open PySem W
def goT(tb:String→Option Builtin)(p:Program)(w:World)(m:Nat)(ann:Option Value):Nat→SharedT→Thread→Option (SharedT×Thread)
 |0,s,t=>some (s,t)
 | k+1,s,t=>match through t with
  |true=>none
  | false=>match stepOk m ann t with
   |false=>none
   | true=>match stepT (denote tb) p w s t with
    |some (s',t')=>goT tb p w m ann k s' t'
    |none=>none
theorem Ab2{tb:String→Option Builtin}{p:Program}{w:World}{m:Nat}{ann:Option Value}:∀(k:Nat){s s':SharedT}{t t':Thread},goT tb p w m ann k s t=some (s',t')→topGo tb p w m ann k s.abs t=some (s'.abs,t')
 |0,s,s',t,t',h=>by cases h;rfl
 | k+1,s,s',t,t',h=>by
  unfold goT at h
  unfold topGo
  cases e:through t with
  |true=>rw[e]at h;cases h
  | false =>
   rw[e]at h
   dsimp only at h ⊢
   cases e2:stepOk m ann t with
   |false=>rw[e2]at h;cases h
   | true =>
    rw[e2]at h
    dsimp only at h ⊢
    cases e3:stepT (denote tb) p w s t with
    |none=>rw[e3]at h;cases h
    | some st =>
     obtain⟨s2,t2⟩:=st
     rw[e3]at h
     rw[stepT_spec e3]
     exact Ab2 k h
theorem AdT{p:Program}{w:World}{N:Nat}{α:Type}{F:Shared→α}{g:α}(e:opening p=plainProg p.main.scope.names)(hN:Nat.ble 600 N=true)(f:∀s,fenceModules? p s=some s)
  (h:∀os,∃r:Shared,topRun treeTable p w (Cd w os).heap.objs.size ((Cd w os).heap.nsMap mainGlobals "__annotations__") N (Cd w os) (topStub p)=some r∧stays p (Cd w os) r=true∧F r=g)
  (h0:∀os,((Cd w os).heap.isNs mainGlobals&&(Cd w os).gens.size==0)=true):(openEnds treeTable p w N).map F=some g:=by
 have hb:=boot_open e hN f w
 unfold openEnds
 cases q:fencedOpening treeTable p w N with
 |none=>rw[q]at hb;cases hb
 | some s =>
  rw[q]at hb
  have hs:s=Cd w s.os:=by
   obtain⟨a,b,c,d,o⟩:=s
   simp only[Option.map_some,Option.some.injEq,Prod.mk.injEq]at hb
   obtain⟨rfl,rfl,rfl,rfl⟩:=hb
   rfl
  generalize s.os=o at hs
  subst hs
  show(topFrom treeTable p w N (Cd w o)).map F=some g
  unfold topFrom
  rw[h0 o]
  obtain⟨r,hr,h1,h2⟩:=h o
  unfold stays at h1
  dsimp only
  rw[hr]
  show(match staticsOk (importedModules p.main.body) (Cd w o).heap r.heap&&namesBound p r.heap&&gensDone r&&laidKept (Cd w o).heap r.heap with
   |true=>some r
   |false=>none).map F=some g
  rw[h1]
  exact congrArg some h2
theorem AbZ{p:Program}{w:World}{N:Nat}{α β:Type}{F:Shared→α}{G:Shared→β}{f':α}{g':β}{TL:OsState→Option SharedT}(e:opening p=plainProg p.main.scope.names)(hN:Nat.ble 600 N=true)(f:∀s,fenceModules? p s=some s)
  (hr:∀os r,TL os=some r→topRun treeTable p w (Cd w os).heap.objs.size ((Cd w os).heap.nsMap mainGlobals "__annotations__") N (Cd w os) (topStub p)=some r.abs)
  (h1:∀os,(TL os).map (fun r=>stays p (Cd w os) r.abs)=some true) (h2:∀os,(TL os).map (fun r=>F r.abs)=some f') (h3:∀os,(TL os).map (fun r=>G r.abs)=some g')
  (h0:∀os,((Cd w os).heap.isNs mainGlobals&&(Cd w os).gens.size==0)=true):(openEnds treeTable p w N).map (fun s=>(F s,G s))=some (f',g') :=
 AdT (F:=fun s=>(F s,G s)) e hN f (fun os=>by
  have a:=h1 os
  have b:=h2 os
  have c:=h3 os
  have d:=hr os
  cases q:TL os with
  |none=>rw[q]at a;cases a
  | some r =>
   rw[q]at a b c
   simp only[Option.map_some,Option.some.injEq]at a b c
   exact⟨_,d r q,a,by rw[b,c]⟩) h0
end My
set_option maxRecDepth 1000000
set_option maxHeartbeats 0
namespace My
open PySem W
def tp(i:Nat):Stmt:=PySem.Challenge.pw_formcycle_k49_no_product.main.body.getD i (.Pass ⟨0,0,0,0⟩)
def fA(s:Stmt):Arguments:=match s with
 |.FunctionDef _ a _ _ _ _ _ _ _ _=>a
 |_=>⟨[],[],none,[],[],none,[]⟩
def fB(s:Stmt):List Stmt:=match s with
 |.FunctionDef _ _ b _ _ _ _ _ _ _=>b
 |_=>[]
def fS(s:Stmt):Scope:=match s with
 |.FunctionDef _ _ _ _ _ _ c _ _ _=>c
 |_=>⟨.function,[],false,false,[]⟩
def inC(s:Stmt)(j:Nat):Stmt:=match s with
 |.ClassDef _ _ _ b _ _ _ _ _ _ _=>b.getD j (.Pass ⟨0,0,0,0⟩)
 |_=>.Pass ⟨0,0,0,0⟩
noncomputable section
abbrev O:=Obj
abbrev sT(s:String)(t:Nat):Value:=.str (.ofString s) t
abbrev iZ(n:Int):Value:=.int n 0
abbrev dE(P:Params)(s:String)(t:Nat)(v:Value):DictEntry:=.mk (PyData.keyHash P (.ofString s)) (.str (.ofString s) t) v
abbrev fO(n q:String)(w:Stmt)(m:String)(t c:Nat):Obj:=.mk (.type "function") none (Data.func (FuncData.mk (.ofString n) (.ofString q) (fA w) (.stmts (fB w)) (fS w) 3 [] .none .none .none (.str (.ofString m) t) none (.ref c) .none 0)) #[]
abbrev tO(a:Array Value):Obj:=.mk (.type "tuple") none (Data.seq a) #[]
abbrev cO(a:Array Value):Obj:=.mk (.type "code") none (Data.fields a) #[]
abbrev nO(a:Array Value):Obj:=.mk .none none (Data.fields a) #[]
abbrev mO(a:Array DictEntry):Obj:=.mk (.type "dict") none (Data.dict a) #[]
abbrev bO(a:Array Value):Obj:=.mk (.type "builtin_function_or_method") none (Data.fields a) #[]
abbrev Lf(o:Obj):BT:=.node o .nil .nil
abbrev Nd(o:Obj)(l r:BT):BT:=.node o l r
abbrev sF(t:Nat):Value:=.str (.ofString "/claim/cut.py") t
def tE:Obj:=.mk (.type "tuple") none (Data.seq #[]) #[]
abbrev cF(n q:String)(a l k r t:Nat):Obj:=.mk (.type "code") none (Data.fields #[.str (.ofString n) a,.str (.ofString q) (a+1),.str (.ofString "/claim/cut.py") (a+2),.int l 0,.int k 0,.int 0 0,.int 0 0,.int 3 0,.ref r,.bool true,.int 181 0,.ref (r+1),.none,.ref (r+2),.ref (r+3),.ref (r+4),.int t 0,.int l 0,.str (.ofString "/claim/cut.py") (t+1)]) #[]
abbrev pO(n q:String)(w:Stmt)(c:Nat):Obj:=.mk .none none (Data.func (FuncData.mk (.ofString n) (.ofString q) (fA w) (.stmts (fB w)) (fS w) 3 [] .none .none .none .none none (.ref c) .none 0)) #[]
abbrev rO(c l:Nat)(m:String)(t:Nat):Obj:=.mk (.type "frame") none Data.plain #[some (.ref c),some (.ref 3),some (.ref l),none,some (.str (.ofString m) t),none,some (.ref 0)]
abbrev sO(c:Nat):Obj:=.mk (.type "super") none (Data.fields #[.ref c,.ref c,.ref c]) #[]
abbrev dO(a:Array DictEntry)(n:Nat):Obj:=.mk (.type "dict") none (Data.dict a n) #[]
abbrev xO(n:String)(b c d e t u:Nat):Obj:=.mk (.type "type") none (Data.cls (ClassData.mk (.ofString n) [.ref b] [.ref c,.ref b,.type "ValueError",.type "Exception",.type "BaseException",.type "object"] d (.ofString n) true [] [] false none false)) #[some (.ref e),none,some (.str (.ofString n) t),some (.str (.ofString n) u),some (.builtin "ValueError.__new__"),some (.bool true)]
def o2:O:=.mk .none none (Data.dict #[]) #[]
def o3(P:Params):O:=dO #[dE P "__name__" 165 (sT "law_formcycle_k49_no_product" 1059),dE P "__doc__" 166 .none,dE P "__package__" 167 .none,dE P "__loader__" 168 (.builtin "__main__.__loader__#opaque"),dE P "__spec__" 169 .none,dE P "__annotations__" 170 (.ref 6),dE P "__builtins__" 171 (.ref 4),dE P "__file__" 173 (sF 172),dE P "__cached__" 174 .none,dE P "_wall" 193 (.ref 21),dE P "FormError" 213 (.ref 31),dE P "NoTurn" 238 (.ref 51),dE P "NoShape" 263 (.ref 70),dE P "TooGreat" 290 (.ref 89),dE P "NoRoot" 315 (.ref 108),dE P "NotLevel" 340 (.ref 127),dE P "NotOwn" 365 (.ref 146),dE P "Apart" 381 (.ref 158),dE P "NotPlain" 406 (.ref 177),dE P "NoMeasure" 431 (.ref 196),dE P "Nought" 447 (.ref 208),dE P "NoAnswer" 472 (.ref 227),dE P "divisor" 483 (.ref 236),dE P "shares" 494 (.ref 243),dE P "row_less" 503 (.ref 250),dE P "root" 512 (.ref 257),dE P "is_square" 520 (.ref 264),dE P "powered" 532 (.ref 271),dE P "check_at_most" 540 (.ref 278),dE P "check_within" 548 (.ref 285),dE P "SAME" 555 (.ref 286),dE P "is_turn" 562 (.ref 293),dE P "check_turn" 569 (.ref 300),dE P "led" 577 (.ref 307),dE P "put_behind" 585 (.ref 314),dE P "back" 592 (.ref 321),dE P "measure" 601 (.ref 328),dE P "value" 611 (.ref 335),dE P "content" 618 (.ref 342),dE P "moved" 628 (.ref 349),dE P "middle" 638 (.ref 356),dE P "opposite" 645 (.ref 363),dE P "shape" 653 (.ref 370),dE P "check_bowl" 662 (.ref 377),dE P "stands_least" 672 (.ref 384),dE P "settled" 681 (.ref 391),dE P "turn_lower" 689 (.ref 398),dE P "MOST_MEASURE" 693 (.int 4000 692),dE P "check_saddle" 700 (.ref 405),dE P "stands_level" 709 (.ref 412),dE P "turn_behind" 720 (.ref 419),dE P "stop_behind" 729 (.ref 426),dE P "eased" 738 (.ref 433),dE P "stops_round" 749 (.ref 440),dE P "round_of" 755 (.ref 445),dE P "lowered" 762 (.ref 452),dE P "Shape" 819 (.ref 490),dE P "Bowl" 843 (.ref 511),dE P "Saddle" 867 (.ref 530),dE P "shape_of" 874 (.ref 539),dE P "least_of" 881 (.ref 546),dE P "product" 894 (.ref 553),dE P "check_pair" 904 (.ref 560),dE P "check_plain" 911 (.ref 567),dE P "half_of_middles" 919 (.ref 574),dE P "common_shares" 929 (.ref 581),dE P "joint_form" 944 (.ref 588),dE P "joint_rows" 961 (.ref 595),dE P "rows_led" 967 (.ref 600),dE P "MOST_OF_TABLE" 971 (.int 400 970),dE P "check_measure" 978 (.ref 607),dE P "unit" 986 (.ref 614),dE P "classes" 993 (.ref 621),dE P "least_bowls" 999 (.ref 626),dE P "least_saddles" 1011 (.ref 633),dE P "plain_forms" 1017 (.ref 638),dE P "table" 1023 (.ref 643),dE P "row_of_table" 1029 (.ref 648),dE P "least_product" 1037 (.ref 655),dE P "power" 1046 (.ref 662),dE P "order_of" 1058 (.ref 669),dE P "_law_ask" 1069 (.ref 676),dE P "_law_told" 1080 (.ref 683),dE P "_law_kinds" 1089 (.ref 690),dE P "_law_field" 1096 (.ref 697),dE P "_law_due" 1102 (.ref 702),dE P "_law_forms" 1114 (.ref 709),dE P "_law_two" 1127 (.ref 716),dE P "_law_one" 1142 (.ref 723),dE P "_law_number" 1151 (.ref 730),dE P "_law_numbered" 1163 (.ref 737),dE P "_law_edges" 1170 (.ref 744),dE P "law" 1184 (.ref 751)] 93
def o17:O:=tO #[sT "k" 190]
def o20:O:=cF "_wall" "_wall" 187 1 1 15 191
def o21:O:=fO "_wall" "_wall" (tp 0) "__main__" 164 20
def o22:O:=tO #[.type "ValueError"]
def o30(P:Params):O:=dO #[dE P "__module__" 203 (sT "formcycle.errors" 194),dE P "__firstlineno__" 207 (.int 5 206),dE P "__static_attributes__" 208 (.ref 29),dE P "__weakref__" 210 (.ref 32),dE P "__doc__" 211 .none] 3
def o31:O:=.mk (.type "type") none (Data.cls (ClassData.mk (.ofString "FormError") [.type "ValueError"] [.ref 31,.type "ValueError",.type "Exception",.type "BaseException",.type "object"] 30 (.ofString "FormError") Bool.true [] [.ref 51,.ref 70,.ref 89,.ref 108,.ref 127,.ref 146,.ref 158,.ref 177,.ref 196,.ref 208,.ref 227] Bool.false none Bool.false)) #[some (.ref 22),none,some (sT "FormError" 196),some (sT "FormError" 204),some (.builtin "ValueError.__new__"),some (.bool true)]
def o32:O:=.mk (.type "getset_descriptor") none (Data.fields #[sT "__weakref__" 209,.ref 31,.builtin "ExceptionGroup.__weakref__",.none]) #[]
def o35:O:=tO #[.ref 31]
def o44:O:=tO #[sT "self" 229,sT "turn" 230]
def o47:O:=cF "__init__" "NoTurn.__init__" 226 9 2 42 231
def o48:O:=fO "__init__" "NoTurn.__init__" (inC (tp 3) 0) "formcycle.errors" 194 47
def o49:O:=tO #[sT "turn" 234]
def o50(P:Params):O:=dO #[dE P "__module__" 221 (sT "formcycle.errors" 194),dE P "__firstlineno__" 225 (.int 7 224),dE P "__init__" 233 (.ref 48),dE P "__static_attributes__" 235 (.ref 49),dE P "__doc__" 236 .none] 2
def o51:O:=xO "NoTurn" 31 51 50 35 214 222
def o54:O:=tO #[.ref 31]
def o63:O:=tO #[sT "self" 254,sT "form" 255]
def o66:O:=cF "__init__" "NoShape.__init__" 251 13 2 61 256
def o67:O:=fO "__init__" "NoShape.__init__" (inC (tp 4) 0) "formcycle.errors" 194 66
def o68:O:=tO #[sT "form" 259]
def o69(P:Params):O:=dO #[dE P "__module__" 246 (sT "formcycle.errors" 194),dE P "__firstlineno__" 250 (.int 11 249),dE P "__init__" 258 (.ref 67),dE P "__static_attributes__" 260 (.ref 68),dE P "__doc__" 261 .none] 2
def o70:O:=xO "NoShape" 31 70 69 54 239 247
def o73:O:=tO #[.ref 31]
def o82:O:=tO #[sT "self" 279,sT "number" 280,sT "most" 281]
def o85:O:=cF "__init__" "TooGreat.__init__" 276 17 3 80 282
def o86:O:=fO "__init__" "TooGreat.__init__" (inC (tp 5) 0) "formcycle.errors" 194 85
def o87:O:=tO #[sT "most" 285,sT "number" 286]
def o88(P:Params):O:=dO #[dE P "__module__" 271 (sT "formcycle.errors" 194),dE P "__firstlineno__" 275 (.int 15 274),dE P "__init__" 284 (.ref 86),dE P "__static_attributes__" 287 (.ref 87),dE P "__doc__" 288 .none] 2
def o89:O:=xO "TooGreat" 31 89 88 73 264 272
def o92:O:=tO #[.ref 31]
def AfC:O:=tO #[sT "self" 306,sT "number" 307]
def AfU:O:=cF "__init__" "NoRoot.__init__" 303 22 2 99 308
def Age:O:=fO "__init__" "NoRoot.__init__" (inC (tp 6) 0) "formcycle.errors" 194 104
def Afm:O:=tO #[sT "number" 311]
def AeO(P:Params):O:=dO #[dE P "__module__" 298 (sT "formcycle.errors" 194),dE P "__firstlineno__" 302 (.int 20 301),dE P "__init__" 310 (.ref 105),dE P "__static_attributes__" 312 (.ref 106),dE P "__doc__" 313 .none] 2
def Af9:O:=xO "NoRoot" 31 108 107 92 291 299
def o111:O:=tO #[.ref 31]
def AgJ:O:=tO #[sT "self" 331,sT "form" 332]
def Agg:O:=cF "__init__" "NotLevel.__init__" 328 26 2 118 333
def Afl:O:=fO "__init__" "NotLevel.__init__" (inC (tp 7) 0) "formcycle.errors" 194 123
def Afq:O:=tO #[sT "form" 336]
def Ae9(P:Params):O:=dO #[dE P "__module__" 323 (sT "formcycle.errors" 194),dE P "__firstlineno__" 327 (.int 24 326),dE P "__init__" 335 (.ref 124),dE P "__static_attributes__" 337 (.ref 125),dE P "__doc__" 338 .none] 2
def AgF:O:=xO "NotLevel" 31 127 126 111 316 324
def AfY:O:=tO #[.ref 31]
def Afp:O:=tO #[sT "self" 356,sT "turn" 357]
def Aex:O:=cF "__init__" "NotOwn.__init__" 353 30 2 137 358
def AfH:O:=fO "__init__" "NotOwn.__init__" (inC (tp 8) 0) "formcycle.errors" 194 142
def Af8:O:=tO #[sT "turn" 361]
def Ae8(P:Params):O:=dO #[dE P "__module__" 348 (sT "formcycle.errors" 194),dE P "__firstlineno__" 352 (.int 28 351),dE P "__init__" 360 (.ref 143),dE P "__static_attributes__" 362 (.ref 144),dE P "__doc__" 363 .none] 2
def Afn:O:=xO "NotOwn" 31 146 145 130 341 349
def AjR:O:=tO #[.ref 31]
def AhZ(P:Params):O:=dO #[dE P "__module__" 373 (sT "formcycle.errors" 194),dE P "__firstlineno__" 377 (.int 32 376),dE P "__static_attributes__" 378 (.ref 156),dE P "__doc__" 379 .none] 2
def AjY:O:=xO "Apart" 31 158 157 149 366 374
def Aim:O:=tO #[.ref 31]
def Ah3:O:=tO #[sT "self" 397,sT "form" 398]
def AiY:O:=cF "__init__" "NotPlain.__init__" 394 36 2 168 399
def AhJ:O:=fO "__init__" "NotPlain.__init__" (inC (tp 10) 0) "formcycle.errors" 194 173
def AiM:O:=tO #[sT "form" 402]
def AiE(P:Params):O:=dO #[dE P "__module__" 389 (sT "formcycle.errors" 194),dE P "__firstlineno__" 393 (.int 34 392),dE P "__init__" 401 (.ref 174),dE P "__static_attributes__" 403 (.ref 175),dE P "__doc__" 404 .none] 2
def Aij:O:=xO "NotPlain" 31 177 176 161 382 390
def Aje:O:=tO #[.ref 31]
def AjE:O:=tO #[sT "self" 422,sT "number" 423]
def AjT:O:=cF "__init__" "NoMeasure.__init__" 419 40 2 187 424
def Ajx:O:=fO "__init__" "NoMeasure.__init__" (inC (tp 11) 0) "formcycle.errors" 194 192
def AiC:O:=tO #[sT "number" 427]
def Ah9(P:Params):O:=dO #[dE P "__module__" 414 (sT "formcycle.errors" 194),dE P "__firstlineno__" 418 (.int 38 417),dE P "__init__" 426 (.ref 193),dE P "__static_attributes__" 428 (.ref 194),dE P "__doc__" 429 .none] 2
def Aji:O:=xO "NoMeasure" 31 196 195 180 407 415
def AjO:O:=tO #[.ref 31]
def Aja(P:Params):O:=dO #[dE P "__module__" 439 (sT "formcycle.errors" 194),dE P "__firstlineno__" 443 (.int 42 442),dE P "__static_attributes__" 444 (.ref 206),dE P "__doc__" 445 .none] 2
def Ai8:O:=xO "Nought" 31 208 207 199 432 440
def AjU:O:=tO #[.ref 31]
def AjV:O:=tO #[sT "self" 463,sT "point" 464]
def Ai0:O:=cF "__init__" "NoAnswer.__init__" 460 46 2 218 465
def AhW:O:=fO "__init__" "NoAnswer.__init__" (inC (tp 13) 0) "formcycle.errors" 194 223
def Ai6:O:=tO #[sT "point" 468]
def AjA(P:Params):O:=dO #[dE P "__module__" 455 (sT "formcycle.errors" 194),dE P "__firstlineno__" 459 (.int 44 458),dE P "__init__" 467 (.ref 224),dE P "__static_attributes__" 469 (.ref 225),dE P "__doc__" 470 .none] 2
def AhI:O:=xO "NoAnswer" 31 227 226 211 448 456
def AiI:O:=tO #[sT "one" 478,sT "other" 479,sT "rest" 480]
def Aj1:O:=cF "divisor" "divisor" 475 49 2 230 481
def Ai2:O:=fO "divisor" "divisor" (tp 15) "formcycle.wholes" 473 235
def Ah1:O:=tO #[sT "one" 487,sT "other" 488,sT "row" 489,sT "lower" 490,sT "rest" 491]
def AjG:O:=cF "shares" "shares" 484 55 2 237 492
def AjJ:O:=fO "shares" "shares" (tp 16) "formcycle.wholes" 473 242
def Ajw:O:=tO #[sT "row" 498,sT "lower" 499,sT "often" 500]
def AhY:O:=cF "row_less" "row_less" 495 65 3 244 501
def Aiz:O:=fO "row_less" "row_less" (tp 17) "formcycle.wholes" 473 249
def Aj0:O:=tO #[sT "number" 507,sT "guess" 508,sT "better" 509]
def Ajc:O:=cF "root" "root" 504 67 1 251 510
def Aif:O:=fO "root" "root" (tp 18) "formcycle.wholes" 473 256
def Ajd:O:=tO #[sT "number" 516,sT "side" 517]
def Ajy:O:=cF "is_square" "is_square" 513 78 1 258 518
def Aiw:O:=fO "is_square" "is_square" (tp 19) "formcycle.wholes" 473 263
def Ai9:O:=tO #[sT "thing" 524,sT "count" 525,sT "put" 526,sT "first" 527,sT "came" 528,sT "place" 529]
def Aju:O:=cF "powered" "powered" 521 83 4 265 530
def Aid:O:=fO "powered" "powered" (tp 20) "formcycle.wholes" 473 270
def Aig:O:=tO #[sT "number" 536,sT "most" 537]
def Aib:O:=cF "check_at_most" "check_at_most" 533 92 2 272 538
def Aj2:O:=fO "check_at_most" "check_at_most" (tp 21) "formcycle.wholes" 473 277
def AhU:O:=tO #[sT "number" 544,sT "most" 545]
def AiV:O:=cF "check_within" "check_within" 541 95 2 279 546
def Aiy:O:=fO "check_within" "check_within" (tp 22) "formcycle.wholes" 473 284
def AjK:O:=tO #[.int 1 551,.int 0 552,.int 0 553,.int 1 554]
def Aiu:O:=tO #[sT "turn" 559]
def AiF:O:=cF "is_turn" "is_turn" 556 100 1 287 560
def Ajn:O:=fO "is_turn" "is_turn" (tp 25) "formcycle.turns" 549 292
def AjN:O:=tO #[sT "turn" 566]
def AjW:O:=cF "check_turn" "check_turn" 563 102 1 294 567
def o300:O:=fO "check_turn" "check_turn" (tp 26) "formcycle.turns" 549 299
def Am6:O:=tO #[sT "turn" 573,sT "point" 574]
def AlB:O:=cF "led" "led" 570 105 2 301 575
def Alj:O:=fO "led" "led" (tp 27) "formcycle.turns" 549 306
def AmV:O:=tO #[sT "one" 581,sT "other" 582]
def Amu:O:=cF "put_behind" "put_behind" 578 108 2 308 583
def AmQ:O:=fO "put_behind" "put_behind" (tp 28) "formcycle.turns" 549 313
def Ams:O:=tO #[sT "turn" 589]
def Amj:O:=cF "back" "back" 586 110 1 315 590
def AkJ:O:=fO "back" "back" (tp 29) "formcycle.turns" 549 320
def AlM:O:=tO #[sT "form" 598]
def AlJ:O:=cF "measure" "measure" 595 114 1 322 599
def Alm:O:=fO "measure" "measure" (tp 31) "formcycle.forms" 593 327
def Anp:O:=tO #[sT "form" 605,sT "point" 606,sT "x" 607,sT "y" 608]
def Akq:O:=cF "value" "value" 602 116 2 329 609
def Alo:O:=fO "value" "value" (tp 32) "formcycle.forms" 593 334
def Ane:O:=tO #[sT "form" 615]
def Akr:O:=cF "content" "content" 612 120 1 336 616
def AmS:O:=fO "content" "content" (tp 33) "formcycle.forms" 593 341
def AlY:O:=tO #[sT "form" 622,sT "turn" 623,sT "left" 624,sT "right" 625]
def AmK:O:=cF "moved" "moved" 619 122 2 343 626
def AmL:O:=fO "moved" "moved" (tp 34) "formcycle.forms" 593 348
def AkM:O:=tO #[sT "form" 632,sT "left" 633,sT "right" 634,sT "crossed" 635]
def Akl:O:=cF "middle" "middle" 629 127 3 350 636
def AlA:O:=fO "middle" "middle" (tp 35) "formcycle.forms" 593 355
def AkQ:O:=tO #[sT "form" 642]
def Alw:O:=cF "opposite" "opposite" 639 130 1 357 643
def AlX:O:=fO "opposite" "opposite" (tp 36) "formcycle.forms" 593 362
def Ana:O:=tO #[sT "form" 649,sT "number" 650]
def AlQ:O:=cF "shape" "shape" 646 132 1 364 651
def Anj:O:=fO "shape" "shape" (tp 37) "formcycle.forms" 593 369
def AmY:O:=tO #[sT "form" 659]
def Amv:O:=cF "check_bowl" "check_bowl" 656 142 1 371 660
def o377:O:=fO "check_bowl" "check_bowl" (tp 39) "formcycle.bowls" 654 376
def Aj7:O:=tO #[sT "form" 666,sT "a" 667,sT "b" 668,sT "c" 669]
def Anf:O:=cF "stands_least" "stands_least" 663 145 1 378 670
def Ak0:O:=fO "stands_least" "stands_least" (tp 40) "formcycle.bowls" 654 383
def Alq:O:=tO #[sT "form" 676,sT "turn" 677,sT "lowering" 678]
def Alh:O:=cF "settled" "settled" 673 152 1 385 679
def AmO:O:=fO "settled" "settled" (tp 41) "formcycle.bowls" 654 390
def Al9:O:=tO #[sT "form" 685,sT "often" 686]
def Ano:O:=cF "turn_lower" "turn_lower" 682 160 1 392 687
def Alz:O:=fO "turn_lower" "turn_lower" (tp 42) "formcycle.bowls" 654 397
def Al8:O:=tO #[sT "form" 697]
def Anl:O:=cF "check_saddle" "check_saddle" 694 167 1 399 698
def Amz:O:=fO "check_saddle" "check_saddle" (tp 45) "formcycle.saddles" 690 404
def Amo:O:=tO #[sT "form" 704,sT "far" 705,sT "b" 706]
def AkW:O:=cF "stands_level" "stands_level" 701 171 2 406 707
def AkP:O:=fO "stands_level" "stands_level" (tp 46) "formcycle.saddles" 690 411
def Al6:O:=tO #[sT "form" 713,sT "top" 714,sT "b" 715,sT "c" 716,sT "d" 717]
def Ak6:O:=cF "turn_behind" "turn_behind" 710 174 2 413 718
def AmW:O:=fO "turn_behind" "turn_behind" (tp 47) "formcycle.saddles" 690 418
def Amq:O:=tO #[sT "stop" 724,sT "top" 725,sT "turn" 726]
def AkO:O:=cF "stop_behind" "stop_behind" 721 179 2 420 727
def Amm:O:=fO "stop_behind" "stop_behind" (tp 48) "formcycle.saddles" 690 425
def AmJ:O:=tO #[sT "form" 733,sT "far" 734,sT "stop" 735]
def Akz:O:=cF "eased" "eased" 730 182 1 427 736
def Aln:O:=fO "eased" "eased" (tp 49) "formcycle.saddles" 690 432
def AkV:O:=tO #[sT "form" 742,sT "far" 743,sT "first" 744,sT "stops" 745,sT "stop" 746]
def Amh:O:=cF "stops_round" "stops_round" 739 189 1 434 747
def AmI:O:=fO "stops_round" "stops_round" (tp 50) "formcycle.saddles" 690 439
def o444:O:=cO #[sT "round_of" 750,sT "round_of" 751,sF 752,iZ 199,iZ 1,iZ 0,iZ 0,iZ 3,.ref 441,.bool true,iZ 181,.ref 442,.none,.none,.none,.ref 443,iZ 753,iZ 199,sF 754]
def Ak7:O:=fO "round_of" "round_of" (tp 51) "formcycle.saddles" 690 444
def AlV:O:=tO #[sT "form" 759]
def AkE:O:=cF "lowered" "lowered" 756 204 1 446 760
def Ama:O:=fO "lowered" "lowered" (tp 52) "formcycle.saddles" 690 451
def Amb:O:=tO #[sT "self" 780,sT "form" 781,sT "lowest" 782]
def Ami:O:=cF "__init__" "Shape.__init__" 777 210 3 460 783
def Anb:O:=fO "__init__" "Shape.__init__" (inC (tp 54) 0) "formcycle.shapes" 763 465
def AkU:O:=tO #[sT "self" 789]
def Akj:O:=cF "least" "Shape.least" 786 215 1 467 790
def AlP:O:=fO "least" "Shape.least" (inC (tp 54) 1) "formcycle.shapes" 763 472
def Aky:O:=tO #[sT "self" 796,sT "turn" 797]
def Aly:O:=cF "leaves" "Shape.leaves" 793 218 2 474 798
def Aka:O:=fO "leaves" "Shape.leaves" (inC (tp 54) 2) "formcycle.shapes" 763 479
def AmA:O:=tO #[sT "self" 804,sT "other" 805]
def AlI:O:=cF "way_to" "Shape.way_to" 801 221 2 481 806
def AmG:O:=fO "way_to" "Shape.way_to" (inC (tp 54) 3) "formcycle.shapes" 763 486
def AkF:O:=tO #[sT "form" 809,sT "lowest" 810,sT "measure" 811]
def AlZ(P:Params):O:=dO #[dE P "__module__" 772 (sT "formcycle.shapes" 763),dE P "__firstlineno__" 776 (.int 208 775),dE P "__init__" 785 (.ref 466),dE P "least" 792 (.ref 473),dE P "leaves" 800 (.ref 480),dE P "way_to" 808 (.ref 487),dE P "__static_attributes__" 812 (.ref 488),dE P "__dict__" 814 (.ref 491),dE P "__weakref__" 816 (.ref 492),dE P "__doc__" 817 .none] 4
def AkB:O:=.mk (.type "type") none (Data.cls (ClassData.mk (.ofString "Shape") [.type "object"] [.ref 490,.type "object"] 489 (.ofString "Shape") Bool.true [] [.ref 511,.ref 530] Bool.false none Bool.false)) #[none,none,some (sT "Shape" 765),some (sT "Shape" 773),some (.builtin "object.__new__"),some (.bool true)]
def AlR:O:=.mk (.type "getset_descriptor") none (Data.fields #[sT "__dict__" 813,.ref 490,.builtin "function.__dict__",.builtin "function.__dict__#set"]) #[]
def Am0:O:=.mk (.type "getset_descriptor") none (Data.fields #[sT "__weakref__" 815,.ref 490,.builtin "ExceptionGroup.__weakref__",.none]) #[]
def AkR:O:=tO #[.ref 490]
def Ak3:O:=tO #[sT "self" 835,sT "form" 836]
def Ake:O:=cF "__init__" "Bowl.__init__" 832 225 2 502 837
def Ala:O:=fO "__init__" "Bowl.__init__" (inC (tp 55) 0) "formcycle.shapes" 763 507
def AmR(P:Params):O:=dO #[dE P "__module__" 827 (sT "formcycle.shapes" 763),dE P "__firstlineno__" 831 (.int 223 830),dE P "__init__" 839 (.ref 508),dE P "__static_attributes__" 840 (.ref 509),dE P "__doc__" 841 .none] 2
def Amw:O:=.mk (.type "type") none (Data.cls (ClassData.mk (.ofString "Bowl") [.ref 490] [.ref 511,.ref 490,.type "object"] 510 (.ofString "Bowl") Bool.true [] [] Bool.false none Bool.false)) #[some (.ref 495),none,some (sT "Bowl" 820),some (sT "Bowl" 828),some (.builtin "object.__new__"),some (.bool true)]
def AlW:O:=tO #[.ref 490]
def Amy:O:=tO #[sT "self" 859,sT "form" 860]
def AkI:O:=cF "__init__" "Saddle.__init__" 856 229 2 521 861
def Akn:O:=fO "__init__" "Saddle.__init__" (inC (tp 56) 0) "formcycle.shapes" 763 526
def Am2(P:Params):O:=dO #[dE P "__module__" 851 (sT "formcycle.shapes" 763),dE P "__firstlineno__" 855 (.int 227 854),dE P "__init__" 863 (.ref 527),dE P "__static_attributes__" 864 (.ref 528),dE P "__doc__" 865 .none] 2
def Akb:O:=.mk (.type "type") none (Data.cls (ClassData.mk (.ofString "Saddle") [.ref 490] [.ref 530,.ref 490,.type "object"] 529 (.ofString "Saddle") Bool.true [] [] Bool.false none Bool.false)) #[some (.ref 514),none,some (sT "Saddle" 844),some (sT "Saddle" 852),some (.builtin "object.__new__"),some (.bool true)]
def Aoj:O:=tO #[sT "form" 871]
def Anv:O:=cF "shape_of" "shape_of" 868 231 1 533 872
def AnK:O:=fO "shape_of" "shape_of" (tp 57) "formcycle.shapes" 763 538
def Ao1:O:=tO #[sT "form" 878]
def Apu:O:=cF "least_of" "least_of" 875 235 1 540 879
def AoE:O:=fO "least_of" "least_of" (tp 58) "formcycle.shapes" 763 545
def AnC:O:=tO #[sT "one" 887,sT "other" 888,sT "common" 889,sT "form" 890,sT "lowest" 891]
def Aps:O:=cF "product" "product" 884 238 2 547 892
def Apn:O:=fO "product" "product" (tp 60) "formcycle.products" 882 552
def ApL:O:=tO #[sT "one" 898,sT "other" 899,sT "first" 900,sT "second" 901]
def ApY:O:=cF "check_pair" "check_pair" 895 244 2 554 902
def AnM:O:=fO "check_pair" "check_pair" (tp 61) "formcycle.products" 882 559
def Ao5:O:=tO #[sT "form" 908]
def Apo:O:=cF "check_plain" "check_plain" 905 251 1 561 909
def AoN:O:=fO "check_plain" "check_plain" (tp 62) "formcycle.products" 882 566
def Apy:O:=tO #[sT "one" 915,sT "other" 916]
def Aoq:O:=cF "half_of_middles" "half_of_middles" 912 254 2 568 917
def AnD:O:=fO "half_of_middles" "half_of_middles" (tp 63) "formcycle.products" 882 573
def Apj:O:=tO #[sT "one" 923,sT "other" 924,sT "firsts" 925,sT "whole" 926]
def AoU:O:=cF "common_shares" "common_shares" 920 256 2 575 927
def ApM:O:=fO "common_shares" "common_shares" (tp 64) "formcycle.products" 882 580
def AoK:O:=tO #[sT "one" 933,sT "other" 934,sT "common" 935,sT "g" 936,sT "d" 937,sT "e" 938,sT "first" 939,sT "more" 940,sT "middle" 941]
def Aoz:O:=cF "joint_form" "joint_form" 930 260 3 582 942
def AnJ:O:=fO "joint_form" "joint_form" (tp 65) "formcycle.products" 882 587
def ApG:O:=tO #[sT "one" 948,sT "other" 949,sT "g" 950,sT "middle" 951,sT "a" 952,sT "b" 953,sT "d" 954,sT "e" 955,sT "s" 956,sT "last" 957,sT "upper" 958]
def AnW:O:=cF "joint_rows" "joint_rows" 945 268 4 589 959
def Apk:O:=fO "joint_rows" "joint_rows" (tp 66) "formcycle.products" 882 594
def AoX:O:=cO #[sT "rows_led" 962,sT "rows_led" 963,sF 964,iZ 277,iZ 2,iZ 0,iZ 0,iZ 3,.ref 596,.bool true,iZ 181,.ref 597,.none,.none,.none,.ref 598,iZ 965,iZ 277,sF 966]
def o600:O:=fO "rows_led" "rows_led" (tp 67) "formcycle.products" 882 599
def AoB:O:=tO #[sT "number" 975]
def AoH:O:=cF "check_measure" "check_measure" 972 282 1 601 976
def Apg:O:=fO "check_measure" "check_measure" (tp 70) "formcycle.classes" 968 606
def ApI:O:=tO #[sT "number" 982,sT "middle" 983]
def Aov:O:=cF "unit" "unit" 979 285 1 608 984
def ApP:O:=fO "unit" "unit" (tp 71) "formcycle.classes" 968 613
def AnV:O:=tO #[sT "number" 990]
def AoM:O:=cF "classes" "classes" 987 290 1 615 991
def Ant:O:=fO "classes" "classes" (tp 72) "formcycle.classes" 968 620
def AoY:O:=cO #[sT "least_bowls" 994,sT "least_bowls" 995,sF 996,iZ 296,iZ 1,iZ 0,iZ 0,iZ 3,.ref 622,.bool true,iZ 181,.ref 623,.none,.none,.none,.ref 624,iZ 997,iZ 296,sF 998]
def AnN:O:=fO "least_bowls" "least_bowls" (tp 73) "formcycle.classes" 968 625
def An8:O:=tO #[sT "number" 1003,sT "far" 1004,sT "found" 1005,sT "seen" 1006,sT "form" 1007,sT "other" 1008]
def Apx:O:=cF "least_saddles" "least_saddles" 1000 298 1 627 1009
def Apw:O:=fO "least_saddles" "least_saddles" (tp 74) "formcycle.classes" 968 632
def AnA:O:=cO #[sT "plain_forms" 1012,sT "plain_forms" 1013,sF 1014,iZ 308,iZ 2,iZ 0,iZ 0,iZ 3,.ref 634,.bool true,iZ 181,.ref 635,.none,.none,.none,.ref 636,iZ 1015,iZ 308,sF 1016]
def ApF:O:=fO "plain_forms" "plain_forms" (tp 75) "formcycle.classes" 968 637
def ApC:O:=cO #[sT "table" 1018,sT "table" 1019,sF 1020,iZ 315,iZ 1,iZ 0,iZ 0,iZ 3,.ref 639,.bool true,iZ 181,.ref 640,.none,.none,.none,.ref 641,iZ 1021,iZ 315,sF 1022]
def Aop:O:=fO "table" "table" (tp 76) "formcycle.classes" 968 642
def Aos:O:=cO #[sT "row_of_table" 1024,sT "row_of_table" 1025,sF 1026,iZ 320,iZ 2,iZ 0,iZ 0,iZ 3,.ref 644,.bool true,iZ 181,.ref 645,.none,.none,.none,.ref 646,iZ 1027,iZ 320,sF 1028]
def Ao9:O:=fO "row_of_table" "row_of_table" (tp 77) "formcycle.classes" 968 647
def An3:O:=tO #[sT "one" 1033,sT "other" 1034]
def AnL:O:=cF "least_product" "least_product" 1030 322 2 649 1035
def Aoh:O:=fO "least_product" "least_product" (tp 78) "formcycle.classes" 968 654
def Anz:O:=tO #[sT "form" 1041,sT "count" 1042,sT "whole" 1043]
def Ao6:O:=cF "power" "power" 1038 324 2 656 1044
def Aou:O:=fO "power" "power" (tp 79) "formcycle.classes" 968 661
def ApH:O:=tO #[sT "form" 1050,sT "whole" 1051,sT "first" 1052,sT "lowest" 1053,sT "came" 1054,sT "count" 1055]
def AnX:O:=cF "order_of" "order_of" 1047 330 1 663 1056
def An9:O:=fO "order_of" "order_of" (tp 80) "formcycle.classes" 968 668
def ApR:O:=tO #[sT "_law_way" 1064,sT "_law_forms_here" 1065,sT "_law_number_here" 1066]
def Aoa:O:=cF "_law_ask" "_law_ask" 1061 343 3 670 1067
def ApX:O:=fO "_law_ask" "_law_ask" (tp 82) "law_formcycle_k49_no_product" 1059 675
def Aoe:O:=tO #[sT "_law_way" 1073,sT "_law_forms_here" 1074,sT "_law_number_here" 1075,sT "_law_told_here" 1076,sT "e" 1077]
def Aow:O:=cF "_law_told" "_law_told" 1070 355 3 677 1078
def ApB:O:=fO "_law_told" "_law_told" (tp 83) "law_formcycle_k49_no_product" 1059 682
def Aod:O:=tO #[sT "_law_told_here" 1084,sT "_law_found" 1085,sT "_law_others" 1086]
def AoA:O:=cF "_law_kinds" "_law_kinds" 1081 362 1 684 1087
def Ao0:O:=fO "_law_kinds" "_law_kinds" (tp 84) "law_formcycle_k49_no_product" 1059 689
def AoO:O:=tO #[sT "_law_told_here" 1093]
def Apd:O:=cF "_law_field" "_law_field" 1090 366 1 691 1094
def Ao3:O:=fO "_law_field" "_law_field" (tp 85) "law_formcycle_k49_no_product" 1059 696
def Aom:O:=cO #[sT "_law_due" 1097,sT "_law_due" 1098,sF 1099,iZ 374,iZ 2,iZ 0,iZ 0,iZ 3,.ref 698,.bool true,iZ 181,.ref 699,.none,.none,.none,.ref 700,iZ 1100,iZ 374,sF 1101]
def AoT:O:=fO "_law_due" "_law_due" (tp 86) "law_formcycle_k49_no_product" 1059 701
def Aoy:O:=tO #[sT "_law_far" 1106,sT "_law_dome" 1107,sT "_law_flat" 1108,sT "_law_wide" 1109,sT "_law_bowl" 1110,sT "_law_thick" 1111]
def Apz:O:=cF "_law_forms" "_law_forms" 1103 376 1 703 1112
def ApS:O:=fO "_law_forms" "_law_forms" (tp 87) "law_formcycle_k49_no_product" 1059 708
def AnZ:O:=tO #[sT "_law_kind" 1118,sT "_law_far" 1119,sT "_law_dome" 1120,sT "_law_flat" 1121,sT "_law_wide" 1122,sT "_law_bowl" 1123,sT "_law_thick" 1124]
def An4:O:=cF "_law_two" "_law_two" 1115 383 2 710 1125
def Aoc:O:=fO "_law_two" "_law_two" (tp 88) "law_formcycle_k49_no_product" 1059 715
def ApW:O:=tO #[sT "_law_kind" 1131,sT "_law_far" 1132,sT "_law_way" 1133,sT "_law_dome" 1134,sT "_law_flat" 1135,sT "_law_wide" 1136,sT "_law_bowl" 1137,sT "_law_thick" 1138,sT "_law_low" 1139]
def AnS:O:=cF "_law_one" "_law_one" 1128 414 3 717 1140
def An2:O:=fO "_law_one" "_law_one" (tp 89) "law_formcycle_k49_no_product" 1059 722
def AnG:O:=tO #[sT "_law_kind" 1146,sT "_law_far" 1147,sT "_law_most" 1148]
def Ao2:O:=cF "_law_number" "_law_number" 1143 432 3 724 1149
def AnQ:O:=fO "_law_number" "_law_number" (tp 90) "law_formcycle_k49_no_product" 1059 729
def Aoo:O:=tO #[sT "_law_way" 1155,sT "_law_kind" 1156,sT "_law_far" 1157,sT "_law_most" 1158,sT "_law_number_here" 1159,sT "_law_at" 1160]
def ApD:O:=cF "_law_numbered" "_law_numbered" 1152 446 3 731 1161
def AnB:O:=fO "_law_numbered" "_law_numbered" (tp 91) "law_formcycle_k49_no_product" 1059 736
def Aof:O:=tO #[sT "_law_last" 1167]
def An7:O:=cF "_law_edges" "_law_edges" 1164 454 0 738 1168
def ApJ:O:=fO "_law_edges" "_law_edges" (tp 92) "law_formcycle_k49_no_product" 1059 743
def ApO:O:=tO #[sT "_law_script" 1174,sT "_law_cell" 1175,sT "_law_way" 1176,sT "_law_far" 1177,sT "_law_forms_here" 1178,sT "_law_number_here" 1179,sT "_law_due_here" 1180,sT "_law_told_here" 1181]
def Aor:O:=cF "law" "law" 1171 459 1 745 1182
def AoZ:O:=fO "law" "law" (tp 93) "law_formcycle_k49_no_product" 1059 750
def KK:Params→Frag :=
fun P=>(nat_lit 2,o2)::(nat_lit 3,o3 P)::(nat_lit 15,tE)::(nat_lit 17,o17)::(nat_lit 18,tE)::(nat_lit 20,o20)::(nat_lit 21,o21)::(nat_lit 22,o22)::(nat_lit 29,tE)::(nat_lit 30,o30 P)::(nat_lit 31,o31)::(nat_lit 32,o32)::(nat_lit 35,o35)::(nat_lit 42,tE)::(nat_lit 44,o44)::(nat_lit 45,tE)::(nat_lit 47,o47)::(nat_lit 48,o48)::(nat_lit 49,o49)::(nat_lit 50,o50 P)::(nat_lit 51,o51)::(nat_lit 54,o54)::(nat_lit 61,tE)::(nat_lit 63,o63)::(nat_lit 64,tE)::(nat_lit 66,o66)::(nat_lit 67,o67)::(nat_lit 68,o68)::(nat_lit 69,o69 P)::(nat_lit 70,o70)::(nat_lit 73,o73)::(nat_lit 80,tE)::(nat_lit 82,o82)::(nat_lit 83,tE)::(nat_lit 85,o85)::(nat_lit 86,o86)::(nat_lit 87,o87)::(nat_lit 88,o88 P)::(nat_lit 89,o89)::(nat_lit 92,o92)::(nat_lit 99,tE)::(nat_lit 101,AfC)::(nat_lit 102,tE)::(nat_lit 104,AfU)::(nat_lit 105,Age)::(nat_lit 106,Afm)::(nat_lit 107,AeO P)::(nat_lit 108,Af9)::(nat_lit 111,o111)::(nat_lit 118,tE)::(nat_lit 120,AgJ)::(nat_lit 121,tE)::(nat_lit 123,Agg)::(nat_lit 124,Afl)::(nat_lit 125,Afq)::(nat_lit 126,Ae9 P)::(nat_lit 127,AgF)::(nat_lit 130,AfY)::(nat_lit 137,tE)::(nat_lit 139,Afp)::(nat_lit 140,tE)::(nat_lit 142,Aex)::(nat_lit 143,AfH)::(nat_lit 144,Af8)::(nat_lit 145,Ae8 P)::(nat_lit 146,Afn)::(nat_lit 149,AjR)::(nat_lit 156,tE)::(nat_lit 157,AhZ P)::(nat_lit 158,AjY)::(nat_lit 161,Aim)::(nat_lit 168,tE)::(nat_lit 170,Ah3)::(nat_lit 171,tE)::(nat_lit 173,AiY)::(nat_lit 174,AhJ)::(nat_lit 175,AiM)::(nat_lit 176,AiE P)::(nat_lit 177,Aij)::(nat_lit 180,Aje)::(nat_lit 187,tE)::(nat_lit 189,AjE)::(nat_lit 190,tE)::(nat_lit 192,AjT)::(nat_lit 193,Ajx)::(nat_lit 194,AiC)::(nat_lit 195,Ah9 P)::(nat_lit 196,Aji)::(nat_lit 199,AjO)::(nat_lit 206,tE)::(nat_lit 207,Aja P)::(nat_lit 208,Ai8)::(nat_lit 211,AjU)::(nat_lit 218,tE)::(nat_lit 220,AjV)::(nat_lit 221,tE)::(nat_lit 223,Ai0)::(nat_lit 224,AhW)::(nat_lit 225,Ai6)::(nat_lit 226,AjA P)::(nat_lit 227,AhI)::(nat_lit 230,tE)::(nat_lit 232,AiI)::(nat_lit 233,tE)::(nat_lit 235,Aj1)::(nat_lit 236,Ai2)::(nat_lit 237,tE)::(nat_lit 239,Ah1)::(nat_lit 240,tE)::(nat_lit 242,AjG)::(nat_lit 243,AjJ)::(nat_lit 244,tE)::(nat_lit 246,Ajw)::(nat_lit 247,tE)::(nat_lit 249,AhY)::(nat_lit 250,Aiz)::(nat_lit 251,tE)::(nat_lit 253,Aj0)::(nat_lit 254,tE)::(nat_lit 256,Ajc)::(nat_lit 257,Aif)::(nat_lit 258,tE)::(nat_lit 260,Ajd)::(nat_lit 261,tE)::(nat_lit 263,Ajy)::(nat_lit 264,Aiw)::(nat_lit 265,tE)::(nat_lit 267,Ai9)::(nat_lit 268,tE)::(nat_lit 270,Aju)::(nat_lit 271,Aid)::(nat_lit 272,tE)::(nat_lit 274,Aig)::(nat_lit 275,tE)::(nat_lit 277,Aib)::(nat_lit 278,Aj2)::(nat_lit 279,tE)::(nat_lit 281,AhU)::(nat_lit 282,tE)::(nat_lit 284,AiV)::(nat_lit 285,Aiy)::(nat_lit 286,AjK)::(nat_lit 287,tE)::(nat_lit 289,Aiu)::(nat_lit 290,tE)::(nat_lit 292,AiF)::(nat_lit 293,Ajn)::(nat_lit 294,tE)::(nat_lit 296,AjN)::(nat_lit 297,tE)::(nat_lit 299,AjW)::(nat_lit 300,o300)::(nat_lit 301,tE)::(nat_lit 303,Am6)::(nat_lit 304,tE)::(nat_lit 306,AlB)::(nat_lit 307,Alj)::(nat_lit 308,tE)::(nat_lit 310,AmV)::(nat_lit 311,tE)::(nat_lit 313,Amu)::(nat_lit 314,AmQ)::(nat_lit 315,tE)::(nat_lit 317,Ams)::(nat_lit 318,tE)::(nat_lit 320,Amj)::(nat_lit 321,AkJ)::(nat_lit 322,tE)::(nat_lit 324,AlM)::(nat_lit 325,tE)::(nat_lit 327,AlJ)::(nat_lit 328,Alm)::(nat_lit 329,tE)::(nat_lit 331,Anp)::(nat_lit 332,tE)::(nat_lit 334,Akq)::(nat_lit 335,Alo)::(nat_lit 336,tE)::(nat_lit 338,Ane)::(nat_lit 339,tE)::(nat_lit 341,Akr)::(nat_lit 342,AmS)::(nat_lit 343,tE)::(nat_lit 345,AlY)::(nat_lit 346,tE)::(nat_lit 348,AmK)::(nat_lit 349,AmL)::(nat_lit 350,tE)::(nat_lit 352,AkM)::(nat_lit 353,tE)::(nat_lit 355,Akl)::(nat_lit 356,AlA)::(nat_lit 357,tE)::(nat_lit 359,AkQ)::(nat_lit 360,tE)::(nat_lit 362,Alw)::(nat_lit 363,AlX)::(nat_lit 364,tE)::(nat_lit 366,Ana)::(nat_lit 367,tE)::(nat_lit 369,AlQ)::(nat_lit 370,Anj)::(nat_lit 371,tE)::(nat_lit 373,AmY)::(nat_lit 374,tE)::(nat_lit 376,Amv)::(nat_lit 377,o377)::(nat_lit 378,tE)::(nat_lit 380,Aj7)::(nat_lit 381,tE)::(nat_lit 383,Anf)::(nat_lit 384,Ak0)::(nat_lit 385,tE)::(nat_lit 387,Alq)::(nat_lit 388,tE)::(nat_lit 390,Alh)::(nat_lit 391,AmO)::(nat_lit 392,tE)::(nat_lit 394,Al9)::(nat_lit 395,tE)::(nat_lit 397,Ano)::(nat_lit 398,Alz)::(nat_lit 399,tE)::(nat_lit 401,Al8)::(nat_lit 402,tE)::(nat_lit 404,Anl)::(nat_lit 405,Amz)::(nat_lit 406,tE)::(nat_lit 408,Amo)::(nat_lit 409,tE)::(nat_lit 411,AkW)::(nat_lit 412,AkP)::(nat_lit 413,tE)::(nat_lit 415,Al6)::(nat_lit 416,tE)::(nat_lit 418,Ak6)::(nat_lit 419,AmW)::(nat_lit 420,tE)::(nat_lit 422,Amq)::(nat_lit 423,tE)::(nat_lit 425,AkO)::(nat_lit 426,Amm)::(nat_lit 427,tE)::(nat_lit 429,AmJ)::(nat_lit 430,tE)::(nat_lit 432,Akz)::(nat_lit 433,Aln)::(nat_lit 434,tE)::(nat_lit 436,AkV)::(nat_lit 437,tE)::(nat_lit 439,Amh)::(nat_lit 440,AmI)::(nat_lit 441,tE)::(nat_lit 444,o444)::(nat_lit 445,Ak7)::(nat_lit 446,tE)::(nat_lit 448,AlV)::(nat_lit 449,tE)::(nat_lit 451,AkE)::(nat_lit 452,Ama)::(nat_lit 460,tE)::(nat_lit 462,Amb)::(nat_lit 463,tE)::(nat_lit 465,Ami)::(nat_lit 466,Anb)::(nat_lit 467,tE)::(nat_lit 469,AkU)::(nat_lit 470,tE)::(nat_lit 472,Akj)::(nat_lit 473,AlP)::(nat_lit 474,tE)::(nat_lit 476,Aky)::(nat_lit 477,tE)::(nat_lit 479,Aly)::(nat_lit 480,Aka)::(nat_lit 481,tE)::(nat_lit 483,AmA)::(nat_lit 484,tE)::(nat_lit 486,AlI)::(nat_lit 487,AmG)::(nat_lit 488,AkF)::(nat_lit 489,AlZ P)::(nat_lit 490,AkB)::(nat_lit 491,AlR)::(nat_lit 492,Am0)::(nat_lit 495,AkR)::(nat_lit 502,tE)::(nat_lit 504,Ak3)::(nat_lit 505,tE)::(nat_lit 507,Ake)::(nat_lit 508,Ala)::(nat_lit 509,tE)::(nat_lit 510,AmR P)::(nat_lit 511,Amw)::(nat_lit 514,AlW)::(nat_lit 521,tE)::(nat_lit 523,Amy)::(nat_lit 524,tE)::(nat_lit 526,AkI)::(nat_lit 527,Akn)::(nat_lit 528,tE)::(nat_lit 529,Am2 P)::(nat_lit 530,Akb)::(nat_lit 533,tE)::(nat_lit 535,Aoj)::(nat_lit 536,tE)::(nat_lit 538,Anv)::(nat_lit 539,AnK)::(nat_lit 540,tE)::(nat_lit 542,Ao1)::(nat_lit 543,tE)::(nat_lit 545,Apu)::(nat_lit 546,AoE)::(nat_lit 547,tE)::(nat_lit 549,AnC)::(nat_lit 550,tE)::(nat_lit 552,Aps)::(nat_lit 553,Apn)::(nat_lit 554,tE)::(nat_lit 556,ApL)::(nat_lit 557,tE)::(nat_lit 559,ApY)::(nat_lit 560,AnM)::(nat_lit 561,tE)::(nat_lit 563,Ao5)::(nat_lit 564,tE)::(nat_lit 566,Apo)::(nat_lit 567,AoN)::(nat_lit 568,tE)::(nat_lit 570,Apy)::(nat_lit 571,tE)::(nat_lit 573,Aoq)::(nat_lit 574,AnD)::(nat_lit 575,tE)::(nat_lit 577,Apj)::(nat_lit 578,tE)::(nat_lit 580,AoU)::(nat_lit 581,ApM)::(nat_lit 582,tE)::(nat_lit 584,AoK)::(nat_lit 585,tE)::(nat_lit 587,Aoz)::(nat_lit 588,AnJ)::(nat_lit 589,tE)::(nat_lit 591,ApG)::(nat_lit 592,tE)::(nat_lit 594,AnW)::(nat_lit 595,Apk)::(nat_lit 596,tE)::(nat_lit 599,AoX)::(nat_lit 600,o600)::(nat_lit 601,tE)::(nat_lit 603,AoB)::(nat_lit 604,tE)::(nat_lit 606,AoH)::(nat_lit 607,Apg)::(nat_lit 608,tE)::(nat_lit 610,ApI)::(nat_lit 611,tE)::(nat_lit 613,Aov)::(nat_lit 614,ApP)::(nat_lit 615,tE)::(nat_lit 617,AnV)::(nat_lit 618,tE)::(nat_lit 620,AoM)::(nat_lit 621,Ant)::(nat_lit 622,tE)::(nat_lit 625,AoY)::(nat_lit 626,AnN)::(nat_lit 627,tE)::(nat_lit 629,An8)::(nat_lit 630,tE)::(nat_lit 632,Apx)::(nat_lit 633,Apw)::(nat_lit 634,tE)::(nat_lit 637,AnA)::(nat_lit 638,ApF)::(nat_lit 639,tE)::(nat_lit 642,ApC)::(nat_lit 643,Aop)::(nat_lit 644,tE)::(nat_lit 647,Aos)::(nat_lit 648,Ao9)::(nat_lit 649,tE)::(nat_lit 651,An3)::(nat_lit 652,tE)::(nat_lit 654,AnL)::(nat_lit 655,Aoh)::(nat_lit 656,tE)::(nat_lit 658,Anz)::(nat_lit 659,tE)::(nat_lit 661,Ao6)::(nat_lit 662,Aou)::(nat_lit 663,tE)::(nat_lit 665,ApH)::(nat_lit 666,tE)::(nat_lit 668,AnX)::(nat_lit 669,An9)::(nat_lit 670,tE)::(nat_lit 672,ApR)::(nat_lit 673,tE)::(nat_lit 675,Aoa)::(nat_lit 676,ApX)::(nat_lit 677,tE)::(nat_lit 679,Aoe)::(nat_lit 680,tE)::(nat_lit 682,Aow)::(nat_lit 683,ApB)::(nat_lit 684,tE)::(nat_lit 686,Aod)::(nat_lit 687,tE)::(nat_lit 689,AoA)::(nat_lit 690,Ao0)::(nat_lit 691,tE)::(nat_lit 693,AoO)::(nat_lit 694,tE)::(nat_lit 696,Apd)::(nat_lit 697,Ao3)::(nat_lit 698,tE)::(nat_lit 701,Aom)::(nat_lit 702,AoT)::(nat_lit 703,tE)::(nat_lit 705,Aoy)::(nat_lit 706,tE)::(nat_lit 708,Apz)::(nat_lit 709,ApS)::(nat_lit 710,tE)::(nat_lit 712,AnZ)::(nat_lit 713,tE)::(nat_lit 715,An4)::(nat_lit 716,Aoc)::(nat_lit 717,tE)::(nat_lit 719,ApW)::(nat_lit 720,tE)::(nat_lit 722,AnS)::(nat_lit 723,An2)::(nat_lit 724,tE)::(nat_lit 726,AnG)::(nat_lit 727,tE)::(nat_lit 729,Ao2)::(nat_lit 730,AnQ)::(nat_lit 731,tE)::(nat_lit 733,Aoo)::(nat_lit 734,tE)::(nat_lit 736,ApD)::(nat_lit 737,AnB)::(nat_lit 738,tE)::(nat_lit 740,Aof)::(nat_lit 741,tE)::(nat_lit 743,An7)::(nat_lit 744,ApJ)::(nat_lit 745,tE)::(nat_lit 747,ApO)::(nat_lit 748,tE)::(nat_lit 750,Aor)::(nat_lit 751,AoZ)::[]
def Bb:O:=nO #[]
def Zn:O:=cO #[sT "<module>" 182,sT "<module>" 183,sF 184,iZ 1,iZ 0,iZ 0,iZ 0,iZ 0,.ref 11,.bool false,iZ 181,.ref 12,.none,.none,.none,.none,iZ 185,iZ 1,sF 186]
def AaE:O:=rO 13 3 "__main__" 164
def Ao4(P:Params):O:=dO #[dE P "__name__" 165 (sT "formcycle.errors" 194),dE P "__doc__" 166 .none,dE P "__package__" 167 .none,dE P "__loader__" 168 (.builtin "__main__.__loader__#opaque"),dE P "__spec__" 169 .none,dE P "__annotations__" 170 (.ref 6),dE P "__builtins__" 171 (.ref 4),dE P "__file__" 173 (sF 172),dE P "__cached__" 174 .none,dE P "_wall" 193 (.ref 21),dE P "FormError" 213 (.ref 31),dE P "NoTurn" 238 (.ref 51),dE P "NoShape" 263 (.ref 70),dE P "TooGreat" 290 (.ref 89),dE P "NoRoot" 315 (.ref 108),dE P "NotLevel" 340 (.ref 127),dE P "NotOwn" 365 (.ref 146)] 17
def Anh:O:=nO #[iZ 1,iZ 0,.ref 20,iZ 5,iZ 0,.ref 27,iZ 7,iZ 0,.ref 40,iZ 11,iZ 0,.ref 59,iZ 15,iZ 0,.ref 78,iZ 20,iZ 0,.ref 97,iZ 24,iZ 0,.ref 116,iZ 28,iZ 0,.ref 135]
abbrev fNq(n q:String)(w:Stmt):O:=.mk .none none (Data.func (FuncData.mk (.ofString n) (.ofString q) (fA w) (.stmts (fB w)) (fS w) 0 [] .none .none .none .none none .none .none 0)) #[]
def AbH:O:=fNq "_wall" "_wall" (tp 0)
def Cw:O:=bO #[.builtin "type.__prepare__",.type "type"]
def Adz(P:Params):O:=dO #[dE P "__module__" 203 (sT "formcycle.errors" 194),dE P "__qualname__" 205 (sT "FormError" 204),dE P "__firstlineno__" 207 (.int 5 206),dE P "__static_attributes__" 208 (.ref 29)] 4
def Ada:O:=cO #[sT "FormError" 198,sT "FormError" 199,sF 200,iZ 5,iZ 0,iZ 0,iZ 0,iZ 0,.ref 25,.bool false,iZ 181,.ref 26,.none,.none,.none,.none,iZ 201,iZ 5,sF 202]
def Aeg:O:=rO 27 24 "formcycle.errors" 194
def Anm:O:=.mk (.type "type") none (Data.cls (ClassData.mk (.ofString "FormError") [.type "ValueError"] [.ref 31,.type "ValueError",.type "Exception",.type "BaseException",.type "object"] 30 (.ofString "FormError") Bool.true [] [.ref 51,.ref 70,.ref 89,.ref 108,.ref 127,.ref 146] Bool.false none Bool.false)) #[some (.ref 22),none,some (sT "FormError" 196),some (sT "FormError" 204),some (.builtin "ValueError.__new__"),some (.bool true)]
def Ad8:O:=sO 31
def AcY:O:=bO #[.builtin "object.__init_subclass__",.ref 31]
def Acr(P:Params):O:=dO #[dE P "__module__" 221 (sT "formcycle.errors" 194),dE P "__qualname__" 223 (sT "NoTurn" 222),dE P "__firstlineno__" 225 (.int 7 224),dE P "__init__" 233 (.ref 48),dE P "__static_attributes__" 235 (.ref 49)] 5
def Ab1:O:=nO #[iZ 9,iZ 4,.ref 47]
def AbX:O:=cO #[sT "NoTurn" 216,sT "NoTurn" 217,sF 218,iZ 7,iZ 0,iZ 0,iZ 0,iZ 0,.ref 38,.bool false,iZ 181,.ref 39,.none,.none,.none,.none,iZ 219,iZ 7,sF 220]
def Aeh:O:=rO 40 37 "formcycle.errors" 194
def Aej:O:=fNq "__init__" "NoTurn.__init__" (inC (tp 3) 0)
def Aeb:O:=sO 51
def Adp:O:=bO #[.builtin "object.__init_subclass__",.ref 51]
def AcI(P:Params):O:=dO #[dE P "__module__" 246 (sT "formcycle.errors" 194),dE P "__qualname__" 248 (sT "NoShape" 247),dE P "__firstlineno__" 250 (.int 11 249),dE P "__init__" 258 (.ref 67),dE P "__static_attributes__" 260 (.ref 68)] 5
def AdM:O:=nO #[iZ 13,iZ 4,.ref 66]
def AcB:O:=cO #[sT "NoShape" 241,sT "NoShape" 242,sF 243,iZ 11,iZ 0,iZ 0,iZ 0,iZ 0,.ref 57,.bool false,iZ 181,.ref 58,.none,.none,.none,.none,iZ 244,iZ 11,sF 245]
def AbN:O:=rO 59 56 "formcycle.errors" 194
def Adj:O:=fNq "__init__" "NoShape.__init__" (inC (tp 4) 0)
def Adx:O:=sO 70
def Ad5:O:=bO #[.builtin "object.__init_subclass__",.ref 70]
def Ade(P:Params):O:=dO #[dE P "__module__" 271 (sT "formcycle.errors" 194),dE P "__qualname__" 273 (sT "TooGreat" 272),dE P "__firstlineno__" 275 (.int 15 274),dE P "__init__" 284 (.ref 86),dE P "__static_attributes__" 287 (.ref 87)] 5
def Ab0:O:=nO #[iZ 17,iZ 4,.ref 85]
def Aef:O:=cO #[sT "TooGreat" 266,sT "TooGreat" 267,sF 268,iZ 15,iZ 0,iZ 0,iZ 0,iZ 0,.ref 76,.bool false,iZ 181,.ref 77,.none,.none,.none,.none,iZ 269,iZ 15,sF 270]
def Ac1:O:=rO 78 75 "formcycle.errors" 194
def Aei:O:=fNq "__init__" "TooGreat.__init__" (inC (tp 5) 0)
def AdU:O:=sO 89
def AbT:O:=bO #[.builtin "object.__init_subclass__",.ref 89]
def Adn(P:Params):O:=dO #[dE P "__module__" 298 (sT "formcycle.errors" 194),dE P "__qualname__" 300 (sT "NoRoot" 299),dE P "__firstlineno__" 302 (.int 20 301),dE P "__init__" 310 (.ref 105),dE P "__static_attributes__" 312 (.ref 106)] 5
def AdP:O:=nO #[iZ 22,iZ 4,.ref 104]
def AcE:O:=cO #[sT "NoRoot" 293,sT "NoRoot" 294,sF 295,iZ 20,iZ 0,iZ 0,iZ 0,iZ 0,.ref 95,.bool false,iZ 181,.ref 96,.none,.none,.none,.none,iZ 296,iZ 20,sF 297]
def AdI:O:=rO 97 94 "formcycle.errors" 194
def Yq:O:=fNq "__init__" "NoRoot.__init__" (inC (tp 6) 0)
def Xi:O:=sO 108
def YF:O:=bO #[.builtin "object.__init_subclass__",.ref 108]
def Xh(P:Params):O:=dO #[dE P "__module__" 323 (sT "formcycle.errors" 194),dE P "__qualname__" 325 (sT "NotLevel" 324),dE P "__firstlineno__" 327 (.int 24 326),dE P "__init__" 335 (.ref 124),dE P "__static_attributes__" 337 (.ref 125)] 5
def W9:O:=nO #[iZ 26,iZ 4,.ref 123]
def W6:O:=cO #[sT "NotLevel" 318,sT "NotLevel" 319,sF 320,iZ 24,iZ 0,iZ 0,iZ 0,iZ 0,.ref 114,.bool false,iZ 181,.ref 115,.none,.none,.none,.none,iZ 321,iZ 24,sF 322]
def XJ:O:=rO 116 113 "formcycle.errors" 194
def Yt:O:=fNq "__init__" "NotLevel.__init__" (inC (tp 7) 0)
def Yp:O:=sO 127
def Xx:O:=bO #[.builtin "object.__init_subclass__",.ref 127]
def X5(P:Params):O:=dO #[dE P "__module__" 348 (sT "formcycle.errors" 194),dE P "__qualname__" 350 (sT "NotOwn" 349),dE P "__firstlineno__" 352 (.int 28 351),dE P "__init__" 360 (.ref 143),dE P "__static_attributes__" 362 (.ref 144)] 5
def YL:O:=nO #[iZ 30,iZ 4,.ref 142]
def Xb:O:=cO #[sT "NotOwn" 343,sT "NotOwn" 344,sF 345,iZ 28,iZ 0,iZ 0,iZ 0,iZ 0,.ref 133,.bool false,iZ 181,.ref 134,.none,.none,.none,.none,iZ 346,iZ 28,sF 347]
def Yv:O:=rO 135 132 "formcycle.errors" 194
def Xn:O:=fNq "__init__" "NotOwn.__init__" (inC (tp 8) 0)
def Xe:O:=sO 146
def Xo:O:=bO #[.builtin "object.__init_subclass__",.ref 146]
def AlN(P:Params):O:=dO #[dE P "__name__" 165 (sT "formcycle.turns" 549),dE P "__doc__" 166 .none,dE P "__package__" 167 .none,dE P "__loader__" 168 (.builtin "__main__.__loader__#opaque"),dE P "__spec__" 169 .none,dE P "__annotations__" 170 (.ref 6),dE P "__builtins__" 171 (.ref 4),dE P "__file__" 173 (sF 172),dE P "__cached__" 174 .none,dE P "_wall" 193 (.ref 21),dE P "FormError" 213 (.ref 31),dE P "NoTurn" 238 (.ref 51),dE P "NoShape" 263 (.ref 70),dE P "TooGreat" 290 (.ref 89),dE P "NoRoot" 315 (.ref 108),dE P "NotLevel" 340 (.ref 127),dE P "NotOwn" 365 (.ref 146),dE P "Apart" 381 (.ref 158),dE P "NotPlain" 406 (.ref 177),dE P "NoMeasure" 431 (.ref 196),dE P "Nought" 447 (.ref 208),dE P "NoAnswer" 472 (.ref 227),dE P "divisor" 483 (.ref 236),dE P "shares" 494 (.ref 243),dE P "row_less" 503 (.ref 250),dE P "root" 512 (.ref 257),dE P "is_square" 520 (.ref 264),dE P "powered" 532 (.ref 271),dE P "check_at_most" 540 (.ref 278),dE P "check_within" 548 (.ref 285),dE P "SAME" 555 (.ref 286),dE P "is_turn" 562 (.ref 293),dE P "check_turn" 569 (.ref 300)] 33
def Ah5:O:=nO #[iZ 1,iZ 0,.ref 20,iZ 5,iZ 0,.ref 27,iZ 7,iZ 0,.ref 40,iZ 11,iZ 0,.ref 59,iZ 15,iZ 0,.ref 78,iZ 20,iZ 0,.ref 97,iZ 24,iZ 0,.ref 116,iZ 28,iZ 0,.ref 135,iZ 32,iZ 0,.ref 154,iZ 34,iZ 0,.ref 166,iZ 38,iZ 0,.ref 185,iZ 42,iZ 0,.ref 204,iZ 44,iZ 0,.ref 216,iZ 49,iZ 0,.ref 235,iZ 55,iZ 0,.ref 242,iZ 65,iZ 0,.ref 249,iZ 67,iZ 0,.ref 256,iZ 78,iZ 0,.ref 263,iZ 83,iZ 0,.ref 270,iZ 92,iZ 0,.ref 277,iZ 95,iZ 0,.ref 284,iZ 100,iZ 0,.ref 292,iZ 102,iZ 0,.ref 299]
def Aaq(P:Params):O:=dO #[dE P "__module__" 373 (sT "formcycle.errors" 194),dE P "__qualname__" 375 (sT "Apart" 374),dE P "__firstlineno__" 377 (.int 32 376),dE P "__static_attributes__" 378 (.ref 156)] 4
def Aam:O:=cO #[sT "Apart" 368,sT "Apart" 369,sF 370,iZ 32,iZ 0,iZ 0,iZ 0,iZ 0,.ref 152,.bool false,iZ 181,.ref 153,.none,.none,.none,.none,iZ 371,iZ 32,sF 372]
def Y8:O:=rO 154 151 "formcycle.errors" 194
def Aaj:O:=sO 158
def ZX:O:=bO #[.builtin "object.__init_subclass__",.ref 158]
def Zk(P:Params):O:=dO #[dE P "__module__" 389 (sT "formcycle.errors" 194),dE P "__qualname__" 391 (sT "NotPlain" 390),dE P "__firstlineno__" 393 (.int 34 392),dE P "__init__" 401 (.ref 174),dE P "__static_attributes__" 403 (.ref 175)] 5
def ZW:O:=nO #[iZ 36,iZ 4,.ref 173]
def Zb:O:=cO #[sT "NotPlain" 384,sT "NotPlain" 385,sF 386,iZ 34,iZ 0,iZ 0,iZ 0,iZ 0,.ref 164,.bool false,iZ 181,.ref 165,.none,.none,.none,.none,iZ 387,iZ 34,sF 388]
def Zz:O:=rO 166 163 "formcycle.errors" 194
def ZS:O:=fNq "__init__" "NotPlain.__init__" (inC (tp 10) 0)
def Y5:O:=sO 177
def ZM:O:=bO #[.builtin "object.__init_subclass__",.ref 177]
def ZG(P:Params):O:=dO #[dE P "__module__" 414 (sT "formcycle.errors" 194),dE P "__qualname__" 416 (sT "NoMeasure" 415),dE P "__firstlineno__" 418 (.int 38 417),dE P "__init__" 426 (.ref 193),dE P "__static_attributes__" 428 (.ref 194)] 5
def Zt:O:=nO #[iZ 40,iZ 4,.ref 192]
def Aab:O:=cO #[sT "NoMeasure" 409,sT "NoMeasure" 410,sF 411,iZ 38,iZ 0,iZ 0,iZ 0,iZ 0,.ref 183,.bool false,iZ 181,.ref 184,.none,.none,.none,.none,iZ 412,iZ 38,sF 413]
def ZP:O:=rO 185 182 "formcycle.errors" 194
def ZC:O:=fNq "__init__" "NoMeasure.__init__" (inC (tp 11) 0)
def Aan:O:=sO 196
def Aay:O:=bO #[.builtin "object.__init_subclass__",.ref 196]
def YW(P:Params):O:=dO #[dE P "__module__" 439 (sT "formcycle.errors" 194),dE P "__qualname__" 441 (sT "Nought" 440),dE P "__firstlineno__" 443 (.int 42 442),dE P "__static_attributes__" 444 (.ref 206)] 4
def Aaw:O:=cO #[sT "Nought" 434,sT "Nought" 435,sF 436,iZ 42,iZ 0,iZ 0,iZ 0,iZ 0,.ref 202,.bool false,iZ 181,.ref 203,.none,.none,.none,.none,iZ 437,iZ 42,sF 438]
def Aae:O:=rO 204 201 "formcycle.errors" 194
def ZL:O:=sO 208
def Zv:O:=bO #[.builtin "object.__init_subclass__",.ref 208]
def AaB(P:Params):O:=dO #[dE P "__module__" 455 (sT "formcycle.errors" 194),dE P "__qualname__" 457 (sT "NoAnswer" 456),dE P "__firstlineno__" 459 (.int 44 458),dE P "__init__" 467 (.ref 224),dE P "__static_attributes__" 469 (.ref 225)] 5
def Aaz:O:=nO #[iZ 46,iZ 4,.ref 223]
def Aas:O:=cO #[sT "NoAnswer" 450,sT "NoAnswer" 451,sF 452,iZ 44,iZ 0,iZ 0,iZ 0,iZ 0,.ref 214,.bool false,iZ 181,.ref 215,.none,.none,.none,.none,iZ 453,iZ 44,sF 454]
def YZ:O:=rO 216 213 "formcycle.errors" 194
def Aau:O:=fNq "__init__" "NoAnswer.__init__" (inC (tp 13) 0)
def ZJ:O:=sO 227
def AaJ:O:=bO #[.builtin "object.__init_subclass__",.ref 227]
def Zw:O:=fNq "divisor" "divisor" (tp 15)
def AaC:O:=fNq "shares" "shares" (tp 16)
def Zj:O:=fNq "row_less" "row_less" (tp 17)
def Zy:O:=fNq "root" "root" (tp 18)
def Aaa:O:=fNq "is_square" "is_square" (tp 19)
def YX:O:=fNq "powered" "powered" (tp 20)
def ZR:O:=fNq "check_at_most" "check_at_most" (tp 21)
def Y6:O:=fNq "check_within" "check_within" (tp 22)
def Z2:O:=fNq "is_turn" "is_turn" (tp 25)
def AaI:O:=fNq "check_turn" "check_turn" (tp 26)
def Ali(P:Params):O:=dO #[dE P "__name__" 165 (sT "formcycle.shapes" 763),dE P "__doc__" 166 .none,dE P "__package__" 167 .none,dE P "__loader__" 168 (.builtin "__main__.__loader__#opaque"),dE P "__spec__" 169 .none,dE P "__annotations__" 170 (.ref 6),dE P "__builtins__" 171 (.ref 4),dE P "__file__" 173 (sF 172),dE P "__cached__" 174 .none,dE P "_wall" 193 (.ref 21),dE P "FormError" 213 (.ref 31),dE P "NoTurn" 238 (.ref 51),dE P "NoShape" 263 (.ref 70),dE P "TooGreat" 290 (.ref 89),dE P "NoRoot" 315 (.ref 108),dE P "NotLevel" 340 (.ref 127),dE P "NotOwn" 365 (.ref 146),dE P "Apart" 381 (.ref 158),dE P "NotPlain" 406 (.ref 177),dE P "NoMeasure" 431 (.ref 196),dE P "Nought" 447 (.ref 208),dE P "NoAnswer" 472 (.ref 227),dE P "divisor" 483 (.ref 236),dE P "shares" 494 (.ref 243),dE P "row_less" 503 (.ref 250),dE P "root" 512 (.ref 257),dE P "is_square" 520 (.ref 264),dE P "powered" 532 (.ref 271),dE P "check_at_most" 540 (.ref 278),dE P "check_within" 548 (.ref 285),dE P "SAME" 555 (.ref 286),dE P "is_turn" 562 (.ref 293),dE P "check_turn" 569 (.ref 300),dE P "led" 577 (.ref 307),dE P "put_behind" 585 (.ref 314),dE P "back" 592 (.ref 321),dE P "measure" 601 (.ref 328),dE P "value" 611 (.ref 335),dE P "content" 618 (.ref 342),dE P "moved" 628 (.ref 349),dE P "middle" 638 (.ref 356),dE P "opposite" 645 (.ref 363),dE P "shape" 653 (.ref 370),dE P "check_bowl" 662 (.ref 377),dE P "stands_least" 672 (.ref 384),dE P "settled" 681 (.ref 391),dE P "turn_lower" 689 (.ref 398),dE P "MOST_MEASURE" 693 (.int 4000 692),dE P "check_saddle" 700 (.ref 405),dE P "stands_level" 709 (.ref 412),dE P "turn_behind" 720 (.ref 419),dE P "stop_behind" 729 (.ref 426),dE P "eased" 738 (.ref 433),dE P "stops_round" 749 (.ref 440),dE P "round_of" 755 (.ref 445),dE P "lowered" 762 (.ref 452),dE P "Shape" 819 (.ref 490),dE P "Bowl" 843 (.ref 511),dE P "Saddle" 867 (.ref 530)] 59
def AjZ:O:=nO #[iZ 1,iZ 0,.ref 20,iZ 5,iZ 0,.ref 27,iZ 7,iZ 0,.ref 40,iZ 11,iZ 0,.ref 59,iZ 15,iZ 0,.ref 78,iZ 20,iZ 0,.ref 97,iZ 24,iZ 0,.ref 116,iZ 28,iZ 0,.ref 135,iZ 32,iZ 0,.ref 154,iZ 34,iZ 0,.ref 166,iZ 38,iZ 0,.ref 185,iZ 42,iZ 0,.ref 204,iZ 44,iZ 0,.ref 216,iZ 49,iZ 0,.ref 235,iZ 55,iZ 0,.ref 242,iZ 65,iZ 0,.ref 249,iZ 67,iZ 0,.ref 256,iZ 78,iZ 0,.ref 263,iZ 83,iZ 0,.ref 270,iZ 92,iZ 0,.ref 277,iZ 95,iZ 0,.ref 284,iZ 100,iZ 0,.ref 292,iZ 102,iZ 0,.ref 299,iZ 105,iZ 0,.ref 306,iZ 108,iZ 0,.ref 313,iZ 110,iZ 0,.ref 320,iZ 114,iZ 0,.ref 327,iZ 116,iZ 0,.ref 334,iZ 120,iZ 0,.ref 341,iZ 122,iZ 0,.ref 348,iZ 127,iZ 0,.ref 355,iZ 130,iZ 0,.ref 362,iZ 132,iZ 0,.ref 369,iZ 142,iZ 0,.ref 376,iZ 145,iZ 0,.ref 383,iZ 152,iZ 0,.ref 390,iZ 160,iZ 0,.ref 397,iZ 167,iZ 0,.ref 404,iZ 171,iZ 0,.ref 411,iZ 174,iZ 0,.ref 418,iZ 179,iZ 0,.ref 425,iZ 182,iZ 0,.ref 432,iZ 189,iZ 0,.ref 439,iZ 199,iZ 0,.ref 444,iZ 204,iZ 0,.ref 451,iZ 208,iZ 0,.ref 458,iZ 223,iZ 0,.ref 500,iZ 227,iZ 0,.ref 519]
def Agz:O:=fNq "led" "led" (tp 27)
def Agy:O:=fNq "put_behind" "put_behind" (tp 28)
def AeT:O:=fNq "back" "back" (tp 29)
def AeU:O:=fNq "measure" "measure" (tp 31)
def Afv:O:=fNq "value" "value" (tp 32)
def Af5:O:=fNq "content" "content" (tp 33)
def AeZ:O:=fNq "moved" "moved" (tp 34)
def Ae5:O:=fNq "middle" "middle" (tp 35)
def AeM:O:=fNq "opposite" "opposite" (tp 36)
def Af3:O:=fNq "shape" "shape" (tp 37)
def AeE:O:=fNq "check_bowl" "check_bowl" (tp 39)
def AfP:O:=fNq "stands_least" "stands_least" (tp 40)
def AgN:O:=fNq "settled" "settled" (tp 41)
def Afd:O:=fNq "turn_lower" "turn_lower" (tp 42)
def Agm:O:=fNq "check_saddle" "check_saddle" (tp 45)
def Ae0:O:=fNq "stands_level" "stands_level" (tp 46)
def AfB:O:=fNq "turn_behind" "turn_behind" (tp 47)
def Aga:O:=fNq "stop_behind" "stop_behind" (tp 48)
def AfS:O:=fNq "eased" "eased" (tp 49)
def AfF:O:=fNq "stops_round" "stops_round" (tp 50)
def AfK:O:=fNq "round_of" "round_of" (tp 51)
def Agv:O:=fNq "lowered" "lowered" (tp 52)
def Afg(P:Params):O:=dO #[dE P "__module__" 772 (sT "formcycle.shapes" 763),dE P "__qualname__" 774 (sT "Shape" 773),dE P "__firstlineno__" 776 (.int 208 775),dE P "__init__" 785 (.ref 466),dE P "least" 792 (.ref 473),dE P "leaves" 800 (.ref 480),dE P "way_to" 808 (.ref 487),dE P "__static_attributes__" 812 (.ref 488)] 8
def Aeu:O:=nO #[iZ 210,iZ 4,.ref 465,iZ 215,iZ 4,.ref 472,iZ 218,iZ 4,.ref 479,iZ 221,iZ 4,.ref 486]
def AeI:O:=cO #[sT "Shape" 767,sT "Shape" 768,sF 769,iZ 208,iZ 0,iZ 0,iZ 0,iZ 0,.ref 456,.bool false,iZ 181,.ref 457,.none,.none,.none,.none,iZ 770,iZ 208,sF 771]
def Agt:O:=rO 458 455 "formcycle.shapes" 763
def AfX:O:=fNq "__init__" "Shape.__init__" (inC (tp 54) 0)
def AfD:O:=fNq "least" "Shape.least" (inC (tp 54) 1)
def AfR:O:=fNq "leaves" "Shape.leaves" (inC (tp 54) 2)
def Agu:O:=fNq "way_to" "Shape.way_to" (inC (tp 54) 3)
def AfO:O:=sO 490
def AeL:O:=bO #[.builtin "object.__init_subclass__",.ref 490]
def AgK(P:Params):O:=dO #[dE P "__module__" 827 (sT "formcycle.shapes" 763),dE P "__qualname__" 829 (sT "Bowl" 828),dE P "__firstlineno__" 831 (.int 223 830),dE P "__init__" 839 (.ref 508),dE P "__static_attributes__" 840 (.ref 509)] 5
def AeK:O:=nO #[iZ 225,iZ 4,.ref 507]
def Agr:O:=cO #[sT "Bowl" 822,sT "Bowl" 823,sF 824,iZ 223,iZ 0,iZ 0,iZ 0,iZ 0,.ref 498,.bool false,iZ 181,.ref 499,.none,.none,.none,.none,iZ 825,iZ 223,sF 826]
def Agq:O:=rO 500 497 "formcycle.shapes" 763
def Ae3:O:=fNq "__init__" "Bowl.__init__" (inC (tp 55) 0)
def AfV:O:=sO 511
def Agp:O:=bO #[.builtin "object.__init_subclass__",.ref 511]
def Afx(P:Params):O:=dO #[dE P "__module__" 851 (sT "formcycle.shapes" 763),dE P "__qualname__" 853 (sT "Saddle" 852),dE P "__firstlineno__" 855 (.int 227 854),dE P "__init__" 863 (.ref 527),dE P "__static_attributes__" 864 (.ref 528)] 5
def AeR:O:=nO #[iZ 229,iZ 4,.ref 526]
def AgB:O:=cO #[sT "Saddle" 846,sT "Saddle" 847,sF 848,iZ 227,iZ 0,iZ 0,iZ 0,iZ 0,.ref 517,.bool false,iZ 181,.ref 518,.none,.none,.none,.none,iZ 849,iZ 227,sF 850]
def Agf:O:=rO 519 516 "formcycle.shapes" 763
def Afe:O:=fNq "__init__" "Saddle.__init__" (inC (tp 56) 0)
def AfQ:O:=sO 530
def AeQ:O:=bO #[.builtin "object.__init_subclass__",.ref 530]
def tr0(P:Params):BT:=Nd (boot_o_0 P) (Nd (boot_o_1 P) (Nd (boot_o_3 P) (Lf (boot_o_7 P)) (Lf tE)) (Nd (boot_o_5 P) (Lf (boot_o_9 P)) (Lf Zn))) (Nd (boot_o_2 P) (Nd (boot_o_4 P) (Lf (boot_o_8 P)) (Lf Bb)) (Nd (boot_o_6 P) (Lf (boot_o_10 P)) (Lf AaE)))
def St0(w:World)(os:OsState):SharedT:=⟨tr0 w.params,15,Life.mk [] [] [] 0 [] [] Bool.false #[] [] 0 Bool.false Bool.false Bool.false 0 [2000,10,10] Bool.false 0 Bool.true [] [] 0 Bool.false,Array.mk [],Drawn.mk 0 0 0 0,187,os⟩
def ps0:Pos:=⟨0,0,0,0⟩
def tr9(P:Params):BT:=Nd (boot_o_0 P) (Nd (boot_o_1 P) (Nd (Ao4 P) (Nd (boot_o_7 P) (Nd tE (Nd Anm (Nd o63 (Lf AgF) .nil) (Lf tE)) (Nd o47 (Nd Ac1 (Lf AfH) .nil) (Lf o111))) (Nd Cw (Nd Ab1 (Nd Adx (Lf Xb) .nil) (Lf Yq)) (Nd Cw (Lf o87) (Lf Bb)))) (Nd tE (Nd AbH (Nd o35 (Nd o67 (Lf Cw) .nil) (Lf tE)) (Nd o51 (Nd tE (Lf Xe) .nil) (Lf W9))) (Nd Ada (Nd Bb (Nd (Ade P) (Lf Afp) .nil) (Lf (AeO P))) (Nd AcB (Lf AbT) (Lf Agg))))) (Nd (boot_o_5 P) (Nd (boot_o_9 P) (Nd o17 (Nd Ad8 (Nd Adj (Lf Xx) .nil) (Lf AcE)) (Nd o49 (Nd Bb (Lf (Ae8 P)) .nil) (Lf (Xh P)))) (Nd tE (Nd Aeh (Nd o73 (Lf tE) .nil) (Lf Age)) (Nd tE (Lf o89) (Lf tE)))) (Nd Zn (Nd o21 (Nd (Acr P) (Nd (o69 P) (Lf tE) .nil) (Lf AfC)) (Nd Adp (Lf o85) (Lf XJ))) (Nd tE (Nd tE (Nd Ab0 (Lf Xn) .nil) (Lf Xi)) (Nd tE (Lf Cw) (Lf Afq)))))) (Nd (boot_o_2 P) (Nd (boot_o_4 P) (Nd (boot_o_8 P) (Nd Bb (Nd o32 (Nd tE (Lf Yp) .nil) (Lf AdP)) (Nd o48 (Nd tE (Lf Af8) .nil) (Lf Cw))) (Nd (Adz P) (Nd AbX (Nd Ad5 (Lf Yv) .nil) (Lf AfU)) (Nd (AcI P) (Lf (o88 P)) (Lf AgJ)))) (Nd Anh (Nd o20 (Nd Cw (Nd o68 (Lf (X5 P)) .nil) (Lf Bb)) (Nd Aeb (Nd Aei (Lf Xo) .nil) (Lf W6))) (Nd Aeg (Nd o44 (Nd tE (Lf tE) .nil) (Lf Af9)) (Nd AbN (Lf o92) (Lf Afl))))) (Nd (boot_o_6 P) (Nd (boot_o_10 P) (Nd tE (Nd AcY (Nd o66 (Lf AfY) .nil) (Lf AdI)) (Nd (o50 P) (Nd o82 (Lf Afn) .nil) (Lf tE))) (Nd Bb (Nd tE (Nd Cw (Lf Bb) .nil) (Lf Afm)) (Nd AdM (Lf AdU) (Lf Yt)))) (Nd AaE (Nd o22 (Nd tE (Nd o70 (Lf YL) .nil) (Lf tE)) (Nd o54 (Lf o86) (Lf tE))) (Nd (o30 P) (Nd Aej (Nd Aef (Lf Aex) .nil) (Lf YF)) (Nd Bb (Lf (Adn P)) (Lf (Ae9 P)))))))
def St9(w:World)(os:OsState):SharedT:=⟨tr9 w.params,149,Life.mk [] [] [] 0 [] [] Bool.false #[] [] 0 Bool.false Bool.false Bool.false 0 [2000,10,10] Bool.false 0 Bool.true [] [] 0 Bool.false,Array.mk [],Drawn.mk 0 0 0 0,366,os⟩
def ps9:Pos:=⟨28,0,31,24⟩
def ApT(P:Params):BT:=Nd (boot_o_0 P) (Nd (boot_o_1 P) (Nd (AlN P) (Nd (boot_o_7 P) (Nd tE (Nd o31 (Nd o63 (Nd AgF (Lf Zy) .nil) (Lf ZC)) (Nd tE (Nd Aaj (Lf tE) .nil) (Lf Ai0))) (Nd o47 (Nd Ac1 (Nd AfH (Lf Aid) .nil) (Lf (Aja P))) (Nd o111 (Lf AiM) (Lf Ah1)))) (Nd Cw (Nd Ab1 (Nd Adx (Nd Xb (Lf Ajy) .nil) (Lf AjO)) (Nd Yq (Nd Zz (Lf Bb) .nil) (Lf Bb))) (Nd Cw (Nd o87 (Nd (Aaq P) (Lf tE) .nil) (Lf Aaz)) (Nd Bb (Lf tE) (Lf tE))))) (Nd tE (Nd AbH (Nd o35 (Nd o67 (Nd Cw (Lf Bb) .nil) (Lf (Ah9 P))) (Nd tE (Nd (Zk P) (Lf Z2) .nil) (Lf AhI))) (Nd o51 (Nd tE (Nd Xe (Lf tE) .nil) (Lf AjU)) (Nd W9 (Lf ZM) (Lf AjJ)))) (Nd Ada (Nd Bb (Nd (Ade P) (Nd Afp (Lf Ai9) .nil) (Lf Bb)) (Nd (AeO P) (Nd tE (Lf AjW) .nil) (Lf Aj1))) (Nd AcB (Nd AbT (Nd Y8 (Lf Y6) .nil) (Lf Bb)) (Nd Agg (Lf tE) (Lf tE)))))) (Nd (boot_o_5 P) (Nd (boot_o_9 P) (Nd o17 (Nd Ad8 (Nd Adj (Nd Xx (Lf Aif) .nil) (Lf Ajx)) (Nd AcE (Nd Aim (Lf Aiu) .nil) (Lf Ai6))) (Nd o49 (Nd Bb (Nd (Ae8 P) (Lf Bb) .nil) (Lf ZL)) (Nd (Xh P) (Lf Aij) (Lf AaC)))) (Nd tE (Nd Aeh (Nd o73 (Nd tE (Lf tE) .nil) (Lf (YW P))) (Nd Age (Nd Bb (Lf tE) .nil) (Lf tE))) (Nd tE (Nd o89 (Nd Bb (Lf AhU) .nil) (Lf YZ)) (Nd tE (Lf Aab) (Lf AhY))))) (Nd Zn (Nd o21 (Nd (Acr P) (Nd (o69 P) (Nd tE (Lf tE) .nil) (Lf Aan)) (Nd AfC (Nd ZW (Lf Ajn) .nil) (Lf AaJ))) (Nd Adp (Nd o85 (Nd AjR (Lf Aib) .nil) (Lf (AaB P))) (Nd XJ (Lf Cw) (Lf Bb)))) (Nd tE (Nd tE (Nd Ab0 (Nd Xn (Lf YX) .nil) (Lf Aae)) (Nd Xi (Lf AiY) (Lf tE))) (Nd tE (Nd Cw (Nd (AhZ P) (Lf Aiy) .nil) (Lf tE)) (Nd Afq (Lf AjE) (Lf Aj0))))))) (Nd (boot_o_2 P) (Nd (boot_o_4 P) (Nd (boot_o_8 P) (Nd Bb (Nd o32 (Nd tE (Nd Yp (Lf Ajc) .nil) (Lf AjT)) (Nd AdP (Nd ZX (Lf Bb) .nil) (Lf AhW))) (Nd o48 (Nd tE (Nd Af8 (Lf tE) .nil) (Lf Ai8)) (Nd Cw (Lf (AiE P)) (Lf tE)))) (Nd (Adz P) (Nd AbX (Nd Ad5 (Nd Yv (Lf Aiw) .nil) (Lf Cw)) (Nd AfU (Nd tE (Lf AjN) .nil) (Lf AiI))) (Nd (AcI P) (Nd (o88 P) (Nd tE (Lf Bb) .nil) (Lf Aas)) (Nd AgJ (Lf Zt) (Lf Zj))))) (Nd Ah5 (Nd o20 (Nd Cw (Nd o68 (Nd (X5 P) (Lf Ajd) .nil) (Lf Aji)) (Nd Bb (Nd tE (Lf AiF) .nil) (Lf ZJ))) (Nd Aeb (Nd Aei (Nd Xo (Lf ZR) .nil) (Lf Cw)) (Nd W6 (Lf Aje) (Lf tE)))) (Nd Aeg (Nd o44 (Nd tE (Nd tE (Lf tE) .nil) (Lf Aaw)) (Nd Af9 (Nd ZS (Lf o300) .nil) (Lf Ai2))) (Nd AbN (Nd o92 (Nd tE (Lf AiV) .nil) (Lf AjV)) (Nd Afl (Lf Bb) (Lf Bb)))))) (Nd (boot_o_6 P) (Nd (boot_o_10 P) (Nd tE (Nd AcY (Nd o66 (Nd AfY (Lf tE) .nil) (Lf AiC)) (Nd AdI (Nd Cw (Lf tE) .nil) (Lf (AjA P)))) (Nd (o50 P) (Nd o82 (Nd Afn (Lf Aig) .nil) (Lf Zv)) (Nd tE (Lf Y5) (Lf AjG)))) (Nd Bb (Nd tE (Nd Cw (Nd Bb (Lf Bb) .nil) (Lf tE)) (Nd Afm (Nd Ah3 (Lf AaI) .nil) (Lf Zw))) (Nd AdM (Nd AdU (Nd Aam (Lf tE) .nil) (Lf tE)) (Nd Yt (Lf ZP) (Lf Aiz))))) (Nd AaE (Nd o22 (Nd tE (Nd o70 (Nd YL (Lf Aaa) .nil) (Lf Aay)) (Nd tE (Nd Zb (Lf tE) .nil) (Lf tE))) (Nd o54 (Nd o86 (Nd Cw (Lf Aj2) .nil) (Lf tE)) (Nd tE (Lf (ZG P)) (Lf Ajw)))) (Nd (o30 P) (Nd Aej (Nd Aef (Nd Aex (Lf Aju) .nil) (Lf tE)) (Nd YF (Lf AhJ) (Lf Bb))) (Nd Bb (Nd (Adn P) (Nd AjY (Lf AjK) .nil) (Lf Aau)) (Nd (Ae9 P) (Lf tE) (Lf tE)))))))
def Akt(w:World)(os:OsState):SharedT:=⟨ApT w.params,301,Life.mk [] [] [] 0 [] [] Bool.false #[] [] 0 Bool.false Bool.false Bool.false 0 [2000,10,10] Bool.false 0 Bool.true [] [] 0 Bool.false,Array.mk [],Drawn.mk 0 0 0 0,570,os⟩
def Alb:Pos:=⟨102,0,104,26⟩
def Anr(P:Params):BT:=Nd (boot_o_0 P) (Nd (boot_o_1 P) (Nd (Ali P) (Nd (boot_o_7 P) (Nd tE (Nd o31 (Nd o63 (Nd AgF (Nd Zy (Lf Amw) .nil) (Lf Anf)) (Nd ZC (Lf AeT) (Lf Bb))) (Nd tE (Nd Aaj (Lf tE) (Lf Al6)) (Nd Ai0 (Lf Bb) (Lf Aly)))) (Nd o47 (Nd Ac1 (Nd AfH (Nd Aid (Lf Akn) .nil) (Lf tE)) (Nd (Aja P) (Lf Alo) (Lf tE))) (Nd o111 (Nd AiM (Lf Am6) (Lf AfS)) (Nd Ah1 (Lf tE) (Lf AkR))))) (Nd Cw (Nd Ab1 (Nd Adx (Nd Xb (Nd Ajy (Lf AgB) .nil) (Lf AmO)) (Nd AjO (Lf AlJ) (Lf (Afg P)))) (Nd Yq (Nd Zz (Lf Bb) (Lf tE)) (Nd Bb (Lf AkQ) (Lf AmG)))) (Nd Cw (Nd o87 (Nd (Aaq P) (Lf tE) (Lf Bb)) (Nd Aaz (Lf tE) (Lf AfD))) (Nd Bb (Nd tE (Lf tE) (Lf Amh)) (Nd tE (Lf AeE) (Lf Bb)))))) (Nd tE (Nd AbH (Nd o35 (Nd o67 (Nd Cw (Nd Bb (Lf Cw) .nil) (Lf Alq)) (Nd (Ah9 P) (Lf Bb) (Lf AkE))) (Nd tE (Nd (Zk P) (Lf Z2) (Lf AmW)) (Nd AhI (Lf Akl) (Lf AmA)))) (Nd o51 (Nd tE (Nd Xe (Nd tE (Lf AfQ) .nil) (Lf Agm)) (Nd AjU (Lf tE) (Lf tE))) (Nd W9 (Nd ZM (Lf Alj) (Lf Bb)) (Nd AjJ (Lf tE) (Lf AeK))))) (Nd Ada (Nd Bb (Nd (Ade P) (Nd Afp (Nd Ai9 (Lf Amy) .nil) (Lf tE)) (Nd Bb (Lf Anp) (Lf Agt))) (Nd (AeO P) (Nd tE (Lf AjW) (Lf tE)) (Nd Aj1 (Lf AlX) (Lf AlR)))) (Nd AcB (Nd AbT (Nd Y8 (Lf Y6) (Lf AkW)) (Nd Bb (Lf AeZ) (Lf Bb))) (Nd Agg (Nd tE (Lf tE) (Lf AfK)) (Nd tE (Lf Bb) (Lf Ake))))))) (Nd (boot_o_5 P) (Nd (boot_o_9 P) (Nd o17 (Nd Ad8 (Nd Adj (Nd Xx (Nd Aif (Lf Agp) .nil) (Lf tE)) (Nd Ajx (Lf AkJ) (Lf tE))) (Nd AcE (Nd Aim (Lf Aiu) (Lf AfB)) (Nd Ai6 (Lf tE) (Lf tE)))) (Nd o49 (Nd Bb (Nd (Ae8 P) (Nd Bb (Lf (Am2 P)) .nil) (Lf Al8)) (Nd ZL (Lf Bb) (Lf Ami))) (Nd (Xh P) (Nd Aij (Lf Agz) (Lf Aln)) (Nd AaC (Lf AlQ) (Lf (AgK P)))))) (Nd tE (Nd Aeh (Nd o73 (Nd tE (Nd tE (Lf tE) .nil) (Lf Bb)) (Nd (YW P) (Lf tE) (Lf Aeu))) (Nd Age (Nd Bb (Lf tE) (Lf AkO)) (Nd tE (Lf AeM) (Lf (AlZ P))))) (Nd tE (Nd o89 (Nd Bb (Lf AhU) (Lf tE)) (Nd YZ (Lf AlY) (Lf AlP))) (Nd tE (Nd Aab (Lf Amu) (Lf tE)) (Nd AhY (Lf o377) (Lf tE)))))) (Nd Zn (Nd o21 (Nd (Acr P) (Nd (o69 P) (Nd tE (Nd tE (Lf tE) .nil) (Lf AgN)) (Nd Aan (Lf tE) (Lf tE))) (Nd AfC (Nd ZW (Lf Ajn) (Lf Bb)) (Nd AaJ (Lf tE) (Lf Agu)))) (Nd Adp (Nd o85 (Nd AjR (Lf Aib) (Lf Amz)) (Nd (AaB P) (Lf Akr) (Lf AkU))) (Nd XJ (Nd Cw (Lf Bb) (Lf tE)) (Nd Bb (Lf AmY) (Lf Agq))))) (Nd tE (Nd tE (Nd Ab0 (Nd Xn (Nd YX (Lf Afe) .nil) (Lf Ano)) (Nd Aae (Lf Afv) (Lf Bb))) (Nd Xi (Nd AiY (Lf tE) (Lf AmJ)) (Nd tE (Lf Bb) (Lf AfO)))) (Nd tE (Nd Cw (Nd (AhZ P) (Lf Aiy) (Lf tE)) (Nd tE (Lf AmL) (Lf tE))) (Nd Afq (Nd AjE (Lf Ams) (Lf Ak7)) (Nd Aj0 (Lf tE) (Lf tE)))))))) (Nd (boot_o_2 P) (Nd (boot_o_4 P) (Nd (boot_o_8 P) (Nd Bb (Nd o32 (Nd tE (Nd Yp (Nd Ajc (Lf AfV) .nil) (Lf Ak0)) (Nd AjT (Lf Amj) (Lf AlV))) (Nd AdP (Nd ZX (Lf Bb) (Lf tE)) (Nd AhW (Lf AkM) (Lf Aka)))) (Nd o48 (Nd tE (Nd Af8 (Nd tE (Lf tE) .nil) (Lf Bb)) (Nd Ai8 (Lf tE) (Lf AfX))) (Nd Cw (Nd (AiE P) (Lf tE) (Lf Akz)) (Nd tE (Lf Af3) (Lf Cw))))) (Nd (Adz P) (Nd AbX (Nd Ad5 (Nd Yv (Nd Aiw (Lf Agf) .nil) (Lf tE)) (Nd Cw (Lf Alm) (Lf tE))) (Nd AfU (Nd tE (Lf AjN) (Lf Aga)) (Nd AiI (Lf tE) (Lf AkF)))) (Nd (AcI P) (Nd (o88 P) (Nd tE (Lf Bb) (Lf Amo)) (Nd Aas (Lf Bb) (Lf Akj))) (Nd AgJ (Nd Zt (Lf Agy) (Lf AmI)) (Nd Zj (Lf Amv) (Lf Ak3)))))) (Nd AjZ (Nd o20 (Nd Cw (Nd o68 (Nd (X5 P) (Nd Ajd (Lf (Afx P)) .nil) (Lf tE)) (Nd Aji (Lf AlM) (Lf Ama))) (Nd Bb (Nd tE (Lf AiF) (Lf tE)) (Nd ZJ (Lf AlA) (Lf tE)))) (Nd Aeb (Nd Aei (Nd Xo (Nd ZR (Lf AeQ) .nil) (Lf Anl)) (Nd Cw (Lf Af5) (Lf Bb))) (Nd W6 (Nd Aje (Lf tE) (Lf AkV)) (Nd tE (Lf Bb) (Lf Agr))))) (Nd Aeg (Nd o44 (Nd tE (Nd tE (Nd tE (Lf tE) .nil) (Lf Afd)) (Nd Aaw (Lf tE) (Lf tE))) (Nd Af9 (Nd ZS (Lf o300) (Lf Bb)) (Nd Ai2 (Lf tE) (Lf Am0)))) (Nd AbN (Nd o92 (Nd tE (Lf AiV) (Lf AkP)) (Nd AjV (Lf AmK) (Lf Aky))) (Nd Afl (Nd Bb (Lf Bb) (Lf o444)) (Nd Bb (Lf Aj7) (Lf Ala))))))) (Nd (boot_o_6 P) (Nd (boot_o_10 P) (Nd tE (Nd AcY (Nd o66 (Nd AfY (Nd tE (Lf AlW) .nil) (Lf Bb)) (Nd AiC (Lf tE) (Lf Agv))) (Nd AdI (Nd Cw (Lf tE) (Lf Ak6)) (Nd (AjA P) (Lf Ae5) (Lf Bb)))) (Nd (o50 P) (Nd o82 (Nd Afn (Nd Aig (Lf Akb) .nil) (Lf tE)) (Nd Zv (Lf Ane) (Lf Anb))) (Nd tE (Nd Y5 (Lf AlB) (Lf tE)) (Nd AjG (Lf Anj) (Lf tE))))) (Nd Bb (Nd tE (Nd Cw (Nd Bb (Nd Bb (Lf Bb) .nil) (Lf Al9)) (Nd tE (Lf Bb) (Lf AeI))) (Nd Afm (Nd Ah3 (Lf AaI) (Lf Amm)) (Nd Zw (Lf Alw) (Lf AkB)))) (Nd AdM (Nd AdU (Nd Aam (Lf tE) (Lf Ae0)) (Nd tE (Lf tE) (Lf tE))) (Nd Yt (Nd ZP (Lf AmQ) (Lf Bb)) (Nd Aiz (Lf tE) (Lf Ae3)))))) (Nd AaE (Nd o22 (Nd tE (Nd o70 (Nd YL (Nd Aaa (Lf AeR) .nil) (Lf Alh)) (Nd Aay (Lf AeU) (Lf Cw))) (Nd tE (Nd Zb (Lf tE) (Lf Amq)) (Nd tE (Lf Bb) (Lf AlI)))) (Nd o54 (Nd o86 (Nd Cw (Lf Aj2) (Lf tE)) (Nd tE (Lf AmS) (Lf tE))) (Nd tE (Nd (ZG P) (Lf AmV) (Lf AfF)) (Nd Ajw (Lf tE) (Lf tE))))) (Nd (o30 P) (Nd Aej (Nd Aef (Nd Aex (Nd Aju (Lf AkI) .nil) (Lf Alz)) (Nd tE (Lf Akq) (Lf Amb))) (Nd YF (Nd AhJ (Lf Bb) (Lf tE)) (Nd Bb (Lf Ana) (Lf AeL)))) (Nd Bb (Nd (Adn P) (Nd AjY (Lf AjK) (Lf Bb)) (Nd Aau (Lf tE) (Lf AfR))) (Nd (Ae9 P) (Nd tE (Lf tE) (Lf tE)) (Nd tE (Lf AfP) (Lf (AmR P)))))))))
def Am8(w:World)(os:OsState):SharedT:=⟨Anr w.params,533,Life.mk [] [] [] 0 [] [] Bool.false #[] [] 0 Bool.false Bool.false Bool.false 0 [2000,10,10] Bool.false 0 Bool.true [] [] 0 Bool.false,Array.mk [],Drawn.mk 0 0 0 0,868,os⟩
def AkT:Pos:=⟨227,0,230,49⟩
end
noncomputable def vw:Program:={PySem.Challenge.pw_formcycle_k49_no_product with main:={PySem.Challenge.pw_formcycle_k49_no_product.main with body:=[tp 0,tp 2,tp 3,tp 4,tp 5,tp 6,tp 7,tp 8,tp 9,tp 10,tp 11,tp 12,tp 13,tp 15,tp 16,tp 17,tp 18,tp 19,tp 20,tp 21,tp 22,tp 24,tp 25,tp 26,tp 27,tp 28,tp 29,tp 31,tp 32,tp 33,tp 34,tp 35,tp 36,tp 37,tp 39,tp 40,tp 41,tp 42,tp 44,tp 45,tp 46,tp 47,tp 48,tp 49,tp 50,tp 51,tp 52,tp 54,tp 55,tp 56,tp 57,tp 58,tp 60,tp 61,tp 62,tp 63,tp 64,tp 65,tp 66,tp 67,tp 69,tp 70,tp 71,tp 72,tp 73,tp 74,tp 75,tp 76,tp 77,tp 78,tp 79,tp 80,tp 82,tp 83,tp 84,tp 85,tp 86,tp 87,tp 88,tp 89,tp 90,tp 91,tp 92,tp 93]} }
def asK:List Nat:=[2,3,15,17,18,20,21,22,29,30,31,32,35,42,44,45,47,48,49,50,51,54,61,63,64,66,67,68,69,70,73,80,82,83,85,86,87,88,89,92,99,101,102,104,105,106,107,108,111,118,120,121,123,124,125,126,127,130,137,139,140,142,143,144,145,146,149,156,157,158,161,168,170,171,173,174,175,176,177,180,187,189,190,192,193,194,195,196,199,206,207,208,211,218,220,221,223,224,225,226,227,230,232,233,235,236,237,239,240,242,243,244,246,247,249,250,251,253,254,256,257,258,260,261,263,264,265,267,268,270,271,272,274,275,277,278,279,281,282,284,285,286,287,289,290,292,293,294,296,297,299,300,301,303,304,306,307,308,310,311,313,314,315,317,318,320,321,322,324,325,327,328,329,331,332,334,335,336,338,339,341,342,343,345,346,348,349,350,352,353,355,356,357,359,360,362,363,364,366,367,369,370,371,373,374,376,377,378,380,381,383,384,385,387,388,390,391,392,394,395,397,398,399,401,402,404,405,406,408,409,411,412,413,415,416,418,419,420,422,423,425,426,427,429,430,432,433,434,436,437,439,440,441,444,445,446,448,449,451,452,460,462,463,465,466,467,469,470,472,473,474,476,477,479,480,481,483,484,486,487,488,489,490,491,492,495,502,504,505,507,508,509,510,511,514,521,523,524,526,527,528,529,530,533,535,536,538,539,540,542,543,545,546,547,549,550,552,553,554,556,557,559,560,561,563,564,566,567,568,570,571,573,574,575,577,578,580,581,582,584,585,587,588,589,591,592,594,595,596,599,600,601,603,604,606,607,608,610,611,613,614,615,617,618,620,621,622,625,626,627,629,630,632,633,634,637,638,639,642,643,644,647,648,649,651,652,654,655,656,658,659,661,662,663,665,666,668,669,670,672,673,675,676,677,679,680,682,683,684,686,687,689,690,691,693,694,696,697,698,701,702,703,705,706,708,709,710,712,713,715,716,717,719,720,722,723,724,726,727,729,730,731,733,734,736,737,738,740,741,743,744,745,747,748,750,751]
noncomputable def bE:List Stmt:=behindTheImports PySem.Challenge.rw_formcycle_k49_no_product.row.prog
noncomputable def ev:Env:={scope:=PySem.Challenge.rw_formcycle_k49_no_product.row.prog.main.scope,locals:=mainNs,globals:=mainNs,cells:=[],code:=.ref 13,frame:=some 14}
noncomputable def cc:Code:=.body bE ev
def qq:Pos:=.mk 0 0 0 0
def pp:Pos:=⟨0,0,0,0⟩
theorem Akf:∀w os,goT treeTable PySem.Challenge.rw_formcycle_k49_no_product.row.prog w 11 (some (.ref 6)) 12 (S5 w os) (topStub PySem.Challenge.rw_formcycle_k49_no_product.row.prog)=some (St0 w os,⟨denote treeTable cc,cc,pp,[topFrame qq]⟩):=fun w os=>by kernel_rfl
theorem Akh:∀w os,segRunT treeTable PySem.Challenge.rw_formcycle_k49_no_product.row.prog w 11 (some (.ref 6)) 1 1 (St0 w os) (blockOf bE ev cc pp [topFrame qq])=some (.next,St0 w os,cc,ps0):=fun w os=>by kernel_rfl
noncomputable def l9:List Stmt:=List.take 9 bE
noncomputable def r9:List Stmt:=List.drop 9 bE
theorem g_9:∀w os,segRunT treeTable PySem.Challenge.rw_formcycle_k49_no_product.row.prog w 11 (some (.ref 6)) 1 1697 (St0 w os) (piecesOf l9 ev cc ps0 [topFrame qq])=some (.next,St9 w os,cc,ps9):=fun w os=>by kernel_rfl
noncomputable def l27:List Stmt:=List.take 18 r9
noncomputable def r27:List Stmt:=List.drop 18 r9
theorem Ao8:∀w os,segRunT treeTable PySem.Challenge.rw_formcycle_k49_no_product.row.prog w 11 (some (.ref 6)) 1 1502 (St9 w os) (piecesOf l27 ev cc ps9 [topFrame qq])=some (.next,Akt w os,cc,Alb):=fun w os=>by kernel_rfl
noncomputable def l57:List Stmt:=List.take 30 r27
noncomputable def r57:List Stmt:=List.drop 30 r27
theorem ApE:∀w os,segRunT treeTable PySem.Challenge.rw_formcycle_k49_no_product.row.prog w 11 (some (.ref 6)) 1 1521 (Akt w os) (piecesOf l57 ev cc Alb [topFrame qq])=some (.next,Am8 w os,cc,AkT):=fun w os=>by kernel_rfl
noncomputable def TL(w:World)(os:OsState):Option SharedT:=WD treeTable PySem.Challenge.rw_formcycle_k49_no_product.row.prog w 11 (some (.ref 6)) 1110 (Am8 w os) (restOf r57 ev cc AkT [topFrame qq])
theorem hr:∀w os r,TL w os=some r→topRun treeTable PySem.Challenge.rw_formcycle_k49_no_product.row.prog w (Cd w os).heap.objs.size ((Cd w os).heap.nsMap mainGlobals "__annotations__") 5843 (Cd w os) (topStub PySem.Challenge.rw_formcycle_k49_no_product.row.prog)=some r.abs:=fun w os r h=>by
 rw[show(Cd w os).heap.objs.size=11 by kernel_rfl,show(Cd w os).heap.nsMap mainGlobals "__annotations__"=some (.ref 6) by kernel_rfl]
 have k:=Us _ h
 have k:=piece_app (segRun_of (ApE w os)) k
 rw[show l57++r57=r27 from List.take_append_drop _ _]at k
 have k:=piece_app (segRun_of (Ao8 w os)) k
 rw[show l27++r27=r9 from List.take_append_drop _ _]at k
 have k:=piece_app (segRun_of (g_9 w os)) k
 rw[show l9++r9=bE from List.take_append_drop _ _]at k
 have k:=piece_block (segRun_of (Akh w os)) k
 have k:=go_top (Ab2 _ (Akf w os)) k
 rw[boot_abs]at k
 exact k
noncomputable def sA0(s:Shared):=PyProof.Rows.seen ((PyProof.Rows.recsOf vw).map (·.name)) (PyProof.Rows.ownsOf vw) [] {s with gens:=#[]}
noncomputable def sA1(s:Shared):=s.heap.bltView
noncomputable def sA2(s:Shared):=s.heap.keysOk (looseW vw []) ((PyProof.Rows.recsOf vw).map (·.name)) ((PyProof.Rows.litsOf vw).map (·.1)) ((PyProof.Rows.clssOf vw (looseW vw [])).map (·.name))&&s.heap.accountedOkI (importedModules PySem.Challenge.rw_formcycle_k49_no_product.row.prog.main.body)&&s.heap.isNs mainGlobals&&s.heap.isNs builtinsNs&&PyProof.Rows.tablesOk vw s.heap&&(xlAt vw [] s&&recOk (RowW.records PySem.Challenge.rw_formcycle_k49_no_product.row.toRowW) s)&&(if true then s.gens.size==0 else !leftWithCleanup s.gens)
noncomputable def sA3(s:Shared):=PyProof.Rows.tabsOk vw s
noncomputable def sA4(s:Shared):=pinSeenD vw (PyProof.Rows.drecsOf vw) s
noncomputable def sA5(s:Shared):=PyProof.Rows.plainSeenE vw (looseW vw []) s
noncomputable def sA6(s:Shared):=PyProof.Rows.plainSeenD vw [] s
noncomputable def sA7(s:Shared):=wideSeen vw s
noncomputable def sA8(s:Shared):=clsSeenW vw [] s
theorem hA:∀(w:World)(os:OsState),(TL w os).map (fun r=>stays PySem.Challenge.rw_formcycle_k49_no_product.row.prog (Cd w os) r.abs)=some true:=fun w os=>by kernel_rfl
theorem hB0:∀(w:World)(os:OsState),(TL w os).map (fun r=>sA0 r.abs)=some (PyProof.Rows.expectedOf vw):=fun w os=>by kernel_rfl
theorem hB1:∀(w:World)(os:OsState),(TL w os).map (fun r=>(sA1 r.abs,sA3 r.abs,sA4 r.abs,sA6 r.abs,sA8 r.abs))=some (bltViewBooted,true,pinGoodD (PyProof.Rows.drecsOf vw),PyProof.Rows.plainGoodD vw [],clsGoodW vw []):=fun w os=>by kernel_rfl
theorem hB2:∀(w:World)(os:OsState),(TL w os).map (fun r=>sA2 r.abs)=some true:=fun w os=>by kernel_rfl
theorem hB5:∀(w:World)(os:OsState),(TL w os).map (fun r=>sA5 r.abs)=some (PyProof.Rows.plainGoodE vw (looseW vw [])):=fun w os=>by kernel_rfl
theorem hB7:∀(w:World)(os:OsState),(TL w os).map (fun r=>sA7 r.abs)=some (wideGood vw):=fun w os=>by kernel_rfl
theorem nine{α0 α1 α2 α3 α4 α5 α6 α7 α8:Type}{o:Option SharedT}{A0:Shared→α0}{A1:Shared→α1}{A2:Shared→α2}{A3:Shared→α3}{A4:Shared→α4}{A5:Shared→α5}{A6:Shared→α6}{A7:Shared→α7}{A8:Shared→α8}{a0:α0}{a1:α1}{a2:α2}{a3:α3}{a4:α4}{a5:α5}{a6:α6}{a7:α7}{a8:α8}
  (h0:o.map (fun r=>A0 r.abs)=some a0) (h1:o.map (fun r=>(A1 r.abs,A3 r.abs,A4 r.abs,A6 r.abs,A8 r.abs))=some (a1,a3,a4,a6,a8)) (h2:o.map (fun r=>A2 r.abs)=some a2) (h5:o.map (fun r=>A5 r.abs)=some a5) (h7:o.map (fun r=>A7 r.abs)=some a7) :
  o.map (fun r=>(A0 r.abs,A1 r.abs,A2 r.abs,A3 r.abs,A4 r.abs,A5 r.abs,A6 r.abs,A7 r.abs,A8 r.abs))=some (a0,a1,a2,a3,a4,a5,a6,a7,a8):=by
 cases o with
 |none=>cases h0
 | some r =>
  simp only[Option.map_some,Option.some.injEq,Prod.mk.injEq]at h0 h1 h2 h5 h7 ⊢
  exact⟨h0,h1.1,h2,h1.2.1,h1.2.2.1,h5,h1.2.2.2.1,h7,h1.2.2.2.2⟩
theorem hB:∀(w:World)(os:OsState),(TL w os).map (fun r=>openSeen vw [] (importedModules PySem.Challenge.rw_formcycle_k49_no_product.row.prog.main.body) (fun s=>xlAt vw [] s&&recOk (RowW.records PySem.Challenge.rw_formcycle_k49_no_product.row.toRowW) s) true r.abs)=some (openGood vw []):=fun w os=>nine (A0:=sA0) (A1:=sA1) (A2:=sA2) (A3:=sA3) (A4:=sA4) (A5:=sA5) (A6:=sA6) (A7:=sA7) (A8:=sA8) (hB0 w os) (hB1 w os) (hB2 w os) (hB5 w os) (hB7 w os)
theorem hC:∀(w:World)(os:OsState),(TL w os).map (fun r=>Hook.obs (kHook My.KK My.asK (fun _=>by kernel_rfl)) r.abs)=some (Hook.val (kHook My.KK My.asK (fun _=>by kernel_rfl)) w):=fun w os=>by kernel_rfl
theorem hl:LeftO PySem.Challenge.rw_formcycle_k49_no_product.row.prog vw [] (fun s=>xlAt vw [] s&&recOk (RowW.records PySem.Challenge.rw_formcycle_k49_no_product.row.toRowW) s) (Hook.obs (kHook My.KK My.asK (fun _=>by kernel_rfl))) (Hook.val (kHook My.KK My.asK (fun _=>by kernel_rfl))) 5843:=fun w=>AbZ (TL:=TL w) (by kernel_rfl) (by decide) (fun _=>by kernel_rfl) (hr w) (hA w) (hB w) (hC w) (fun os=>by kernel_rfl)
end My
namespace L2
open PySem Spec PyProof.Rows
abbrev Key:=Sum Int Str
def Aha:Key→Value→Bool
 |.inl k,v=>Value.isInt k v
 |.inr x,v=>Value.isStrOf x v
def AnT(w:World):Key→Int
 |.inl k=>hashInt k
 |.inr x=>hashStr w x
theorem Dm:∀{k:Key} {v:Value},Aha k v=true→(∃i t,k=Sum.inl i∧v=Value.int i t)∨(∃x t,k=Sum.inr x∧v=Value.str x t)
 | .inl i,v,h=>by
  obtain⟨t,e⟩:=Value.isInt_shape (k:=i) (v:=v) h
  exact .inl ⟨i,t,rfl,e⟩
 | .inr x,v,h=>by
  obtain⟨t,e⟩:=Value.isStrOf_shape (x:=x) (v:=v) h
  exact .inr ⟨x,t,rfl,e⟩
theorem Ajr(a b:Int):decide ((Sum.inl a:Key)=Sum.inl b)=(a==b):=by
 by_cases e:a=b
 ·subst e;simp
 ·have h:¬(Sum.inl a:Key)=Sum.inl b:=fun q=>e (Sum.inl.inj q)
  rw[decide_eq_false h]
  exact(beq_eq_false_iff_ne.mpr e).symm
theorem Ajl(a b:Str):decide ((Sum.inr a:Key)=Sum.inr b)=decide (a=b):=by
 by_cases e:a=b
 ·subst e;simp
 ·have h:¬(Sum.inr a:Key)=Sum.inr b:=fun q=>e (Sum.inr.inj q)
  rw[decide_eq_false h,decide_eq_false e]
theorem AiL(a:Int)(b:Str):decide ((Sum.inl a:Key)=Sum.inr b)=false:=decide_eq_false (fun q=>nomatch q)
theorem AjC(a:Str)(b:Int):decide ((Sum.inr a:Key)=Sum.inl b)=false:=decide_eq_false (fun q=>nomatch q)
def T7(prog:Program)(w:World):PySem.KeyKind prog w Key where
 is:=Aha
 hash:=AnT w
 inj:=fun v a b ha hb=>by
  rcases Dm ha with⟨i,t,rfl,rfl⟩|⟨x,t,rfl,rfl⟩
  ·rcases Dm hb with⟨j,u,rfl,e⟩|⟨y,u,rfl,e⟩
   ·injection e with e1 _;rw[e1]
   ·exact nomatch e
  ·rcases Dm hb with⟨j,u,rfl,e⟩|⟨y,u,rfl,e⟩
   ·exact nomatch e
   ·injection e with e1 _;rw[e1]
 byValue:=fun k v h=>by
  rcases Dm h with⟨i,t,rfl,rfl⟩|⟨x,t,rfl,rfl⟩<;>rfl
 pyHash:=fun hv h=>by
  rcases Dm hv with⟨i,t,rfl,rfl⟩|⟨x,t,rfl,rfl⟩
  ·exact wpAny_pyHash_int h
  ·exact wpAny_pyHash_str h
 eqBool:=fun hu hv h=>by
  rcases Dm hu with⟨i,t,rfl,rfl⟩|⟨x,t,rfl,rfl⟩
  ·rcases Dm hv with⟨j,u,rfl,rfl⟩|⟨y,u,rfl,rfl⟩
   ·rw[Ajr]at h;exact wpAny_eqBool_int h
   ·rw[AiL]at h;exact SeqAt.EqAt.int_str i t y u _ _ _ _ h
  ·rcases Dm hv with⟨j,u,rfl,rfl⟩|⟨y,u,rfl,rfl⟩
   ·rw[AjC]at h;exact SeqAt.EqAt.str_int x t j u _ _ _ _ h
   ·rw[Ajl]at h;exact wpAny_eqBool_str h
 «strs» := fun k x t v h=>by
  rcases Dm h with⟨i,u,rfl,e⟩|⟨y,u,rfl,e⟩
  ·exact nomatch e
  ·injection e with e1 _
   subst e1
   cases v<;>rfl
inductive V where
 |non|bl (b:Bool)|int (i:Int)|str (x:Str)|byt (b:Array UInt8)|flt (b:UInt64)|ref (a:Addr)|ty (n:String)
 deriving DecidableEq
def RelV:V→Value→Prop
 |.non,u=>u=Value.none
 |.bl b,u=>u=Value.bool b
 |.int i,u=>∃t,u=Value.int i t
 |.str x,u=>∃t,u=Value.str x t
 |.byt b,u=>∃t,u=Value.bytes b t
 |.flt b,u=>∃t,u=Value.float b t
 |.ref a,u=>u=Value.ref a
 |.ty n,u=>u=Value.type n
abbrev Vals:List V→List Value→Prop:=Paired RelV
theorem Vals.length{xs:List V}{us:List Value}(r:Vals xs us):xs.length=us.length:=Paired.length r
theorem Vals.get:∀{xs:List V} {us:List Value} {i:Nat} {x:V},Vals xs us→xs[i]? = some x→∃u,us[i]? = some u∧RelV x u
 |_,_,_,_,.nil,e=>by simp at e
 |_,_,0,_,.cons r _,e=>by simp at e;subst e;exact⟨_,rfl,r⟩
 | _,_,i+1,x,.cons _ t,e=>by
  obtain⟨u,h1,h2⟩:=Vals.get (i:=i) (x:=x) t (by simpa using e)
  exact⟨u,by simpa using h1,h2⟩
theorem Vals.append:∀{xs ys:List V} {us ws:List Value},Vals xs us→Vals ys ws→Vals (xs++ys) (us++ws)
 |_,_,_,_,.nil,s=>s
 |_,_,_,_,.cons r t,s=>.cons r (Vals.append t s)
theorem Vals.take:∀{xs:List V} {us:List Value} (n:Nat),Vals xs us→Vals (xs.take n) (us.take n)
 |_,_,0,_=>.nil
 |_,_,_+1,.nil=>.nil
 |_,_,n+1,.cons r t=>.cons r (Vals.take n t)
theorem Vals.drop:∀{xs:List V} {us:List Value} (n:Nat),Vals xs us→Vals (xs.drop n) (us.drop n)
 |_,_,0,r=>r
 |_,_,_+1,.nil=>.nil
 |_,_,n+1,.cons _ t=>Vals.drop n t
def Mv:Option V→Option Value→Prop
 |some v,some u=>RelV v u
 |none,none=>True
 |_,_=>False
def KV{κ:Type}:List (κ×V)→List (κ×Value)→Prop:=Paired fun(p:κ×V)(q:κ×Value)=>p.1=q.1∧RelV p.2 q.2
def kV:Key→V
 |.inl i=>.int i
 |.inr x=>.str x
inductive HO where
  |lst (xs:List V)
  |tup (xs:List V)
  |dK (kvs:List (Key×V))|dT (kvs:List (List Key×V))
  |set (S:Int→Bool) (n:Nat)
  |ins (C dx:Addr) (fs:List (Str×V))
  |own (x:Addr)
  |xd (fs:List (Str×V))
  |met (f x:Addr)
  |rng (lo hi:Int)
  |frz (o:Obj) (u:HO)
  |tbl (ps:Array Value)
  |ext (φ:Heap→Prop)
abbrev Hp:=Addr→Option HO
def upd(H:Hp)(a:Addr)(o:HO):Hp:=fun b=>if b=a then some o else H b
theorem Aw{H:Hp}{a:Addr}{o:HO}:upd H a o a=some o:=by unfold upd;rw[if_pos rfl]
theorem Am{H:Hp}{a b:Addr}{o:HO}(h:b≠a):upd H a o b=H b:=by unfold upd;rw[if_neg h]
theorem Ba{H:Hp}{a b:Addr}{o:HO}(h:H a=some o)(h':H b=none):a≠b:=by
 intro e;subst e;rw[h]at h';cases h'
section
variable(P:Program)(w:World)
def Et(H:Hp)(h:Heap)(a:Addr):HO→Prop
 |.lst xs=>xs.length≤sizeLine∧∃(its:List Value)(n:Nat),Vals xs its∧h.get? a=some {cls:=.type "list",data:=.seq its.toArray n}
 |.tup xs=>xs.length≤sizeLine∧∃its:List Value,Vals xs its∧IsTup h a its.toArray
 |.dK kvs=>kvs.length≤sizeLine∧(a==sysModules)=false∧∃vs,KV kvs vs∧h.DictOf (T7 P w) a vs
 | .dT kvs=>kvs.length≤sizeLine∧(a==sysModules)=false∧∃xs:List (List Key×Addr×Value),
   Paired (fun(p:List Key×V)(q:List Key×Addr×Value)=>p.1=q.1∧H q.2.1=some (.tup (p.1.map kV))∧RelV p.2 q.2.2) kvs xs ∧
   ∃o es ep,h.get? a=some o∧o.ExactDict∧o.data=.dict es ep∧es.toList=xs.map (entryOfKey (tupleKind (T7 P w)))∧(xs.map (·.1)).Nodup
 |.set S n=>h.SetOf (intKind P w) a S n
 | .ins C dx fs=>H dx=some (.own a)∧fs.length≤1000∧dx≠a∧h.get? a=some (W.instObj C dx) ∧
   ∃mA,h.Ns1 dx mA∧(∀f,Mv (fs.lookup f) (mA f))∧PySem.Within mA (fs.map (·.1))
 |.own _=>∃o,h.get? a=some o
 |.xd fs=>∃mA,h.Ns1 a mA∧∀f,Mv (fs.lookup f) (mA f)
 |.rng lo hi=>∃t u v,h.get? a=some {cls:=.type "range",data:=.fields #[.int lo t,.int hi u,.int 1 v]}
 |.frz o u=>h.get? a=some o∧Et H h a u
 |.tbl ps=>h.get? a=some {cls:=.none,data:=.fields ps}
 |.met f x=>h.get? a=some (W.methodObj (.ref f) (.ref x))
 |.ext φ=>φ h∧(∃o,h.get? a=some o)∧∀h1 h2:Heap,φ h1→(∀o,h1.get? a=some o→h2.get? a=some o)→φ h2
def HOk(H:Hp)(h:Heap):Prop:=∀a o,H a=some o→Et P w H h a o
end
section
variable{P:Program}{w:World}{H H':Hp}{h h':Heap}{a:Addr}{o:HO}
theorem Et.lt(x:Et P w H h a o):a<h.objs.size:=by
 cases o with
 |lst xs=>obtain⟨_,_,_,_,e⟩:=x;exact Heap.lt_size e
 |tup xs=>obtain⟨_,_,_,p⟩:=x;exact p.lt
 |dK kvs=>obtain⟨_,_,_,_,o,_,_,e,_⟩:=x;exact Heap.lt_size e
 |dT kvs=>obtain⟨_,_,_,_,o,_,_,e,_⟩:=x;exact Heap.lt_size e
 |set S n=>obtain⟨o,_,_,_,e,_⟩:=x;exact Heap.lt_size e
 |ins C dx fs=>obtain⟨_,_,_,e,_⟩:=x;exact Heap.lt_size e
 |own y=>obtain⟨_,e⟩:=x;exact Heap.lt_size e
 |xd fs=>obtain⟨_,⟨_,_,_,e,_⟩,_⟩:=x;exact Heap.lt_size e
 |rng lo hi=>obtain⟨_,_,_,e⟩:=x;exact Heap.lt_size e
 |frz ob u=>obtain⟨e,_⟩:=x;exact Heap.lt_size e
 |tbl ps=>exact Heap.lt_size (show h.get? a=some _ from x)
 |met f y=>exact Heap.lt_size (show h.get? a=some _ from x)
 |ext φ=>obtain⟨_,⟨_,e⟩,_⟩:=x;exact Heap.lt_size e
theorem Paired.ae4{α β:Type}{F G:α→β→Prop}:∀{l₁:List α} {l₂:List β},Paired F l₁ l₂→(∀a b,F a b→G a b)→Paired G l₁ l₂
 |_,_,.nil,_=>.nil
 |_,_,.cons r t,f=>.cons (f _ _ r) (Paired.ae4 t f)
theorem Et.stay(x:Et P w H h a o)(k:∀b u,(b=a∨H b=some (.own a))→h.get? b=some u→h'.get? b=some u)
  (ho:∀b,H b=some (.own a)→H' b=some (.own a)) (ht:∀b xs,H b=some (.tup xs)→H' b=some (.tup xs)):Et P w H' h' a o:=by
 induction o with
 |lst xs=>obtain⟨z,its,n,r,e⟩:=x;exact⟨z,its,n,r,k _ _ (.inl rfl) e⟩
 |tup xs=>obtain⟨z,its,r,ob,e,c⟩:=x;exact⟨z,its,r,ob,k _ _ (.inl rfl) e,c⟩
 |dK kvs=>obtain⟨z,y,vs,r,ob,es,ep,e,c⟩:=x;exact⟨z,y,vs,r,ob,es,ep,k _ _ (.inl rfl) e,c⟩
 | dT kvs =>
  obtain⟨z,y,xs,r,ob,es,ep,e,c⟩:=x
  exact⟨z,y,xs,Paired.ae4 r fun p q z=>⟨z.1,ht _ _ z.2.1,z.2.2⟩,ob,es,ep,k _ _ (.inl rfl) e,c⟩
 |set S n=>obtain⟨ob,es,ep,t,e,c⟩:=x;exact⟨ob,es,ep,t,k _ _ (.inl rfl) e,c⟩
 | ins C dx fs =>
  obtain⟨d,z,ne,e,mA,⟨od,es,ep,e2,c⟩,r⟩:=x
  exact⟨ho _ d,z,ne,k _ _ (.inl rfl) e,mA,⟨od,es,ep,k _ _ (.inr d) e2,c⟩,r⟩
 |own y=>obtain⟨ob,e⟩:=x;exact⟨ob,k _ _ (.inl rfl) e⟩
 |xd fs=>obtain⟨mA,⟨od,es,ep,e,c⟩,r⟩:=x;exact⟨mA,⟨od,es,ep,k _ _ (.inl rfl) e,c⟩,r⟩
 |rng lo hi=>obtain⟨t,u,v,e⟩:=x;exact⟨t,u,v,k _ _ (.inl rfl) e⟩
 |frz ob u ih=>obtain⟨e,q⟩:=x;exact⟨k _ _ (.inl rfl) e,ih q⟩
 | tbl ps =>
  have e:h.get? a=some {cls:=.none,data:=.fields ps}:=x
  show h'.get? a=some {cls:=.none,data:=.fields ps}
  exact k a _ (.inl rfl) e
 | met f y =>
  have e:h.get? a=some (W.methodObj (.ref f) (.ref y)):=x
  show h'.get? a=some (W.methodObj (.ref f) (.ref y))
  exact k a _ (.inl rfl) e
 |ext φ=>obtain⟨p,⟨o,e⟩,st⟩:=x;exact⟨st _ _ p fun o q=>k _ _ (.inl rfl) q,⟨o,k _ _ (.inl rfl) e⟩,st⟩
theorem HOk.lt(x:HOk P w H h)(e:H a=some o):a<h.objs.size:=(x a o e).lt
theorem HOk.fresh(x:HOk P w H h)(e:h.objs.size≤a):H a=none:=by
 cases q:H a with
 |none=>rfl
 |some u=>exact absurd (Nat.lt_of_lt_of_le (x.lt q) e) (Nat.lt_irrefl _)
theorem HOk.kept(x:HOk P w H h)(k:∀b u,h.get? b=some u→h'.get? b=some u):HOk P w H h':=fun a o e =>
 (x a o e).stay (fun b u _ q=>k b u q) (fun _ q=>q) fun _ _ q=>q
theorem HOk.laid(x:HOk P w H h)(k:∀b u,h.get? b=some u→h'.get? b=some u)(hp:h.objs.size≤a)(new:Et P w (upd H a o) h' a o):HOk P w (upd H a o) h':=fun b u e=>by
 have hn:=x.fresh hp
 by_cases hb:b=a
 ·subst hb;rw[Aw]at e;cases e;exact new
 ·rw[Am hb]at e
  exact(x b u e).stay (fun c v _ q=>k c v q) (fun c q=>by rw[Am (Ba q hn)];exact q) fun c xs q=>by rw[Am (Ba q hn)];exact q
end
def Rd(H:Hp)(a:Addr)(u:HO):Prop:=H a=some u∨∃o,H a=some (.frz o u)
theorem Rd.ok{P:Program}{w:World}{H:Hp}{h:Heap}{a:Addr}{u:HO}(r:Rd H a u)(x:HOk P w H h):Et P w H h a u:=by
 rcases r with r|⟨o,r⟩
 ·exact x a u r
 ·obtain⟨_,q⟩:=x a _ r
  exact q
def Mut:Option HO→Prop
 |some (.lst _)=>True
 |some (.dK _)=>True
 |some (.dT _)=>True
 |some (.set _ _)=>True
 |some (.ins _ _ _)=>True
 |some (.ext _)=>True
 |_=>False
section
variable{P:Program}{w:World}{H:Hp}{h h':Heap}{x e:Addr}{o':HO}
theorem HOk.write(ok:HOk P w H h)(mu:Mut (H x))(he:e=x∨H e=some (.own x))(k:∀b u,b≠e→h.get? b=some u→h'.get? b=some u)(heo:∃u,h'.get? e=some u)
  (new:Et P w (upd H x o') h' x o'):HOk P w (upd H x o') h':=fun b u q=>by
 have ae5:∀c y,H c=some (.own y)→c≠x:=fun c y r z=>by subst z;rw[r]at mu;exact mu
 have afm:∀c xs,H c=some (.tup xs)→c≠x:=fun c xs r z=>by subst z;rw[r]at mu;exact mu
 by_cases hb:b=x
 ·subst hb;rw[Aw]at q;cases q;exact new
 ·rw[Am hb]at q
  by_cases hbe:b=e
  ·have q':H b=some (.own x):=by
    rcases he with z|z
    ·exact absurd (hbe.trans z) hb
    ·rw[hbe];exact z
   rw[q]at q';cases q'
   obtain⟨v,hv⟩:=heo
   exact⟨v,by rw[hbe];exact hv⟩
  ·refine(ok b u q).stay (fun c v hc r=>k c v ?_ r) (fun c r=>by rw[Am (ae5 c b r)];exact r) fun c xs r=>by rw[Am (afm c xs r)];exact r
   rcases hc with rfl|hc
   ·exact hbe
   ·rintro rfl
    rcases he with z|z
    ·exact ae5 c b hc z
    ·rw[hc]at z;cases z;exact hb rfl
end
structure Un(fs ex:List Addr)(H H':Hp)(h h':Heap):Prop where
 keep:∀b o,h.get? b=some o→H b=none→b∉fs→b∉ex→h'.get? b=some o
 slot:∀b o,h.get? b=some o→H b=none→b∈fs→b∉ex→∃sl,h'.get? b=some {o with slots:=sl}
 free:∀b o,h.get? b=some o→H b=none→b∉ex→H' b=none
 there:∀b o,h.get? b=some o→b∉ex→∃o',h'.get? b=some o'
 tups:∀b xs,H b=some (.tup xs)→H' b=some (.tup xs)
 oX:∀b o u,H b=some (.frz o u)→H' b=some (.frz o u)
 pL:∀b ps,H b=some (.tbl ps)→∃more,H' b=some (.tbl (ps++more))
section
variable{fs fs' ex ex':List Addr}{H H1 H2:Hp}{h h1 h2 h':Heap}{a x e:Addr}{o:HO}
theorem Un.any(u:Un fs ex H H1 h h1){b:Addr}{ob:Obj}(q:h.get? b=some ob)(n:H b=none)(hx:b∉ex):∃sl,h1.get? b=some {ob with slots:=sl}:=by
 by_cases hb:b∈fs
 ·exact u.slot b ob q n hb hx
 ·exact⟨ob.slots,u.keep b ob q n hb hx⟩
theorem Un.trans(a:Un fs ex H H1 h h1)(b:Un fs ex H1 H2 h1 h2):Un fs ex H H2 h h2 where
 keep:=fun c ob q n hc hx=>b.keep c ob (a.keep c ob q n hc hx) (a.free c ob q n hx) hc hx
 slot:=fun c ob q n hc hx=>by
  obtain⟨sl,e1⟩:=a.slot c ob q n hc hx
  obtain⟨sl',e2⟩:=b.slot c _ e1 (a.free c ob q n hx) hc hx
  exact⟨sl',e2⟩
 free:=fun c ob q n hx=>by
  obtain⟨o',e1⟩:=a.there c ob q hx
  exact b.free c o' e1 (a.free c ob q n hx) hx
 there:=fun c ob q hx=>by
  obtain⟨o',e1⟩:=a.there c ob q hx
  exact b.there c o' e1 hx
 tups:=fun c xs q=>b.tups c xs (a.tups c xs q)
 oX:=fun c ob xs q=>b.oX c ob xs (a.oX c ob xs q)
 pL:=fun c ps q=>by
  obtain⟨m1,e1⟩:=a.pL c ps q
  obtain⟨m2,e2⟩:=b.pL c _ e1
  exact⟨m1++m2,by rw[e2,Array.append_assoc]⟩
theorem Un.kept(k:∀b u,h.get? b=some u→h'.get? b=some u):Un fs ex H H h h' :=
 ⟨fun b ob q _ _ _=>k b ob q,fun b ob q _ _ _=>⟨ob.slots,k b ob q⟩,fun _ _ _ n _=>n,fun b ob q _=>⟨ob,k b ob q⟩,fun _ _ q=>q,fun _ _ _ q=>q,fun _ ps q=>⟨#[],by rw[q];simp⟩⟩
theorem Un.refl:Un fs ex H H h h:=Un.kept fun _ _ q=>q
theorem Un.laid(k:∀b u,h.get? b=some u→h'.get? b=some u)(hp:h.objs.size≤a)(hn:H a=none):Un fs ex H (upd H a o) h h' where
 keep:=fun b u q _ _ _=>k b u q
 slot:=fun b u q _ _ _=>⟨u.slots,k b u q⟩
 free:=fun b u q n _=>by rw[Am (Nat.ne_of_lt (Nat.lt_of_lt_of_le (Heap.lt_size q) hp))];exact n
 there:=fun b u q _=>⟨u,k b u q⟩
 tups:=fun b xs q=>by rw[Am (Ba q hn)];exact q
 oX:=fun b u xs q=>by rw[Am (Ba q hn)];exact q
 pL:=fun b ps q=>⟨#[],by rw[Am (Ba q hn),q];simp⟩
theorem Un.write(mu:Mut (H x))(he:e=x∨H e=some (.own x))(k:∀b u,b≠e→h.get? b=some u→h'.get? b=some u)(heo:∃u,h'.get? e=some u):Un fs ex H (upd H x o) h h':=by
 have hx:∀b,H b=none→b≠x:=fun b n z=>by subst z;rw[n]at mu;exact mu
 have hb:∀b,H b=none→b≠e:=fun b n z=>by
  subst z
  rcases he with r|r
  ·exact hx b n r
  ·rw[n]at r;cases r
 have hm:∀b u,H b=some u→¬Mut (some u)→b≠x:=fun b u q nm z=>by subst z;rw[q]at mu;exact nm mu
 refine⟨fun b u q n _ _=>k b u (hb b n) q,fun b u q n _ _=>⟨u.slots,k b u (hb b n) q⟩,fun b u q n _=>by rw[Am (hx b n)];exact n,fun b u q _=>?_,
  fun b xs q=>by rw[Am (hm b _ q fun z=>z)];exact q,fun b u xs q=>by rw[Am (hm b _ q fun z=>z)];exact q,fun b ps q=>⟨#[],by rw[Am (hm b _ q fun z=>z),q];simp⟩⟩
 by_cases hbe:b=e
 ·subst hbe;exact heo
 ·exact⟨u,k b u hbe q⟩
end
def trk(h:Heap)(H:Hp):List Addr:=(List.range h.objs.size).filter fun a=>(H a).isSome
def Ua(h:Heap)(H:Hp):Heap:=W.hideAll h (trk h H)
theorem Abl(h:Heap)(H:Hp):(Ua h H).objs.size=h.objs.size:=W.hideAll_size _ _
theorem Acv{h:Heap}{H:Hp}{b:Addr}{o:Obj}(e:h.get? b=some o)(n:H b=none):(Ua h H).get? b=some o :=
 W.hideAll_get _ e fun hm=>by
  have q:(H b).isSome=true:=(List.mem_filter.mp hm).2
  rw[n]at q;simp at q
theorem Afy{h:Heap}{H:Hp}{b:Addr}{o:Obj}(e:(Ua h H).get? b=some o):h.get? b=some o∧H b=none:=by
 have e':h.get? b=some o:=W.of_hideAll (trk h H) e
 refine⟨e',?_⟩
 cases q:H b with
 |none=>rfl
 | some x =>
  have hm:b∈trk h H:=List.mem_filter.mpr ⟨List.mem_range.mpr (Heap.lt_size e'),by simp[q]⟩
  have z:(Ua h H).get? b=none:=W.hideAll_none (trk h H) hm
  rw[z]at e;cases e
def Aey(g h:Heap)(L:Addr):List (Addr×Obj):=(List.range h.objs.size).filterMap fun a=>if a=L∨(g.get? a).isSome=true then none else(h.get? a).map fun o=>(a,o)
def rest(g h:Heap)(L d:Addr):List (Addr×Obj):=(Aey g h L).filter fun p=>decide (p.1≠d)
structure Mod(K:W.Frag)(mg:Str→Option Value)(base:Heap):Prop where
 kin:K.In base
 glob:base.Ns mainGlobals mg
 blt:∃mb,base.Ns builtinsNs mb∧∀x:Str,x≠"__name__"→mb x=bootBuiltins x
 nolimit:base.NoLimit
structure Cx where
 prog:Program
 w:World
 K:W.Frag
 mg:Str→Option Value
 base:Heap
 A:Around
 N:List Str
 s₀:Shared
 H₀:Hp
 env:Env
 outer:List Env
 stack:List Env
 ex:List Addr
 fn:Str→Bool
 calm:Bool
 pn:List (Addr×Obj)
 xe:Value→Shared→Prop
def frs(l:List Env):List Addr:=l.filterMap (·.frame)
abbrev Cx.fs(X:Cx):List Addr:=frs X.outer
def Vis(sc:Scope)(x:Str):Prop:=sc.names.lookup x=some .local∨sc.names.lookup x=some .cell∨sc.names.lookup x=some .free
def Loc(sc:Scope)(x:Str):Prop:=sc.names.lookup x=some .local∨sc.names.lookup x=some .cell
def Look(env:Env)(h:Heap)(m:Str→Option Value)(x:Str)(u:Value):Prop :=
 (env.kindOf x=some .local∧m x=some u)∨((env.kindOf x=some .cell∨env.kindOf x=some .free)∧∃c,env.cells.lookup x=some c∧h.IsCell c (some u))
structure Cx.Ok(X:Cx):Prop where
 mod:Mod X.K X.mg X.base
 kind:X.env.scope.kind=.function
 glob:X.env.globals=mainGlobals
 blt:X.env.builtins=builtinsNs
 above:X.s₀.heap.objs.size≤X.env.locals
 inj:∀x y c,X.env.cells.lookup x=some c→X.env.cells.lookup y=some c→x=y
 has:∀x,(X.env.kindOf x=some .cell∨X.env.kindOf x=some .free)→∃c,X.env.cells.lookup x=some c
 cab:∀x c,X.fn x=true→X.env.cells.lookup x=some c→X.s₀.heap.objs.size≤c
 hd:X.calm=true→X.A.handled=none
 frames:X.A.frames=some X.stack
 stk:X.stack=X.outer∨(X.stack=X.env::X.outer∧X.env.frame=some X.env.locals)
 exf:∀b∈X.ex,b≠X.env.locals∧∀x c,X.env.cells.lookup x=some c→c≠b
 bs:∀b o,X.base.get? b=some o→X.s₀.heap.get? b=some o∧X.H₀ b=none
 bsz:X.base.objs.size≤X.s₀.heap.objs.size
 yO:∀b o,X.base.get? b=some o→b∉X.ex
 wN:∀b∈X.ex,b∉X.fs
 oY:X.s₀.heap.FunFrames X.base X.outer
 frf:∀b∈X.fs,X.H₀ b=none
structure Inv(X:Cx)(pins:List (Addr×Obj))(σ:List (Option V))(H:Hp)(s:Shared):Prop where
 ok:X.Ok
 os:s.os=X.s₀.os
 bare:AllBare s.gens
 base:Un X.fs X.ex X.H₀ H X.s₀.heap s.heap
 loc:∃m,s.heap.Ns X.env.locals m∧∀(i:Nat)(x:Str)(v:V),X.N[i]? = some x→σ[i]? = some (some v)→Vis X.env.scope x→∃u,RelV v u∧Look X.env s.heap m x u
 cell:∀x c,X.env.cells.lookup x=some c→∃v,s.heap.IsCell c v
 free:H X.env.locals=none
 ju:∀x c,X.env.cells.lookup x=some c→H c=none
 pin:∀p∈X.pn++pins,s.heap.get? p.1=some p.2∧H p.1=none∧p.1≠X.env.locals∧p.1∉X.fs∧∀v,p.2.data≠.cell v
 hok:HOk X.prog X.w H s.heap
 len:σ.length=X.N.length
section
variable{X:Cx}{pins:List (Addr×Obj)}{σ:List (Option V)}{H H':Hp}{s:Shared}{h':Heap}
theorem Cx.Ok.afn(ok:X.Ok){b:Addr}{o:Obj}(e:X.base.get? b=some o):b∉X.fs:=fun hb=>by
 have:=(ok.oY.mem hb).1
 rw[e]at this;cases this
theorem Inv.bs(I:Inv X pins σ H s):∀b o,X.base.get? b=some o→s.heap.get? b=some o∧H b=none:=fun b o e =>
 ⟨I.base.keep b o (I.ok.bs b o e).1 (I.ok.bs b o e).2 (I.ok.afn e) (I.ok.yO b o e),I.base.free b o (I.ok.bs b o e).1 (I.ok.bs b o e).2 (I.ok.yO b o e)⟩
theorem Inv.bk(I:Inv X pins σ H s):∀b o,X.base.get? b=some o→s.heap.get? b=some o:=fun b o e=>(I.bs b o e).1
theorem Inv.mod(I:Inv X pins σ H s):Mod X.K X.mg X.base:=I.ok.mod
theorem Inv.kIn(I:Inv X pins σ H s):X.K.In s.heap:=I.ok.mod.kin.keeps I.bk
theorem Inv.lt(I:Inv X pins σ H s):X.env.locals<s.heap.objs.size:=let ⟨_,hn,_⟩:=I.loc;hn.lt
theorem Inv.sz(I:Inv X pins σ H s):X.s₀.heap.objs.size≤s.heap.objs.size:=Nat.le_trans I.ok.above (Nat.le_of_lt I.lt)
theorem Inv.afo(I:Inv X pins σ H s){a:Addr}(h:s.heap.objs.size≤a):a∉X.fs:=fun hb=>by
 obtain⟨_,o,ho,_⟩:=I.ok.oY.mem hb
 exact absurd (Nat.lt_of_lt_of_le (Heap.lt_size ho) (Nat.le_trans I.sz h)) (Nat.lt_irrefl _)
theorem Inv.cne(I:Inv X pins σ H s):∀x c,X.env.cells.lookup x=some c→c≠X.env.locals:=fun x c e z=>by
 obtain⟨v,o,ho,hd⟩:=I.cell x c e
 obtain⟨m,⟨o',es,ep,ho',hd',_⟩,_⟩:=I.loc
 rw[z,ho']at ho;cases ho;rw[hd']at hd;cases hd
theorem Inv.oY(I:Inv X pins σ H s):s.heap.FunFrames X.base X.outer:=by
 have all:∀(l:List Env),(∀b∈frs l,b∈X.fs)→X.s₀.heap.FunFrames X.base l→s.heap.FunFrames X.base l:=by
  intro l
  induction l with
  |nil=>intro _ _;trivial
  | cons env r ih =>
   intro hs hl
   obtain⟨hk,⟨L,o,hf,hn,ho,hd⟩,hr⟩:=hl
   have hL:L∈X.fs:=hs L (by unfold frs;rw[List.filterMap_cons,hf];exact List.mem_cons_self)
   obtain⟨sl,e⟩:=I.base.slot L o ho (I.ok.frf L hL) hL fun z=>I.ok.wN L z hL
   exact⟨hk,⟨L,_,hf,hn,e,hd⟩,ih (fun b hb=>hs b (by unfold frs;rw[List.filterMap_cons,hf];exact List.mem_cons_of_mem _ hb)) hr⟩
 exact all X.outer (fun _ hb=>hb) I.ok.oY
theorem Inv.stack(I:Inv X pins σ H s):s.heap.FunFrames X.base X.stack:=by
 rcases I.ok.stk with e|⟨e,hf⟩
 ·rw[e];exact I.oY
 ·rw[e]
  obtain⟨m,hn,_⟩:=I.loc
  refine .cons (by rw[I.ok.kind];decide) hf hn ?_ I.oY
  exact Heap.get?_none_of_le (Nat.le_trans I.ok.bsz I.ok.above)
theorem Inv.yP(I:Inv X pins σ H s):∀b∈frs X.stack,b∈X.env.locals::X.fs:=fun b hb=>by
 rcases I.ok.stk with e|⟨e,hf⟩
 ·rw[e]at hb;exact List.mem_cons_of_mem _ hb
 ·rw[e]at hb
  unfold frs at hb
  rw[List.filterMap_cons,hf]at hb
  exact hb
theorem Inv.yQ(I:Inv X pins σ H s):∀b∈frs X.stack,H b=none:=fun b hb=>by
 rcases List.mem_cons.mp (I.yP b hb)with e|hb
 ·rw[e];exact I.free
 ·obtain⟨_,o,ho,_⟩:=I.ok.oY.mem hb
  exact I.base.free b o ho (I.ok.frf b hb) fun z=>I.ok.wN b z hb
theorem Inv.step{g':Array GenState}{t':Nat}{d':Drawn}{ch:List Addr}(I:Inv X pins σ H s)
  (hch:∀b∈ch,(b∈X.ex∨X.s₀.heap.objs.size≤b)∧b≠X.env.locals∧(∀x c,X.env.cells.lookup x=some c→c≠b)∧∀p∈X.pn++pins,p.1≠b)
  (keep:∀b o,b≠X.env.locals→b∉X.fs→b∉ch→s.heap.get? b=some o→H b=none→h'.get? b=some o)
  (slot:∀b o,b≠X.env.locals→b∈X.fs→b∉ch→s.heap.get? b=some o→H b=none→∃sl,h'.get? b=some {o with slots:=sl}) (free:∀b o,b∉ch→s.heap.get? b=some o→H b=none→H' b=none)
  (there:∀b o,b∉ch→s.heap.get? b=some o→∃o',h'.get? b=some o')
  (tups:∀b xs,H b=some (.tup xs)→H' b=some (.tup xs)) (oX:∀b o u,H b=some (.frz o u)→H' b=some (.frz o u)) (pL:∀b ps,H b=some (.tbl ps)→∃more,H' b=some (.tbl (ps++more)))
  (ns:∀m,s.heap.Ns X.env.locals m→h'.Ns X.env.locals m) (hok:HOk X.prog X.w H' h') (hg:AllBare g') :
  Inv X pins σ H' {s with heap:=h',gens:=g',drawn:=d',toks:=t'}:=by
 have neL:∀b o,X.s₀.heap.get? b=some o→b≠X.env.locals:=fun b o e=>Nat.ne_of_lt (Nat.lt_of_lt_of_le (Heap.lt_size e) I.ok.above)
 have neC:∀b o,X.s₀.heap.get? b=some o→b∉X.ex→b∉ch:=fun b o e hx hb=>by
  rcases(hch b hb).1 with z|z
  ·exact hx z
  ·exact absurd (Nat.lt_of_lt_of_le (Heap.lt_size e) z) (Nat.lt_irrefl _)
 have cellK:∀x c,X.env.cells.lookup x=some c→∀v,s.heap.IsCell c v→h'.IsCell c v:=fun x c e v ⟨o,ho,hd⟩=>by
  have nch:c∉ch:=fun z=>(hch c z).2.2.1 x c e rfl
  by_cases hc:c∈X.fs
  ·obtain⟨sl,q⟩:=slot c o (I.cne x c e) hc nch ho (I.ju x c e)
   exact⟨_,q,hd⟩
  ·exact⟨o,keep c o (I.cne x c e) hc nch ho (I.ju x c e),hd⟩
 refine⟨I.ok,I.os,hg,⟨fun b o e n hb hx=>?_,fun b o e n hb hx=>?_,fun b o e n hx=>?_,fun b o e hx=>?_,fun b xs e=>tups b xs (I.base.tups b xs e),fun b o xs e=>oX b o xs (I.base.oX b o xs e),fun b ps e=>?_⟩,?_,fun x c e=>?_,?_,fun x c e=>?_,fun p hp=>?_,hok,I.len⟩
 ·exact keep b o (neL b o e) hb (neC b o e hx) (I.base.keep b o e n hb hx) (I.base.free b o e n hx)
 ·obtain⟨sl,e1⟩:=I.base.slot b o e n hb hx
  obtain⟨sl',e2⟩:=slot b _ (neL b o e) hb (neC b o e hx) e1 (I.base.free b o e n hx)
  exact⟨sl',e2⟩
 ·obtain⟨o',e1⟩:=I.base.there b o e hx
  exact free b o' (neC b o e hx) e1 (I.base.free b o e n hx)
 ·obtain⟨o',e1⟩:=I.base.there b o e hx
  exact there b o' (neC b o e hx) e1
 ·obtain⟨m1,e1⟩:=I.base.pL b ps e
  obtain⟨m2,e2⟩:=pL b _ e1
  exact⟨m1++m2,by rw[e2,Array.append_assoc]⟩
 ·obtain⟨m,hn,hl⟩:=I.loc
  refine⟨m,ns m hn,fun i x v e1 e2 e3=>?_⟩
  obtain⟨u,r,l⟩:=hl i x v e1 e2 e3
  refine⟨u,r,?_⟩
  rcases l with l|⟨k,c,e,z⟩
  ·exact .inl l
  ·exact .inr ⟨k,c,e,cellK x c e _ z⟩
 ·obtain⟨v,z⟩:=I.cell x c e
  exact⟨v,cellK x c e v z⟩
 ·obtain⟨m,⟨o,_,_,ho,_⟩,_⟩:=I.loc
  exact free _ o (fun z=>(hch _ z).2.1 rfl) ho I.free
 ·obtain⟨v,o,ho,hd⟩:=I.cell x c e
  exact free c o (fun z=>(hch c z).2.2.1 x c e rfl) ho (I.ju x c e)
 ·obtain⟨e,n,ne,nf,d⟩:=I.pin p hp
  have nch:p.1∉ch:=fun z=>(hch p.1 z).2.2.2 p hp rfl
  exact⟨keep p.1 p.2 ne nf nch e n,free p.1 p.2 nch e n,ne,nf,d⟩
theorem Inv.un{t':Nat}(I:Inv X pins σ H s)(u:Un X.fs [] H H' s.heap h')(hok:HOk X.prog X.w H' h'):Inv X pins σ H' {s with heap:=h',toks:=t'}:=by
 obtain⟨m,⟨o,es,ep,ho,r⟩,_⟩:=id I.loc
 obtain⟨sl,hL⟩:=u.any ho I.free (by simp)
 exact I.step (g':=s.gens) (d':=s.drawn) (ch:=[]) (fun _ z=>nomatch z) (fun b o _ hb _ e n=>u.keep b o e n hb (by simp)) (fun b o _ hb _ e n=>u.slot b o e n hb (by simp)) (fun b o _ e n=>u.free b o e n (by simp)) (fun b o _ e=>u.there b o e (by simp)) u.tups u.oX u.pL (fun m' hm=>by
  obtain⟨o',es',ep',ho',r'⟩:=hm
  rw[ho]at ho';cases ho'
  exact⟨_,es',ep',hL,r'⟩) hok I.bare
theorem Inv.call{g':Array GenState}{t':Nat}{d':Drawn}{ch:List Addr}(I:Inv X pins σ H s)(u:Un (frs X.stack) ch H H' s.heap h')(hok:HOk X.prog X.w H' h')(hg:AllBare g')
  (hch:∀b∈ch,(b∈X.ex∨X.s₀.heap.objs.size≤b)∧b≠X.env.locals∧(∀x c,X.env.cells.lookup x=some c→c≠b)∧∀p∈X.pn++pins,p.1≠b) :
  Inv X pins σ H' {s with heap:=h',gens:=g',drawn:=d',toks:=t'}:=by
 obtain⟨m,⟨o,es,ep,ho,r⟩,_⟩:=id I.loc
 obtain⟨sl,hL⟩:=u.any ho I.free fun z=>(hch _ z).2.1 rfl
 exact I.step (ch:=ch) hch (fun b o hL hb hc e n=>u.keep b o e n (fun z=>(List.mem_cons.mp (I.yP b z)).elim hL hb) hc) (fun b o _ _ hc e n=>u.any e n hc) (fun b o hc e n=>u.free b o e n hc) (fun b o hc e=>u.there b o e hc) u.tups u.oX u.pL (fun m' hm=>by
  obtain⟨o',es',ep',ho',r'⟩:=hm
  rw[ho]at ho';cases ho'
  exact⟨_,es',ep',hL,r'⟩) hok hg
theorem Inv.turned{t':Nat}{it:Addr}(I:Inv X pins σ H s)(k:∀b o,b≠it→s.heap.get? b=some o→h'.get? b=some o)(hn:H it=none)(hL:it≠X.env.locals)
  (h1:it∈X.ex∨X.s₀.heap.objs.size≤it) (h2:∀x c,X.env.cells.lookup x=some c→c≠it) (h3:∀p∈X.pn++pins,p.1≠it):Inv X pins σ H {s with heap:=h',toks:=t'}:=by
 have nit:∀b u,H b=some u→b≠it:=fun b u e z=>by rw[z,hn]at e;cases e
 refine I.step (g':=s.gens) (d':=s.drawn) (ch:=[it]) (fun b hb=>?_) (fun b o _ _ hc e _=>k b o (fun z=>hc (by simp[z])) e) (fun b o _ _ hc e _=>⟨o.slots,k b o (fun z=>hc (by simp[z])) e⟩) (fun _ _ _ _ n=>n)
  (fun b o hc e=>⟨o,k b o (fun z=>hc (by simp[z])) e⟩) (fun _ _ e=>e) (fun _ _ _ e=>e) (fun b ps e=>⟨#[],by rw[e];simp⟩) (fun m hm=>?_) (fun b u e=>?_) I.bare
 ·have e:b=it:=by simpa using hb
  subst e
  exact⟨h1,hL,h2,h3⟩
 ·obtain⟨o,es,ep,ho,r⟩:=hm
  exact⟨o,es,ep,k _ o (Ne.symm hL) ho,r⟩
 ·refine(I.hok b u e).stay (fun c v hc q=>k c v ?_ q) (fun _ q=>q) fun _ _ q=>q
  rcases hc with z|z
  ·rw[z];exact nit b u e
  ·exact nit c _ z
theorem Inv.tok(I:Inv X pins σ H s)(t:Nat):Inv X pins σ H {s with toks:=t}:=I.un (h':=s.heap) (t':=t) Un.refl I.hok
theorem Inv.kept{t':Nat}(I:Inv X pins σ H s)(k:∀b u,s.heap.get? b=some u→h'.get? b=some u):Inv X pins σ H {s with heap:=h',toks:=t'}:=I.un (Un.kept k) (I.hok.kept k)
theorem Inv.laid{a:Addr}{o:HO}{t':Nat}(I:Inv X pins σ H s)(k:∀b u,s.heap.get? b=some u→h'.get? b=some u)(hp:s.heap.objs.size≤a)(new:Et X.prog X.w (upd H a o) h' a o) :
  Inv X pins σ (upd H a o) {s with heap:=h',toks:=t'}:=I.un (Un.laid k hp (I.hok.fresh hp)) (I.hok.laid k hp new)
theorem Inv.write{x e:Addr}{o:HO}{t':Nat}(I:Inv X pins σ H s)(mu:Mut (H x))(he:e=x∨H e=some (.own x))(k:∀b u,b≠e→s.heap.get? b=some u→h'.get? b=some u)(heo:∃u,h'.get? e=some u)
  (new:Et X.prog X.w (upd H x o) h' x o):Inv X pins σ (upd H x o) {s with heap:=h',toks:=t'}:=I.un (Un.write mu he k heo) (I.hok.write mu he k heo new)
theorem Inv.acJ{aaG:List (Addr×Obj)}(I:Inv X pins σ H s)(h:∀p∈aaG,s.heap.get? p.1=some p.2∧H p.1=none∧p.1≠X.env.locals∧p.1∉X.fs∧∀v,p.2.data≠.cell v):Inv X aaG σ H s :=
 ⟨I.ok,I.os,I.bare,I.base,I.loc,I.cell,I.free,I.ju,fun p hp=>(List.mem_append.mp hp).elim (fun z=>I.pin p (List.mem_append_left _ z)) (h p),I.hok,I.len⟩
theorem Qw{N:List Str}(hN:N.Nodup){i j:Nat}{x:Str}(a:N[i]? = some x)(b:N[j]? = some x):i=j:=by
 obtain⟨h1,e1⟩:=List.getElem?_eq_some_iff.mp a
 obtain⟨h2,e2⟩:=List.getElem?_eq_some_iff.mp b
 exact(List.getElem_inj hN).mp (e1.trans e2.symm)
theorem Tf{M:Model}{A:Around}{E:Value→Shared→Prop}{i:Nat}{x:Str}{v:V}{u:Value}{Q:Unit→Shared→Prop}(I:Inv X pins σ H s)(hN:X.N.Nodup)(hi:X.N[i]? = some x)(hx:Loc X.env.scope x)(r:RelV v u)
  (h:∀s',Inv X pins (σ.set i (some v)) H s'→(∃a,Heap.SameBut a s.heap s'.heap∧(a=X.env.locals∨X.env.cells.lookup x=some a))→Q () s') (hf:X.fn x=true∨X.env.scope.names.lookup x=some .local:=by first|exact .inl rfl|exact .inr rfl|assumption):wpAny M A (storeName X.env x u) Q E s:=by
 obtain⟨m,hn,hl⟩:=id I.loc
 have hcls:(X.env.scope.kind == .class||(X.env.scope.kind == .module&&X.env.locals != X.env.globals))=false:=by rw[I.ok.kind];rfl
 have hiσ:i<σ.length:=by rw[I.len];exact(List.getElem?_eq_some_iff.mp hi).1
 have cne:=I.cne
 have tracked:∀{a:Addr} {h':Heap},(∃o,s.heap.get? a=some o∧H a=none)→Heap.SameBut a s.heap h'→HOk X.prog X.w H h':=fun{a h'} ha hs b ob e=>by
  obtain⟨_,_,hfree⟩:=ha
  refine(I.hok b ob e).stay (fun c w' hc q=>(hs.2 c ?_).trans q) (fun _ q=>q) fun _ _ q=>q
  rintro rfl
  rcases hc with rfl|hc
  ·rw[hfree]at e;cases e
  ·rw[hfree]at hc;cases hc
 rcases hx with hk|hk
 ·refine wpAny_storeName_local hk hn (fun h' hn' hs=>?_) hcls
  obtain⟨oL,_,_,hoL,_⟩:=id hn
  refine h _ ⟨I.ok,I.os,I.bare,⟨fun b o e n hb hx=>?_,fun b o e n hb hx=>?_,I.base.free,fun b o e hx=>?_,I.base.tups,I.base.oX,I.base.pL⟩,⟨_,hn',fun j y v' e1 e2 e3=>?_⟩,fun y c e=>?_,I.free,I.ju,fun p hp=>?_,tracked ⟨oL,hoL,I.free⟩ hs,by simpa using I.len⟩ ⟨_,hs,.inl rfl⟩
  ·exact(hs.2 b (Nat.ne_of_lt (Nat.lt_of_lt_of_le (Heap.lt_size e) I.ok.above))).trans (I.base.keep b o e n hb hx)
  ·obtain⟨sl,e1⟩:=I.base.slot b o e n hb hx
   exact⟨sl,(hs.2 b (Nat.ne_of_lt (Nat.lt_of_lt_of_le (Heap.lt_size e) I.ok.above))).trans e1⟩
  ·obtain⟨o',e1⟩:=I.base.there b o e hx
   exact⟨o',(hs.2 b (Nat.ne_of_lt (Nat.lt_of_lt_of_le (Heap.lt_size e) I.ok.above))).trans e1⟩
  ·by_cases hj:j=i
   ·subst hj
    rw[hi]at e1;cases e1
    rw[List.getElem?_set_self hiσ]at e2
    cases e2
    exact⟨u,r,.inl ⟨hk,by simp⟩⟩
   ·rw[List.getElem?_set_ne (Ne.symm hj)]at e2
    obtain⟨u',r',q⟩:=hl j y v' e1 e2 e3
    refine⟨u',r',?_⟩
    rcases q with⟨k,e⟩|⟨k,c,e,z⟩
    ·refine .inl ⟨k,?_⟩
     have:y≠x:=fun e=>hj (Qw hN e1 (e ▸ hi))
     simp[this,e]
    ·exact .inr ⟨k,c,e,z.sameBut hs (cne y c e)⟩
  ·obtain⟨w',z⟩:=I.cell y c e
   exact⟨w',z.sameBut hs (cne y c e)⟩
  ·obtain⟨e,n,ne,nf,d⟩:=I.pin p hp
   exact⟨(hs.2 p.1 ne).trans e,n,ne,nf,d⟩
 ·have hfn:X.fn x=true:=by
   rcases hf with z|z
   ·exact z
   ·rw[z]at hk;cases hk
  obtain⟨c,hc⟩:=I.ok.has x (.inl hk)
  obtain⟨w',z⟩:=I.cell x c hc
  refine wpAny_storeName_cell I.ok.kind hk hc z (fun h' hc' hs=>?_)
  obtain⟨oc,hoc,afp⟩:=id z
  refine h {s with heap:=h'} ⟨I.ok,I.os,I.bare,⟨fun b o e n hb hx=>?_,fun b o e n hb hx=>?_,I.base.free,fun b o e hx=>?_,I.base.tups,I.base.oX,I.base.pL⟩,⟨m,hn.sameBut hs (Ne.symm (cne x c hc)),fun j y v' e1 e2 e3=>?_⟩,fun y c' e=>?_,I.free,I.ju,fun p hp=>?_,tracked ⟨oc,hoc,I.ju x c hc⟩ hs,by simpa using I.len⟩ ⟨c,hs,.inr hc⟩
  ·exact(hs.2 b (Nat.ne_of_lt (Nat.lt_of_lt_of_le (Heap.lt_size e) (I.ok.cab x c hfn hc)))).trans (I.base.keep b o e n hb hx)
  ·obtain⟨sl,e1⟩:=I.base.slot b o e n hb hx
   exact⟨sl,(hs.2 b (Nat.ne_of_lt (Nat.lt_of_lt_of_le (Heap.lt_size e) (I.ok.cab x c hfn hc)))).trans e1⟩
  ·obtain⟨o',e1⟩:=I.base.there b o e hx
   exact⟨o',(hs.2 b (Nat.ne_of_lt (Nat.lt_of_lt_of_le (Heap.lt_size e) (I.ok.cab x c hfn hc)))).trans e1⟩
  ·by_cases hj:j=i
   ·subst hj
    rw[hi]at e1;cases e1
    rw[List.getElem?_set_self hiσ]at e2
    cases e2
    exact⟨u,r,.inr ⟨.inl hk,c,hc,hc'⟩⟩
   ·rw[List.getElem?_set_ne (Ne.symm hj)]at e2
    obtain⟨u',r',q⟩:=hl j y v' e1 e2 e3
    refine⟨u',r',?_⟩
    rcases q with q|⟨k,c',e,z'⟩
    ·exact .inl q
    ·refine .inr ⟨k,c',e,z'.sameBut hs ?_⟩
     rintro rfl
     exact hj (Qw hN e1 (I.ok.inj _ _ _ e hc ▸ hi))
  ·by_cases hcc:c'=c
   ·subst hcc;exact⟨_,hc'⟩
   ·obtain⟨w2,z2⟩:=I.cell y c' e
    exact⟨w2,z2.sameBut hs hcc⟩
  ·obtain⟨e,n,ne,nf,d⟩:=I.pin p hp
   refine⟨(hs.2 p.1 ?_).trans e,n,ne,nf,d⟩
   intro q
   rw[q,hoc]at e
   have q':oc=p.2:=Option.some.inj e
   exact d w' (by rw[←q'];exact afp)
theorem J6{M:Model}{A:Around}{E:Value→Shared→Prop}{i:Nat}{x:Str}{v:V}{u:Value}{Q:Unit→Shared→Prop}(I:Inv X pins σ H s)(hN:X.N.Nodup)(hi:X.N[i]? = some x)(hx:Loc X.env.scope x)(r:RelV v u)
  (h:∀s',Inv X pins (σ.set i (some v)) H s'→Q () s') (hf:X.fn x=true∨X.env.scope.names.lookup x=some .local:=by first|exact .inl rfl|exact .inr rfl|assumption):wpAny M A (storeName X.env x u) Q E s :=
 Tf I hN hi hx r (fun s' I' _=>h s' I') hf
theorem Inv.call'{s':Shared}{ch:List Addr}(I:Inv X pins σ H s)(ho:s'.os=s.os)(u:Un (frs X.stack) ch H H' s.heap s'.heap)(hok:HOk X.prog X.w H' s'.heap)(hg:AllBare s'.gens)
  (hch:∀b∈ch,(b∈X.ex∨X.s₀.heap.objs.size≤b)∧b≠X.env.locals∧(∀x c,X.env.cells.lookup x=some c→c≠b)∧∀p∈X.pn++pins,p.1≠b):Inv X pins σ H' s':=by
 obtain⟨h',g',d',t',o'⟩:=s'
 have e:o'=s.os:=ho
 subst e
 exact I.call (g':=g') (t':=t') (d':=d') u hok hg hch
end
abbrev XK:=Value→Option Addr→Hp→Prop
abbrev St:=List (Option V)
abbrev VK:=V→Hp→Prop
abbrev TE:=St→Hp→VK→Prop
abbrev TT:=St→Hp→(Bool→Hp→Prop)→Prop
abbrev TA:=St→Hp→(List V→Hp→Prop)→Prop
structure Ends where
 nx:St→Hp→Prop
 rt:VK
 bk:St→Hp→Prop:=fun _ _=>False
 ct:St→Hp→Prop:=fun _ _=>False
abbrev TS:=Ends→St→Hp→Prop
def EP(X:Cx)(pins:List (Addr×Obj))(σ:St)(Q:VK)(u:Value)(s':Shared):Prop:=∃v H',Inv X pins σ H' s'∧RelV v u∧Q v H'
def TP(X:Cx)(pins:List (Addr×Obj))(σ:St)(Q:Bool→Hp→Prop)(b:Bool)(s':Shared):Prop:=∃H',Inv X pins σ H' s'∧Q b H'
def AP(X:Cx)(pins:List (Addr×Obj))(σ:St)(Q:List V→Hp→Prop)(us:List Value)(s':Shared):Prop:=∃vs H',Inv X pins σ H' s'∧Vals vs us∧Q vs H'
def SP(X:Cx)(pins:List (Addr×Obj))(D:Ends)(f:Flow)(s':Shared):Prop :=
 match f with
 |.next=>∃σ' H',Inv X pins σ' H' s'∧D.nx σ' H'
 |.brk=>∃σ' H',Inv X pins σ' H' s'∧D.bk σ' H'
 |.cont=>∃σ' H',Inv X pins σ' H' s'∧D.ct σ' H'
 |.ret u=>∃v σ' H',Inv X pins σ' H' s'∧RelV v u∧D.rt v H'
def PE(X:Cx)(e:Expr)(t:TE):Prop :=
 ∀(pins:List (Addr×Obj))(s:Shared)(σ:St)(H:Hp)(Q:VK),Inv X pins σ H s→t σ H Q→wpAny (model X.prog X.w) X.A (eval e X.env) (EP X pins σ Q) X.xe s
def PT(X:Cx)(e:Expr)(t:TT):Prop :=
 ∀(pins:List (Addr×Obj))(s:Shared)(σ:St)(H:Hp)(Q:Bool→Hp→Prop),Inv X pins σ H s→t σ H Q→wpAny (model X.prog X.w) X.A (isTrue e X.env (eval e X.env)) (TP X pins σ Q) X.xe s
def PW(X:Cx)(e:Expr)(t:TT):Prop :=
 ∀(whole:Sem Value)(pins:List (Addr×Obj))(s:Shared)(σ:St)(H:Hp)(Q:Bool→Hp→Prop),Inv X pins σ H s→t σ H Q→wpAny (model X.prog X.w) X.A (isTrue e X.env whole) (TP X pins σ Q) X.xe s
theorem PW.pt{X:Cx}{e:Expr}{t:TT}(h:PW X e t):PT X e t:=h _
def PA(X:Cx)(es:List Expr)(t:TA):Prop :=
 ∀(pos:Pos)(pins:List (Addr×Obj))(s:Shared)(σ:St)(H:Hp)(Q:List V→Hp→Prop),Inv X pins σ H s→t σ H Q→wpAny (model X.prog X.w) X.A (spliced (backTo pos (starEach es X.env))) (AP X pins σ Q) X.xe s
def PS(X:Cx)(st:Stmt)(t:TS):Prop :=
 ∀(pins:List (Addr×Obj))(s:Shared)(σ:St)(H:Hp)(D:Ends),Inv X pins σ H s→t D σ H→wpAny (model X.prog X.w) X.A (exec st X.env) (SP X pins D) X.xe s
def PSs(X:Cx)(st:List Stmt)(t:TS):Prop :=
 ∀(pins:List (Addr×Obj))(s:Shared)(σ:St)(H:Hp)(D:Ends),Inv X pins σ H s→t D σ H→wpAny (model X.prog X.w) X.A (execs st X.env) (SP X pins D) X.xe s
theorem thn{α:Type}{t:Sem α}{Q Q':α→Shared→Prop}{M:Model}{A:Around}{E:Value→Shared→Prop}{s:Shared}(h:wpAny M A t Q E s)(hQ:∀a s,Q a s→Q' a s):wpAny M A t Q' E s:=wpAny_mono h hQ fun _ _ x=>x
section
variable{X:Cx}
theorem bin{a b:Expr}{ta tb:TE}(ha:PE X a ta)(hb:PE X b tb){pins:List (Addr×Obj)}{s:Shared}{σ:St}{H:Hp}{R:V→V→Hp→Prop}(I:Inv X pins σ H s)(h:ta σ H fun x H1=>tb σ H1 fun y H2=>R x y H2)
  {α:Type} {Q:α→Shared→Prop} {f:Value→Value→Sem α}
  (hf:∀v u s2 x y H2,Inv X pins σ H2 s2→RelV x v→RelV y u→R x y H2→wpAny (model X.prog X.w) X.A (f v u) Q X.xe s2) :
  wpAny (model X.prog X.w) X.A (eval a X.env) (fun v s₁=>wpAny (model X.prog X.w) X.A (eval b X.env) (fun u s₂=>wpAny (model X.prog X.w) X.A (f v u) Q X.xe s₂) X.xe s₁) X.xe s:=by
 refine thn (ha pins s σ H _ I h) fun v s1 ⟨x,H1,I1,r1,q1⟩=>?_
 refine thn (hb pins s1 σ H1 _ I1 q1) fun u s2 ⟨y,H2,I2,r2,q2⟩=>?_
 exact hf v u s2 x y H2 I2 r1 r2 q2
def Alf(i:Nat):TE:=fun σ H Q=>∃v,σ[i]? = some (some v)∧Q v H
def tC(v:V):TE:=fun _ H Q=>Q v H
theorem JC{i:Nat}{x:Str}{pos:Pos}(hN:X.N[i]? = some x)(hv:Vis X.env.scope x)(hd:(x==("__debug__":Str))=false:=by decide)(hcd:(x==("__classdict__":Str))=false:=by decide):PE X (.Name x pos) (Alf i):=by
 intro pins s σ H Q I h
 obtain⟨v,e,h⟩:=h
 obtain⟨m,hn,hl⟩:=I.loc
 obtain⟨u,r,l⟩:=hl i x v hN e hv
 have fin:EP X pins σ Q u s:=⟨v,H,I,r,h⟩
 rcases l with⟨hk,hm⟩|⟨hk,c,hc,hcell⟩
 ·exact wpAny_Name (wpAny_loadName_local I.ok.kind hk hn hm fin) hd
 ·rcases hk with hk|hk
  ·exact wpAny_Name (wpAny_loadName_cell I.ok.kind hk hc hcell fin) hd
  ·exact wpAny_Name (wpAny_loadName_free I.ok.kind hk hc hcell fin hcd) hd
theorem AhR{i j pos}:PE X (.Constant (.int i) j pos) (tC (.int i)):=fun _ _ _ H _ I h=>wpAny_Constant_int ⟨.int i,H,I.tok _,⟨_,rfl⟩,h⟩
theorem Als{b j pos}:PE X (.Constant (.bool b) j pos) (tC (.bl b)):=fun _ _ _ H _ I h=>Constant_bool ⟨.bl b,H,I,rfl,h⟩
theorem AiG{j pos}:PE X (.Constant .none j pos) (tC .non):=fun _ _ _ H _ I h=>Constant_none ⟨.non,H,I,rfl,h⟩
theorem Aip{x j pos}:PE X (.Constant (.str x) j pos) (tC (.str x)):=fun _ _ _ H _ I h=>Calls.Constant_str ⟨.str x,H,I.tok _,⟨_,rfl⟩,h⟩
def Gl(X:Cx)(x:Str):Prop:=X.env.kindOf x=some .globalImplicit
theorem Hr{E:Value→Shared→Prop}{pins:List (Addr×Obj)}{s:Shared}{σ:St}{H:Hp}{x:Str}{u:Value}{pos:Pos}{Q:Value→Shared→Prop}(I:Inv X pins σ H s)(hg:Gl X x)(hm:X.mg x=some u)(h:Q u s)
  (hd:(x==("__debug__":Str))=false:=by decide):wpAny (model X.prog X.w) X.A (eval (.Name x pos) X.env) Q E s :=
 Calls.Name_function_global I.ok.kind hg (Calls.loadGlobal_global (by rw[I.ok.glob];exact I.mod.glob.keeps I.bk) hm h) hd
theorem Nx{E:Value→Shared→Prop}{pins:List (Addr×Obj)}{s:Shared}{σ:St}{H:Hp}{x:Str}{u:Value}{pos:Pos}{Q:Value→Shared→Prop}(I:Inv X pins σ H s)(hg:Gl X x)(hm:X.mg x=none)(hv:bootBuiltins x=some u)(h:Q u s)
  (hn:x≠"__name__":=by decide) (hd:(x==("__debug__":Str))=false:=by decide):wpAny (model X.prog X.w) X.A (eval (.Name x pos) X.env) Q E s:=by
 obtain⟨mb,h1,h2⟩:=I.mod.blt
 exact Calls.Name_function_global I.ok.kind hg (Calls.loadGlobal_builtin (by rw[I.ok.glob];exact I.mod.glob.keeps I.bk) hm (by rw[I.ok.blt];exact h1.keeps I.bk) ((h2 x hn).trans hv) h) hd
theorem Zm{x:Str}{v:V}{u:Value}{pos:Pos}(hg:Gl X x)(hm:X.mg x=some u)(r:RelV v u)(hd:(x==("__debug__":Str))=false:=by decide):PE X (.Name x pos) (tC v) :=
 fun _ _ _ H _ I h=>Hr I hg hm ⟨v,H,I,r,h⟩ hd
theorem AgC{x:Str}{v:V}{u:Value}{pos:Pos}(hg:Gl X x)(hm:X.mg x=none)(hv:bootBuiltins x=some u)(r:RelV v u)(hn:x≠"__name__":=by decide)(hd:(x==("__debug__":Str))=false:=by decide):PE X (.Name x pos) (tC v) :=
 fun _ _ _ H _ I h=>Nx I hg hm hv ⟨v,H,I,r,h⟩ hn hd
variable{a b:Expr}{ta tb:TE}{pos:Pos}
def PC(X:Cx)(op:CmpOp)(a b:Expr)(t:TE):Prop :=
 ∀(pins:List (Addr×Obj))(s:Shared)(σ:St)(H:Hp)(Q:VK),Inv X pins σ H s→t σ H Q →
  wpAny (model X.prog X.w) X.A (eval a X.env) (fun v s₁=>wpAny (model X.prog X.w) X.A (eval b X.env) (fun u s₂=>wpAny (model X.prog X.w) X.A (compareOp op v u) (EP X pins σ Q) X.xe s₂) X.xe s₁) X.xe s
def tB(t:TE):TT:=fun σ H Q=>t σ H fun x H1=>∃c,x=.bl c∧Q c H1
theorem AoL{op:CmpOp}{t:TE}(h:PC X op a b t)(h1:behindInMarks op b=false:=by first | exact ae6 _ (by decide) (by decide) | rfl):PT X (.Compare a [op] [b] pos) (tB t):=by
 intro pins s σ H Q I hw
 refine wpAny_isTrue_Compare1 (thn (h pins s σ H _ I hw) fun v s1 h1=>thn h1 fun u s2 h2=>thn h2 fun c s3 ⟨x,H1,I1,r1,q1⟩=>?_) h1
 obtain⟨d,rfl,q⟩:=q1
 cases r1
 exact wpAny_truthy_bool ⟨H1,I1,q⟩
theorem Aii{e:Expr}{t:TE}(h:PE X e t)(he:∀whole,isTrue e X.env whole=(do let v ←whole;standAt e.pos;holding [v] (truthy v)):=by intro _;rfl):PT X e (tB t):=by
 intro pins s σ H Q I hw
 refine isTrue_plain (thn (h pins s σ H _ I hw) fun v s1 ⟨x,H1,I1,r1,q1⟩=>?_) (he _)
 obtain⟨d,rfl,q⟩:=q1
 cases r1
 exact wpAny_truthy_bool ⟨H1,I1,q⟩
variable{tA tB':TT}{rest:List Expr}
def ApA(t u:TT):TT:=fun σ H Q=>t σ H fun c H1=>if c=true then u σ H1 Q else Q false H1
def tOr(t u:TT):TT:=fun σ H Q=>t σ H fun c H1=>if c=true then Q true H1 else u σ H1 Q
def Ans(t:TT):TT:=fun σ H Q=>t σ H fun c H1=>Q (!c) H1
theorem AeH(ha:PT X a tA):PW X (.BoolOp .And [a] pos) tA:=by
 intro wh pins s σ H Q I h
 refine isTrue_and (thn (ha pins s σ H Q I h) fun c s1 e=>?_)
 cases c with
 |true=>exact isTrue_and_nil e
 |false=>exact e
theorem Ain(ha:PT X a tA):PW X (.BoolOp .Or [a] pos) tA:=by
 intro wh pins s σ H Q I h
 refine isTrue_or (thn (ha pins s σ H Q I h) fun c s1 e=>?_)
 cases c with
 |false=>exact isTrue_or_nil e
 |true=>exact e
theorem AhP(ha:PT X a tA)(hb:PW X (.BoolOp .And (b::rest) pos) tB'):PW X (.BoolOp .And (a::b::rest) pos) (ApA tA tB'):=by
 intro wh pins s σ H Q I h
 refine isTrue_and (thn (ha pins s σ H _ I h) fun c s1 ⟨H1,I1,q1⟩=>?_)
 cases c with
 |true=>exact hb wh pins s1 σ H1 Q I1 q1
 |false=>exact⟨H1,I1,q1⟩
theorem AkY(ha:PT X a tA)(hb:PW X (.BoolOp .Or (b::rest) pos) tB'):PW X (.BoolOp .Or (a::b::rest) pos) (tOr tA tB'):=by
 intro wh pins s σ H Q I h
 refine isTrue_or (thn (ha pins s σ H _ I h) fun c s1 ⟨H1,I1,q1⟩=>?_)
 cases c with
 |true=>exact⟨H1,I1,q1⟩
 |false=>exact hb wh pins s1 σ H1 Q I1 q1
theorem AhX(ha:PT X a tA):PT X (.UnaryOp .Not a pos) (Ans tA):=by
 intro pins s σ H Q I h
 exact isTrue_not (ha pins s σ H (fun c H1=>Q (!c) H1) I h)
def Akw(ta tb:TE):TE:=fun σ H Q=>ta σ H fun x H1=>∃c,x=.bl c∧if c=true then tb σ H1 Q else Q (.bl false) H1
def Apv(ta tb:TE):TE:=fun σ H Q=>ta σ H fun x H1=>∃c,x=.bl c∧if c=true then Q (.bl true) H1 else tb σ H1 Q
theorem AjQ{op}{t:TE}(h:PE X a t):PE X (.BoolOp op [a] pos) t:=fun pins s σ H Q I hw=>BoolOp_one (h pins s σ H Q I hw)
theorem Aiv(ha:PE X a ta)(hb:PE X (.BoolOp .And (b::rest) pos) tb):PE X (.BoolOp .And (a::b::rest) pos) (Akw ta tb):=by
 intro pins s σ H Q I h
 refine BoolOp_and (thn (ha pins s σ H _ I h) fun v s1 ⟨x,H1,I1,r1,q1⟩=>?_)
 obtain⟨c,rfl,q1⟩:=q1
 cases r1
 refine wpAny_truthy_bool ?_
 cases c with
 |true=>exact hb pins s1 σ H1 Q I1 q1
 |false=>exact⟨.bl false,H1,I1,rfl,q1⟩
theorem Akx(ha:PE X a ta)(hb:PE X (.BoolOp .Or (b::rest) pos) tb):PE X (.BoolOp .Or (a::b::rest) pos) (Apv ta tb):=by
 intro pins s σ H Q I h
 refine BoolOp_or (thn (ha pins s σ H _ I h) fun v s1 ⟨x,H1,I1,r1,q1⟩=>?_)
 obtain⟨c,rfl,q1⟩:=q1
 cases r1
 refine wpAny_truthy_bool ?_
 cases c with
 |false=>exact hb pins s1 σ H1 Q I1 q1
 |true=>exact⟨.bl true,H1,I1,rfl,q1⟩
end
def SqL(K:W.Frag)(H:Hp)(a:Addr)(xs:List V):Prop :=
 Rd H a (.lst xs) ∨
  ∃(o:Obj)(its:Array Value)(n:Nat),K.lookup a=some o∧o.cls=.type "list"∧o.dict=none∧o.data=.seq its n∧its.size≤sizeLine∧Vals xs its.toList
def SqT(K:W.Frag)(H:Hp)(a:Addr)(xs:List V):Prop :=
 Rd H a (.tup xs) ∨
  ∃(o:Obj)(its:Array Value)(n:Nat),K.lookup a=some o∧o.cls=.type "tuple"∧o.data=.seq its n∧its.size≤sizeLine∧Vals xs its.toList
def Ao7:Value→Option V
 |.none=>some .non
 |.bool b=>some (.bl b)
 |.int i _=>some (.int i)
 |.str x _=>some (.str x)
 |.bytes b _=>some (.byt b)
 |.float b _=>some (.flt b)
 |.ref a=>some (.ref a)
 |.type n=>some (.ty n)
 |_=>none
theorem RelV.abs{x:V}{u:Value}(r:RelV x u):Ao7 u=some x:=by
 cases x with
 |non=>cases r;rfl
 |bl _=>cases r;rfl
 |int _=>obtain⟨t,rfl⟩:=r;rfl
 |str _=>obtain⟨t,rfl⟩:=r;rfl
 |byt _=>obtain⟨t,rfl⟩:=r;rfl
 |flt _=>obtain⟨t,rfl⟩:=r;rfl
 |ref _=>cases r;rfl
 |ty _=>cases r;rfl
theorem RelV.inj{x y:V}{u:Value}(r:RelV x u)(q:RelV y u):x=y:=Option.some.inj (r.abs.symm.trans q.abs)
theorem Vals.inj:∀{xs ys:List V} {us:List Value},Vals xs us→Vals ys us→xs=ys
 |_,_,_,.nil,.nil=>rfl
 |_,_,_,.cons r t,.cons r' t'=>by rw[r.inj r',Vals.inj t t']
section
variable{X:Cx}{pins:List (Addr×Obj)}{σ:St}{H:Hp}{s:Shared}{a:Addr}{xs ys:List V}
theorem SqL.of{K:W.Frag}(h:H a=some (.lst xs)):SqL K H a xs:=.inl (.inl h)
theorem SqT.of{K:W.Frag}(h:H a=some (.tup xs)):SqT K H a xs:=.inl (.inl h)
theorem Inv.list(I:Inv X pins σ H s)(h:SqL X.K H a xs):∃its:List Value,Vals xs its∧PlainL s.heap a its.toArray∧xs.length≤sizeLine:=by
 rcases h with h|⟨o,its,n,hk,hc,hd,hs,hz,r⟩
 ·obtain⟨z,its,n,r,e⟩:=h.ok I.hok
  exact⟨its,r,⟨_,n,e,rfl,rfl,rfl⟩,z⟩
 ·refine⟨its.toList,r,⟨o,n,I.kIn a o hk,hc,hd,by simpa using hs⟩,?_⟩
  have e:=r.length
  simp only[Array.length_toList]at e
  omega
theorem Inv.tuple(I:Inv X pins σ H s)(h:SqT X.K H a xs):∃its:List Value,Vals xs its∧IsTup s.heap a its.toArray∧xs.length≤sizeLine:=by
 rcases h with h|⟨o,its,n,hk,hc,hs,hz,r⟩
 ·obtain⟨z,its,r,p⟩:=h.ok I.hok
  exact⟨its,r,p,z⟩
 ·refine⟨its.toList,r,⟨o,I.kIn a o hk,hc,n,by simpa using hs⟩,?_⟩
  have e:=r.length
  simp only[Array.length_toList]at e
  omega
theorem Inv.adF(I:Inv X pins σ H s)(h:SqL X.K H a xs)(h':SqL X.K H a ys):xs=ys:=by
 obtain⟨its,r,⟨o,n,e,_,_,d⟩,_⟩:=I.list h
 obtain⟨its',r',⟨o',n',e',_,_,d'⟩,_⟩:=I.list h'
 rw[e]at e';cases e'
 rw[d]at d'
 injection d' with d1 _
 have:its=its':=by simpa using congrArg Array.toList d1
 subst this
 exact r.inj r'
theorem Inv.yp(I:Inv X pins σ H s)(h:SqT X.K H a xs)(h':SqT X.K H a ys):xs=ys:=by
 obtain⟨its,r,⟨o,e,_,n,d⟩,_⟩:=I.tuple h
 obtain⟨its',r',⟨o',e',_,n',d'⟩,_⟩:=I.tuple h'
 rw[e]at e';cases e'
 rw[d]at d'
 injection d' with d1 _
 have:its=its':=by simpa using congrArg Array.toList d1
 subst this
 exact r.inj r'
end
abbrev Cx.wish(X:Cx)(E:Value→Shared→Prop):Cx:={X with xe:=E}
abbrev Cx.nox(X:Cx):Cx:=X.wish fun _ _=>False
theorem Cx.Ok.wish{X:Cx}(ok:X.Ok)(E:Value→Shared→Prop):(X.wish E).Ok :=
 ⟨ok.mod,ok.kind,ok.glob,ok.blt,ok.above,ok.inj,ok.has,ok.cab,ok.hd,ok.frames,ok.stk,ok.exf,ok.bs,ok.bsz,ok.yO,ok.wN,ok.oY,ok.frf⟩
theorem Cx.Ok.kj{X:Cx}{E:Value→Shared→Prop}(ok:(X.wish E).Ok):X.Ok :=
 ⟨ok.mod,ok.kind,ok.glob,ok.blt,ok.above,ok.inj,ok.has,ok.cab,ok.hd,ok.frames,ok.stk,ok.exf,ok.bs,ok.bsz,ok.yO,ok.wN,ok.oY,ok.frf⟩
section
variable{X:Cx}{pins:List (Addr×Obj)}{σ:St}{H:Hp}{s:Shared}{E:Value→Shared→Prop}
theorem Inv.wish(I:Inv X pins σ H s)(E:Value→Shared→Prop):Inv (X.wish E) pins σ H s:=⟨I.ok.wish E,I.os,I.bare,I.base,I.loc,I.cell,I.free,I.ju,I.pin,I.hok,I.len⟩
theorem Inv.kj(I:Inv (X.wish E) pins σ H s):Inv X pins σ H s:=⟨I.ok.kj,I.os,I.bare,I.base,I.loc,I.cell,I.free,I.ju,I.pin,I.hok,I.len⟩
theorem SP.kj{D:Ends}{f:Flow}{s':Shared}(h:SP (X.wish E) pins D f s'):SP X pins D f s':=by
 cases f with
 |next=>obtain⟨σ',H',I,q⟩:=h;exact⟨σ',H',I.kj,q⟩
 |brk=>obtain⟨σ',H',I,q⟩:=h;exact⟨σ',H',I.kj,q⟩
 |cont=>obtain⟨σ',H',I,q⟩:=h;exact⟨σ',H',I.kj,q⟩
 |ret u=>obtain⟨v,σ',H',I,r,q⟩:=h;exact⟨v,σ',H',I.kj,r,q⟩
theorem PSs.nox{st:List Stmt}{t:TS}(h:PSs X.nox st t):PSs X st t:=fun pins s σ H D I hw =>
 wpAny_mono (h pins s σ H D (I.wish _) hw) (fun _ _ q=>q.kj) fun _ _ z=>False.elim z
end
section
variable{X:Cx}{st:Stmt}{rest:List Stmt}{t u:TS}{e:Expr}{te:TE}{pos:Pos}
def AmC:TS:=fun D σ H=>D.nx σ H
def AoD(t u:TS):TS:=fun D σ H=>t {D with nx:=u D} σ H
theorem AaF:PSs X [] AmC:=fun _ _ σ H _ I h=>wpAny_execs_nil ⟨σ,H,I,h⟩
theorem J1(h1:PS X st t)(h2:PSs X rest u):PSs X (st::rest) (AoD t u):=by
 intro pins s σ H D I h
 refine wpAny_execs_cons (thn (h1 pins s σ H {D with nx:=u D} I h) fun f s1 q=>?_)
 cases f with
 | next =>
  obtain⟨σ',H',I',q⟩:=q
  exact h2 pins s1 σ' H' D I' q
 |ret v=>exact q
 |brk=>exact q
 |cont=>exact q
theorem Hs(h1:PS X st t):PSs X [st] t:=by
 intro pins s σ H D I h
 refine wpAny_execs_cons (thn (h1 pins s σ H D I h) fun f s1 q=>?_)
 cases f with
 |next=>exact wpAny_execs_nil q
 |ret v=>exact q
 |brk=>exact q
 |cont=>exact q
theorem Inv.quiet{pins:List (Addr×Obj)}{σ:St}{H:Hp}{s:Shared}(I:Inv X pins σ H s):interactive X.env=false:=by simp[interactive,I.ok.kind]
def AmT(te:TE):TS:=fun D σ H=>te σ H fun _ H1=>D.nx σ H1
theorem Mq(he:PE X e te)(hs:swapsWith e none pos.line X.env=pure false:=by rfl):PS X (.Expr e pos) (AmT te):=by
 intro pins s σ H D I h
 exact wpAny_Expr_any (thn (he pins s σ H _ I h) fun v s1 ⟨x,H1,I1,r1,q1⟩=>⟨σ,H1,I1,q1⟩) I.quiet hs
def An6(te:TE):TS:=fun D σ H=>te σ H D.rt
theorem Acg(he:PE X e te):PS X (.Return (some e) pos) (An6 te):=by
 intro pins s σ H D I h
 exact wpAny_Return_some (thn (he pins s σ H _ I h) fun v s1 ⟨x,H1,I1,r1,q1⟩=>⟨x,σ,H1,I1,r1,q1⟩)
def AnU(c:TT)(t u:TS):TS:=fun D σ H=>c σ H fun b H1=>if b=true then t D σ H1 else u D σ H1
theorem Ahp{c:Expr}{a b:List Stmt}{tc:TT}(hc:PT X c tc)(ha:PSs X a t)(hb:PSs X b u):PS X (.If c a b pos) (AnU tc t u):=by
 intro pins s σ H D I h
 refine wpAny_If (thn (hc pins s σ H _ I h) fun d s1 ⟨H1,I1,q1⟩=>?_)
 cases d with
 |true=>exact ha pins s1 σ H1 D I1 q1
 |false=>exact hb pins s1 σ H1 D I1 q1
def Aio:TS:=fun _ _ _=>False
theorem AbD:PS X st Aio:=fun _ _ _ _ _ _ h=>h.elim
end
abbrev TG:=V→St→Hp→(St→Hp→Prop)→Prop
abbrev TGs:=List V→St→Hp→(St→Hp→Prop)→Prop
def PG(X:Cx)(target:Expr)(t:TG):Prop :=
 ∀(pins:List (Addr×Obj))(s:Shared)(σ:St)(H:Hp)(v:V)(u:Value)(Q:St→Hp→Prop),Inv X pins σ H s→RelV v u→t v σ H Q →
  wpAny (model X.prog X.w) X.A (assign target X.env u) (fun _ s'=>∃σ' H',Inv X pins σ' H' s'∧Q σ' H') X.xe s
def PGs(X:Cx)(ts:List Expr)(t:TGs):Prop :=
 ∀(pins:List (Addr×Obj))(s:Shared)(σ:St)(H:Hp)(vs:List V)(us:List Value)(Q:St→Hp→Prop),Inv X pins σ H s→Vals vs us→t vs σ H Q →
  wpAny (model X.prog X.w) X.A (assignInOrder ((assignEach ts X.env).map (·.2)) us) (fun _ s'=>∃σ' H',Inv X pins σ' H' s'∧Q σ' H') X.xe s
abbrev TIp:=V→V→Hp→VK→Prop
def PIp(X:Cx)(op:Operator)(t:TIp):Prop :=
 ∀(pins:List (Addr×Obj))(s:Shared)(σ:St)(H:Hp)(x y:V)(v u:Value)(Q:VK),Inv X pins σ H s→RelV x v→RelV y u→t x y H Q →
  wpAny (model X.prog X.w) X.A (inplaceOp op v u) (EP X pins σ Q) X.xe s
section
variable{X:Cx}{pos:Pos}
def Aag(i:Nat):TG:=fun v σ H Q=>Q (σ.set i (some v)) H
theorem Uv{i:Nat}{x:Str}(hN:X.N.Nodup)(hi:X.N[i]? = some x)(hx:Loc X.env.scope x)(hf:X.fn x=true∨X.env.scope.names.lookup x=some .local:=by first | exact .inl rfl | exact .inr rfl | assumption):PG X (.Name x pos) (Aag i):=by
 intro pins s σ H v u Q I r h
 exact wpAny_assign_Name (J6 I hN hi hx r (fun s' I'=>⟨_,H,I',h⟩) hf)
def Aog:TGs:=fun vs σ H Q=>vs=[]∧Q σ H
def Al5(t:TG)(u:TGs):TGs:=fun vs σ H Q=>∃v r,vs=v::r∧t v σ H fun σ' H'=>u r σ' H' Q
theorem Aft:PGs X [] Aog:=by
 intro pins s σ H vs us Q I r h
 obtain⟨e,h⟩:=h
 subst e
 cases r
 exact assignInOrder_nil ⟨σ,H,I,h⟩
theorem AbU{e:Expr}{es:List Expr}{t:TG}{u:TGs}(h1:PG X e t)(h2:PGs X es u)
  (hs:(assignEach (e::es) X.env).map (·.2)=assign e X.env::(assignEach es X.env).map (·.2):=by rfl):PGs X (e::es) (Al5 t u):=by
 intro pins s σ H vs us Q I r h
 obtain⟨v,vr,e1,h⟩:=h
 subst e1
 cases r with
 | cons r rr =>
  rw[hs]
  refine assignInOrder_cons (thn (h1 pins s σ H _ _ _ I r h) fun _ s1 ⟨σ1,H1,I1,q1⟩=>?_)
  exact h2 pins s1 σ1 H1 _ _ Q I1 rr q1
def Ale(te:TE)(g:TG):TS:=fun D σ H=>te σ H fun x H1=>g x σ H1 D.nx
theorem AjX{tg e:Expr}{te:TE}{g:TG}(he:PE X e te)(hg:PG X tg g)(hs:swapsWithSole [tg] e pos.line X.env=pure false:=by rfl)(hw:swappedStores [tg] e X.env=pure none:=by rfl)
  (h1:(assignEach [tg] X.env).map (·.2)=[assign tg X.env]:=by rfl):PS X (.Assign [tg] e pos) (Ale te g):=by
 intro pins s σ H D I h
 refine wpAny_Assign_stores (thn (he pins s σ H _ I h) fun v s1 ⟨x,H1,I1,r1,q1⟩=>?_) hs hw
 rw[h1]
 exact thn (hg pins s1 σ H1 x v _ I1 r1 q1) fun _ s2 q=>q
theorem Xy{i:Nat}{x:Str}{e:Expr}{te:TE}{pos':Pos}(hN:X.N.Nodup)(hi:X.N[i]? = some x)(hx:Loc X.env.scope x)(he:PE X e te)(hs:swapsWith e (some (.Name x pos')) pos.line X.env=pure false:=by rfl)(hf:X.fn x=true∨X.env.scope.names.lookup x=some .local:=by first | exact .inl rfl | exact .inr rfl | assumption) :
  PS X (.Assign [.Name x pos'] e pos) (Ale te (Aag i)):=by
 intro pins s σ H D I h
 refine wpAny_Assign_Name (thn (he pins s σ H _ I h) fun v s1 ⟨y,H1,I1,r1,q1⟩=>?_) hs
 exact J6 I1 hN hi hx r1 (fun s2 I2=>⟨_,H1,I2,q1⟩) hf
def Apq(i:Nat)(te:TE)(ti:TIp):TS:=fun D σ H=>∃x,σ[i]? = some (some x)∧te σ H fun y H1=>ti x y H1 fun z H2=>D.nx (σ.set i (some z)) H2
theorem Ajm{i:Nat}{x:Str}{e:Expr}{te:TE}{op:Operator}{ti:TIp}{pos':Pos}(hN:X.N.Nodup)(hi:X.N[i]? = some x)(hx:Loc X.env.scope x)(he:PE X e te)(ho:PIp X op ti)(hf:X.fn x=true∨X.env.scope.names.lookup x=some .local:=by first | exact .inl rfl | exact .inr rfl | assumption) :
  PS X (.AugAssign (.Name x pos') op e pos) (Apq i te ti):=by
 intro pins s σ H D I h
 obtain⟨v,e1,h⟩:=h
 obtain⟨m,hn,hl⟩:=I.loc
 have vis:Vis X.env.scope x:=by rcases hx with k|k;exact .inl k;exact .inr (.inl k)
 obtain⟨u,r,l⟩:=hl i x v hi e1 vis
 refine wpAny_AugAssign_Name ?_
 have go:wpAny (model X.prog X.w) X.A (eval e X.env) (fun w s₂=>wpAny (model X.prog X.w) X.A (inplaceOp op u w) (fun r s₃=>wpAny (model X.prog X.w) X.A (storeName X.env x r) (fun _=>SP X pins D .next) X.xe s₃) X.xe s₂) X.xe s:=by
  refine thn (he pins s σ H _ I h) fun w s1 ⟨y,H1,I1,r1,q1⟩=>?_
  refine thn (ho pins s1 σ H1 v y u w _ I1 r r1 q1) fun z s2 ⟨zv,H2,I2,r2,q2⟩=>?_
  exact J6 I2 hN hi hx r2 (fun s3 I3=>⟨_,H2,I3,q2⟩) hf
 rcases l with⟨hk,hm⟩|⟨hk,c,hc,hcell⟩
 ·exact wpAny_loadName_local I.ok.kind hk hn hm go
 ·rcases hk with hk|hk
  ·exact wpAny_loadName_cell I.ok.kind hk hc hcell go
  ·rcases hx with k|k
   ·have:X.env.scope.names.lookup x=some .free:=hk
    rw[k]at this;cases this
   ·have:X.env.scope.names.lookup x=some .free:=hk
    rw[k]at this;cases this
def ipI(f:Int→Int→Int):TIp:=fun x y H Q=>∃i j,x=.int i∧y=.int j∧Q (.int (f i j)) H
theorem AhN:PIp X .Add (ipI fun i j=>i+j):=by
 intro pins s σ H x y v u Q I r1 r2 h
 obtain⟨i,j,e1,e2,q⟩:=h
 subst e1;subst e2
 obtain⟨t,rfl⟩:=r1
 obtain⟨t',rfl⟩:=r2
 exact iadd_int ⟨.int _,H,I.tok _,⟨_,rfl⟩,q⟩
end
section
variable{X:Cx}{pos:Pos}
def Ais(c:TT)(tb:TS):TS:=fun D σ H=>∃W:Nat→St→Hp→Prop,(∃m,W m σ H)∧∀m σ H,W m σ H →
 c σ H fun b H1=>if b=true then ∃N:St→Hp→Prop,(∀σ' H',N σ' H'→∃m',m'<m∧W m' σ' H')∧tb {D with nx:=N,ct:=N,bk:=D.nx} σ H1 else D.nx σ H1
theorem AbI{c:Expr}{body:List Stmt}{tc:TT}{tb:TS}(hp:PassesOwn (model X.prog X.w) X.A X.env X.xe)(hc:PT X c tc)(hb:PSs X body tb):PS X (.While c body [] pos) (Ais tc tb):=by
 intro pins s σ H D I h
 obtain⟨W,⟨m0,w0⟩,turn⟩:=h
 refine wpAny_While (codeAny_whileLoop (fun n s'=>∃σ' H',Inv X pins σ' H' s'∧W n σ' H') ?_ m0 ⟨σ,H,I,w0⟩)
 rintro n s1 ⟨σ1,H1,I1,w1⟩
 refine wpAny_passesOwn hp (thn (hc pins s1 σ1 H1 _ I1 (turn n σ1 H1 w1)) fun b s2 ⟨H2,I2,q2⟩=>?_)
 cases b with
 | true =>
  obtain⟨N,hN,q2⟩:=q2
  rw[if_pos rfl]
  refine wpAny_passesOwn hp (thn (hb pins s2 σ1 H2 _ I2 q2) fun f s3 q3=>?_)
  cases f with
  | next =>
   obtain⟨σ3,H3,I3,n3⟩:=q3
   obtain⟨m',hm,w3⟩:=hN σ3 H3 n3
   exact⟨m',hm,σ3,H3,I3,w3⟩
  | cont =>
   obtain⟨σ3,H3,I3,n3⟩:=q3
   obtain⟨m',hm,w3⟩:=hN σ3 H3 n3
   exact⟨m',hm,σ3,H3,I3,w3⟩
  |brk=>exact q3
  |ret v=>exact q3
 | false =>
  rw[if_neg Bool.false_ne_true]
  exact wpAny_execs_nil ⟨σ1,H2,I2,q2⟩
end
structure It where
 go:Nat→Hp→Prop
 yld:Nat→Hp→V→Hp→Prop
 stop:Nat→Hp→Prop
def MJ(X:Cx)(pins:List (Addr×Obj))(H:Hp)(b:Addr):Prop :=
 H b=none∧b≠X.env.locals∧b∉X.fs∧(b∈X.ex∨X.s₀.heap.objs.size≤b)∧(∀x c,X.env.cells.lookup x=some c→c≠b)∧∀p∈X.pn++pins,p.1≠b
theorem Inv.aeN{X:Cx}{pins:List (Addr×Obj)}{σ:St}{H H':Hp}{s:Shared}{b:Addr}(I:Inv X pins σ H s)(hb:s.heap.objs.size≤b)(hn:H' b=none):MJ X pins H' b:=by
 refine⟨hn,Nat.ne_of_gt (Nat.lt_of_lt_of_le I.lt hb),I.afo hb,.inr (Nat.le_trans I.sz hb),fun x c e z=>?_,fun p hp z=>?_⟩
 ·obtain⟨v,q⟩:=I.cell x c e
  exact absurd (Nat.lt_of_lt_of_le q.lt (by rw[z];exact hb)) (Nat.lt_irrefl _)
 ·exact absurd (Nat.lt_of_lt_of_le (Heap.lt_size (I.pin p hp).1) (by rw[z];exact hb)) (Nat.lt_irrefl _)
structure Turn(P:Program)(w:World)(K:W.Frag)(tg:Expr)(J:It)(fp:List Addr)(it:Addr)(tn:Nat→Heap→Prop):Prop where
 mem:it∈fp
 obj:∀i h,tn i h→∀b∈fp,∃o,h.get? b=some o∧∀v,o.data≠.cell v
 keep:∀i h h',tn i h→(∀b∈fp,∀o,h.get? b=some o→h'.get? b=some o)→tn i h'
 item:∀(X:Cx),X.prog=P→X.w=w→X.K=K→X.calm=true→∀(i:Nat)(pins:List (Addr×Obj))(s:Shared)(σ:St)(H:Hp)(E:Value→Shared→Prop),Inv X pins σ H s→(∀b∈fp,MJ X pins H b)→tn i s.heap→J.go i H →
  wpAny (model P w) X.A (pyNext (.ref it)) (fun r s1=>∃u,r=some u ∧
   wpAny (model P w) X.A (letOwnedTupleGo tg (.ref it) u) (fun _ s2=>∃x H',Inv X pins σ H' s2∧RelV x u∧J.yld i H x H'∧tn (i+1) s2.heap∧∀b∈fp,H' b=none) E s1) E s
 done:∀(X:Cx),X.prog=P→X.w=w→X.K=K→X.calm=true→∀(i:Nat)(pins:List (Addr×Obj))(s:Shared)(σ:St)(H:Hp)(E:Value→Shared→Prop),Inv X pins σ H s→(∀b∈fp,MJ X pins H b)→tn i s.heap→J.stop i H →
  wpAny (model P w) X.A (pyNext (.ref it)) (fun r s1=>r=none∧Inv X pins σ H s1) E s
 self:∀(A:Around)(i:Nat)(s:Shared)(Q:Value→Shared→Prop)(E:Value→Shared→Prop),tn i s.heap→Q (.ref it) s→wpAny (model P w) A (pyIter (.ref it)) Q E s
abbrev TI:=St→Hp→(It→Hp→Prop)→Prop
def PIE(X:Cx)(pins:List (Addr×Obj))(σ:St)(tg:Expr)(R:It→Hp→Prop)(itv:Value)(s2:Shared):Prop :=
 ∃(it:Addr)(fp:List Addr)(tn:Nat→Heap→Prop)(J:It)(H':Hp),itv=.ref it∧Inv X pins σ H' s2∧Turn X.prog X.w X.K tg J fp it tn∧tn 0 s2.heap∧(∀b∈fp,MJ X pins H' b)∧R J H'
def PI(X:Cx)(tg iter:Expr)(wi:TI):Prop :=
 ∀(pins:List (Addr×Obj))(s:Shared)(σ:St)(H:Hp)(R:It→Hp→Prop),Inv X pins σ H s→wi σ H R →
  wpAny (model X.prog X.w) X.A (eval iter X.env) (fun v s1=>wpAny (model X.prog X.w) X.A (pyIter v) (PIE X pins σ tg R) X.xe s1) X.xe s
theorem AgU{M:Model}{A:Around}{E:Value→Shared→Prop}{s:Shared}{tg:Expr}{it:Addr}{u:Value}{o:Obj}{n:String}{vs:Array Value}{Q:Unit→Shared→Prop}(ho:s.heap.get? it=some o)(hc:o.cls=.type n)(hd:o.data=.fields vs)
  (hn:["enumerate","zip","dict_itemiterator","dict_reverseitemiterator","odict_iterator","itertools.zip_longest","itertools.pairwise"].contains n=false) (hQ:Q () s):wpAny M A (letOwnedTupleGo tg (.ref it) u) Q E s:=by
 unfold letOwnedTupleGo
 cases tg<;>first
  |exact wpAny_pure hQ
  | (cases u<;>first
    |exact wpAny_pure hQ
    | (refine wpAny_bind (wpAny_load ho ?_)
       rw[hc,hd]
       show wpAny M A (if(["enumerate","zip","dict_itemiterator","dict_reverseitemiterator","odict_iterator","itertools.zip_longest","itertools.pairwise"].contains n&&vs[0]? == some (rawInt _))=true then _ else _) Q E s
       rw[if_neg (by intro h;rw[hn,Bool.false_and]at h;cases h)]
       exact wpAny_pure hQ))
def Itl(K:W.Frag)(a:Addr):It :=
 ⟨fun i H=>∃xs x,SqL K H a xs∧xs[i]? = some x,fun i H x H'=>H'=H∧∀xs,SqL K H a xs→xs[i]? = some x,fun i H=>∃xs,SqL K H a xs∧xs.length≤i⟩
def Itr(lo:Int)(n:Nat):It:=⟨fun i _=>i<n,fun i H x H'=>H'=H∧x=.int (lo+i),fun i _=>n≤i⟩
theorem Aa8{P:Program}{w:World}{K:W.Frag}{tg:Expr}(a it:Addr):Turn P w K tg (Itl K a) [it] it (fun i h=>h.IsListIter it a i) where
 mem:=by simp
 obj:=fun i h st b hb=>by
  have e:b=it:=by simpa using hb
  subst e
  obtain⟨o,e,c,d⟩:=st
  exact⟨o,e,fun v z=>by rw[d]at z;cases z⟩
 keep:=fun i h h' st k=>st.at fun o e=>k it (by simp) o e
 item:=by
  intro X hP hw hK hc i pins s σ H E I hf st hg
  subst hP hw hK
  obtain⟨xs,x,hq,hx⟩:=hg
  obtain⟨its,rv,p,hz⟩:=I.list hq
  obtain⟨u,hu,ru⟩:=rv.get hx
  obtain⟨f0,f1,f2,f3,f4,f5⟩:=hf it (by simp)
  refine wpAny_pyNext_list_item st p.isList (x:=u) (by simpa using hu) fun h' st' sb=>?_
  have I1:Inv X pins σ H {s with heap:=h'}:=I.turned (t':=s.toks) (fun b o hb e=>(sb.2 b hb).trans e) f0 f1 f3 f4 f5
  obtain⟨o,e,c,d⟩:=id st'
  exact⟨u,rfl,AgU (s:={s with heap:=h'}) e c d (by decide) ⟨x,H,I1,ru,⟨rfl,fun ys hy=>by rw[I.adF hy hq];exact hx⟩,st',fun b hb=>(hf b hb).1⟩⟩
 done:=by
  intro X hP hw hK hc i pins s σ H E I hf st hg
  subst hP hw hK
  obtain⟨xs,hq,hx⟩:=hg
  obtain⟨its,rv,p,hz⟩:=I.list hq
  obtain⟨f0,f1,f2,f3,f4,f5⟩:=hf it (by simp)
  have hl:=rv.length
  exact wpAny_pyNext_list_end (I.ok.hd hc) st p.isList (by simp;omega) fun h' eb=>⟨rfl,I.turned (t':=s.toks) (fun b o hb e=>eb b o hb e) f0 f1 f3 f4 f5⟩
 self:=fun _ _ _ _ _ st h=>wpAny_pyIter_listiter st h
theorem YG{P:Program}{w:World}{K:PySem.W.Frag}{tg:Expr}(it:Addr)(lo:Int)(n:Nat):Turn P w K tg (Itr lo n) [it] it (fun i h=>IsRangeIter h it (lo+(i:Nat)*1) ((n:Int)-(i:Nat)) 1) where
 mem:=by simp
 obj:=fun i h st b hb=>by
  have e:b=it:=by simpa using hb
  subst e
  exact⟨_,st,fun v z=>by
   have z':Data.fields _=Data.cell v:=z
   cases z'⟩
 keep:=fun i h h' st k=>k it (by simp) _ st
 item:=by
  intro X hP hw hK hc i pins s σ H E I hf st hg
  subst hP hw hK
  obtain⟨f0,f1,f2,f3,f4,f5⟩:=hf it (by simp)
  have W:=Walks.range (prog:=X.prog) (w:=X.w) (I.ok.hd hc) it lo 1 n
  refine W.item i s _ _ hg st fun v h' tk hv st' kk=>?_
  obtain⟨t,rfl⟩:=hv
  have I1:Inv X pins σ H {s with heap:=h',toks:=tk}:=I.turned (fun b o hb e=>kk b o (by simpa using hb) e) f0 f1 f3 f4 f5
  refine⟨_,rfl,AgU (s:={s with heap:=h',toks:=tk}) (n:="range_iterator") st' rfl rfl (by decide) ⟨.int (lo+i),H,I1,⟨t,?_⟩,⟨rfl,rfl⟩,st',fun b hb=>(hf b hb).1⟩⟩
  rw[Int.mul_one]
 done:=by
  intro X hP hw hK hc i pins s σ H E I hf st hg
  subst hP hw hK
  obtain⟨f0,f1,f2,f3,f4,f5⟩:=hf it (by simp)
  exact wpAny_pyNext_range_end (I.ok.hd hc) st (by have:n≤i:=hg;omega) fun h' eb=>⟨rfl,I.turned (t':=s.toks) (fun b o hb e=>eb b o hb e) f0 f1 f3 f4 f5⟩
 self:=fun _ _ _ _ _ st h=>wpAny_pyIter_rangeiter st h
section
variable{X:Cx}{tg:Expr}
def Akp(K:W.Frag)(tl:TE):TI:=fun σ H R=>tl σ H fun x H1=>∃a,x=.ref a∧(∃xs,SqL K H1 a xs)∧R (Itl K a) H1
theorem AgG{l:Expr}{tl:TE}(hl:PE X l tl):PI X tg l (Akp X.K tl):=by
 intro pins s σ H R I h
 refine thn (hl pins s σ H _ I h) fun v s1 ⟨x,H1,I1,r1,q1⟩=>?_
 obtain⟨a,e,⟨xs,hq⟩,q⟩:=q1
 subst e
 cases r1
 obtain⟨its,rv,p,hz⟩:=I1.list hq
 refine wpAny_pyIter_list p.isList ?_
 refine⟨s1.heap.objs.size,[s1.heap.objs.size],_,_,H1,rfl,I1.kept (t':=s1.toks) fun b o e=>Heap.get?_push_of_some _ e,Aa8 a _,⟨_,Heap.get?_push_size _ rfl,rfl,rfl⟩,fun b hb=>?_,q⟩
 have e:b=s1.heap.objs.size:=by simpa using hb
 subst e
 exact I1.aeN (Nat.le_refl _) (I1.hok.fresh (Nat.le_refl _))
theorem Wz{pins:List (Addr×Obj)}{σ:St}{H:Hp}{s:Shared}{R:It→Hp→Prop}{E:Value→Shared→Prop}{lo hi:Int}{t u v:Tok}{tk:Nat}(I:Inv X pins σ H s)(h1:-(2 ^ 62)≤lo)(h2:lo<2 ^ 62)(h3:-(2 ^ 62)≤hi)(h4:hi<2 ^ 62)
  (q:R (Itr lo (hi-lo).toNat) H):wpAny (model X.prog X.w) X.A (pyIter (.ref s.heap.objs.size)) (PIE X pins σ tg R) E {s with heap:=s.heap.push {cls:=.type "range",data:=.fields #[.int lo t,.int hi u,.int 1 v]},toks:=tk}:=by
 refine wpAny_pyIter_range (IsRange.new ..) (small_one h1 h2 h3 h4) ?_
 have I1:Inv X pins σ H {s with heap:=s.heap.push {cls:=.type "range",data:=.fields #[.int lo t,.int hi u,.int 1 v]},toks:=tk}:=I.kept fun b o e=>Heap.get?_push_of_some _ e
 refine⟨(s.heap.push {cls:=.type "range",data:=.fields #[.int lo t,.int hi u,.int 1 v]}).objs.size,[(s.heap.push {cls:=.type "range",data:=.fields #[.int lo t,.int hi u,.int 1 v]}).objs.size],_,_,H,rfl,
  I1.kept (t':=tk) fun b o e=>Heap.get?_push_of_some _ e,YG _ lo (hi-lo).toNat,?_,fun b hb=>?_,q⟩
 ·have e1:lo+((0:Nat):Int)*1=lo:=by simp
  have e2:(((hi-lo).toNat:Nat):Int)-((0:Nat):Int)=Builtin.Range.rangeSize lo hi 1:=by rw[rangeSize_one];split<;>omega
  show IsRangeIter _ _ (lo+((0:Nat):Int)*1) ((((hi-lo).toNat:Nat):Int)-((0:Nat):Int)) 1
  rw[e1,e2]
  exact Heap.get?_push_size _ rfl
 ·have e:b=(s.heap.push {cls:=.type "range",data:=.fields #[.int lo t,.int hi u,.int 1 v]}).objs.size:=by simpa using hb
  subst e
  exact I1.aeN (Nat.le_refl _) (I1.hok.fresh (Nat.le_refl _))
def Ako(ta:TA):TI:=fun σ H R=>ta σ H fun vs H1=>∃j:Int,vs=[.int j]∧-(2 ^ 62)≤j∧j<2 ^ 62∧R (Itr 0 j.toNat) H1
def Al7(ta:TA):TI:=fun σ H R=>ta σ H fun vs H1=>∃i j:Int,vs=[.int i,.int j]∧(-(2 ^ 62)≤i∧i<2 ^ 62∧-(2 ^ 62)≤j∧j<2 ^ 62)∧R (Itr i (j-i).toNat) H1
theorem AaT{a:Expr}{ta:TA}{p pos:Pos}(hg:Gl X "range")(hm:X.mg "range"=none)(ha:PA X [a] ta)(hs:starEach [a] X.env=[(false,eval a X.env)]:=by rfl):PI X tg (.Call (.Name "range" p) [a] [] pos) (Ako ta):=by
 intro pins s σ H R I h
 refine Call_ (Nx I hg hm boot_range (PyProof.Rows.callWith_type1 (thn (ha pos pins s σ H _ I h) fun us s1 ⟨vs,H1,I1,r1,q1⟩=>?_) hs rfl))
 obtain⟨j,e,q1,q2,q⟩:=q1
 subst e
 cases r1 with
 | cons r rr =>
  cases rr
  obtain⟨t,rfl⟩:=r
  exact call_range_1 (Wz I1 (by omega) (by omega) q1 q2 (by simpa using q))
theorem Abe{a b:Expr}{ta:TA}{p pos:Pos}(hg:Gl X "range")(hm:X.mg "range"=none)(ha:PA X [a,b] ta)(hs:starEach [a,b] X.env=[(false,eval a X.env),(false,eval b X.env)]:=by rfl)(hs2:starEach [b] X.env=[(false,eval b X.env)]:=by rfl) :
  PI X tg (.Call (.Name "range" p) [a,b] [] pos) (Al7 ta):=by
 intro pins s σ H R I h
 refine Call_ (Nx I hg hm boot_range (PyProof.Rows.callWith_type1 (thn (ha pos pins s σ H _ I h) fun us s1 ⟨vs,H1,I1,r1,q1⟩=>?_) (by rw[hs,hs2]) (by rw[hs2];rfl)))
 obtain⟨i,j,e,⟨q1,q2,q3,q4⟩,q⟩:=q1
 subst e
 cases r1 with
 | cons r rr =>
  cases rr with
  | cons r' rr =>
   cases rr
   obtain⟨t,rfl⟩:=r
   obtain⟨t',rfl⟩:=r'
   exact call_range_2 (Wz I1 q1 q2 q3 q4 q)
def Anx(wi:TI)(g:TG)(tb:TS):TS:=fun D σ H=>wi σ H fun J H1=>∃W:Nat→Nat→St→Hp→Prop,(∃m,W 0 m σ H1)∧∀i m σ H,W i m σ H →
 (J.stop i H∧D.nx σ H)∨(J.go i H∧∃N:St→Hp→Prop,(∀σ' H',N σ' H'→∃m',m'<m∧W (i+1) m' σ' H')∧∀x H',J.yld i H x H'→g x σ H' fun σ2 H2=>tb {D with nx:=N,ct:=N,bk:=D.nx} σ2 H2)
def Oi(fp:List Addr)(h:Heap):List (Addr×Obj):=fp.filterMap fun b=>(h.get? b).map fun o=>(b,o)
theorem GK{fp:List Addr}{h:Heap}{b:Addr}{o:Obj}(hb:b∈fp)(e:h.get? b=some o):(b,o)∈Oi fp h:=List.mem_filterMap.mpr ⟨b,hb,by rw[e];rfl⟩
theorem Aa1{fp:List Addr}{h:Heap}{p:Addr×Obj}(hp:p∈Oi fp h):p.1∈fp∧h.get? p.1=some p.2:=by
 obtain⟨b,hb,e⟩:=List.mem_filterMap.mp hp
 cases q:h.get? b with
 |none=>rw[q]at e;cases e
 | some o =>
  rw[q]at e
  have e':(b,o)=p:=Option.some.inj e
  subst e'
  exact⟨hb,q⟩
theorem Inv.pinned{pins:List (Addr×Obj)}{σ:St}{H:Hp}{s:Shared}{fp:List Addr}(I:Inv X pins σ H s)(hf:∀b∈fp,MJ X pins H b)(ho:∀b∈fp,∃o,s.heap.get? b=some o∧∀v,o.data≠.cell v):Inv X (pins++Oi fp s.heap) σ H s :=
 I.acJ fun p hp=>(List.mem_append.mp hp).elim (fun z=>I.pin p (List.mem_append_right _ z)) fun z=>by
  obtain⟨hb,e⟩:=Aa1 z
  obtain⟨f0,f1,f2,_⟩:=hf p.1 hb
  obtain⟨o,e',d⟩:=ho p.1 hb
  rw[e]at e';cases e'
  exact⟨e,f0,f1,f2,d⟩
theorem Inv.mG{pins pl:List (Addr×Obj)}{σ:St}{H:Hp}{s:Shared}(I:Inv X (pins++pl) σ H s):Inv X pins σ H s:=I.acJ fun p hp=>I.pin p (List.mem_append_right _ (List.mem_append_left _ hp))
theorem Ajv{iter:Expr}{body:List Stmt}{wi:TI}{g:TG}{tb:TS}{pos:Pos}(hp:PassesOwn (model X.prog X.w) X.A X.env X.xe)(hc:X.calm=true)(hi:PI X tg iter wi)(hg:PG X tg g)(hb:PSs X body tb)
  (hs:∀x,foldedSetIterable iter X.env x=pure x:=by intro _;rfl):PS X (.For tg iter body [] pos) (Anx wi g tb):=by
 intro pins s σ H D I h
 refine wpAny_For (thn (hi pins s σ H _ I h) fun v s1 h1=>thn h1 fun itv s2 h2=>?_) hs
 obtain⟨it,fp,tn,J,H2,e,I2,T,st2,f2,W,⟨m0,w0⟩,turn⟩:=h2
 subst e
 have stat:∀{H':Hp},(∀b∈fp,H' b=none)→∀b∈fp,MJ X pins H' b:=fun hn b hb=>⟨hn b hb,(f2 b hb).2⟩
 refine codeAny_forLoop_any (fun n s'=>∃i σ' H',Inv X pins σ' H' s'∧tn i s'.heap∧(∀b∈fp,H' b=none)∧W i n σ' H') ?_ m0 ⟨0,σ,H2,I2,st2,fun b hb=>(f2 b hb).1,w0⟩
 rintro n s3 ⟨i,σ3,H3,I3,st3,fr3,w3⟩
 rcases turn i n σ3 H3 w3 with⟨stop,qn⟩|⟨go,N,hN,step⟩
 ·refine wpAny_passesOwn hp (thn (T.done X rfl rfl rfl hc i pins s3 σ3 H3 X.xe I3 (stat fr3) st3 stop) fun r s4 ⟨hr,I4⟩=>?_)
  subst hr
  exact wpAny_execs_nil ⟨σ3,H3,I4,qn⟩
 ·refine wpAny_passesOwn hp (thn (T.item X rfl rfl rfl hc i pins s3 σ3 H3 X.xe I3 (stat fr3) st3 go) fun r s4 ⟨u,hr,h4⟩=>?_)
  subst hr
  refine wpAny_passesOwn hp (thn h4 fun _ s5 ⟨x,H5,I5,r5,y5,st5,fr5⟩=>?_)
  have I5':=I5.pinned (stat fr5) (T.obj _ _ st5)
  refine wpAny_passesOwn hp (thn (hg _ s5 σ3 H5 x u _ I5' r5 (step x H5 y5)) fun _ s6 ⟨σ6,H6,I6,q6⟩=>?_)
  refine wpAny_passesOwn hp (thn (hb _ s6 σ6 H6 _ I6 q6) fun f s7 q7=>?_)
  have again:∀{σ7:St} {H7:Hp},Inv X (pins++Oi fp s5.heap) σ7 H7 s7→N σ7 H7→∃m,m<n∧∃i σ' H',Inv X pins σ' H' s7∧tn i s7.heap∧(∀b∈fp,H' b=none)∧W i m σ' H':=fun{σ7 H7} I7 n7=>by
   obtain⟨m',hm,w7⟩:=hN σ7 H7 n7
   refine⟨m',hm,i+1,σ7,H7,I7.mG,T.keep _ _ _ st5 fun b hb o e=>(I7.pin (b,o) (List.mem_append_right _ (List.mem_append_right _ (GK hb e)))).1,fun b hb=>?_,w7⟩
   obtain⟨o,e,d⟩:=T.obj _ _ st5 b hb
   exact(I7.pin (b,o) (List.mem_append_right _ (List.mem_append_right _ (GK hb e)))).2.1
  cases f with
  |next=>obtain⟨σ7,H7,I7,n7⟩:=q7;exact again I7 n7
  |cont=>obtain⟨σ7,H7,I7,n7⟩:=q7;exact again I7 n7
  |brk=>obtain⟨σ7,H7,I7,q7⟩:=q7;exact⟨σ7,H7,I7.mG,q7⟩
  |ret v=>obtain⟨x7,σ7,H7,I7,r7,q7⟩:=q7;exact⟨x7,σ7,H7,I7.mG,r7,q7⟩
end
abbrev R2:=V→V→Hp→VK→Prop
def OpR(X:Cx)(f:Value→Value→Sem Value)(r:R2):Prop :=
 ∀(pins:List (Addr×Obj))(s:Shared)(σ:St)(H:Hp)(x y:V)(v u:Value)(Q:VK),Inv X pins σ H s→RelV x v→RelV y u→r x y H Q →
  wpAny (model X.prog X.w) X.A (f v u) (EP X pins σ Q) X.xe s
def UnR(X:Cx)(f:Value→Sem Value)(r:V→Hp→VK→Prop):Prop :=
 ∀(pins:List (Addr×Obj))(s:Shared)(σ:St)(H:Hp)(x:V)(v:Value)(Q:VK),Inv X pins σ H s→RelV x v→r x H Q →
  wpAny (model X.prog X.w) X.A (f v) (EP X pins σ Q) X.xe s
def J2(X:Cx)(f:Value)(r:List V→Hp→VK→Prop):Prop :=
 ∀(pins:List (Addr×Obj))(s:Shared)(σ:St)(H:Hp)(xs:List V)(us:List Value)(Q:VK),Inv X pins σ H s→Vals xs us→r xs H Q →
  wpAny (model X.prog X.w) X.A (call f us) (EP X pins σ Q) X.xe s
def tOp(r:R2)(ta tb:TE):TE:=fun σ H Q=>ta σ H fun x H1=>tb σ H1 fun y H2=>r x y H2 Q
def tUn(r:V→Hp→VK→Prop)(ta:TE):TE:=fun σ H Q=>ta σ H fun x H1=>r x H1 Q
def rI(C:Int→Int→Prop)(g:Int→Int→V):R2:=fun x y H Q=>∃i j,x=.int i∧y=.int j∧C i j∧Q (g i j) H
def rI0(g:Int→Int→V):R2:=fun x y H Q=>∃i j,x=.int i∧y=.int j∧Q (g i j) H
def rU(g:Int→V):V→Hp→VK→Prop:=fun x H Q=>∃i,x=.int i∧Q (g i) H
section
variable{X:Cx}{a b c:Expr}{ta tb tc:TE}{pos:Pos}
theorem AiA(ha:PE X a ta)(hb:PE X b tb){pins:List (Addr×Obj)}{s:Shared}{σ:St}{H:Hp}{R:V→V→Hp→Prop}(I:Inv X pins σ H s)
  (h:ta σ H fun x H1=>tb σ H1 fun y H2=>R x y H2) {Q:Value→Shared→Prop} {f:Value→Value→Sem Value}
  (hf:∀v u s2 x y H2,Inv X pins σ H2 s2→RelV x v→RelV y u→R x y H2→wpAny (model X.prog X.w) X.A (f v u) Q X.xe s2) :
  wpAny (model X.prog X.w) X.A (eval a X.env) (fun v s₁=>wpAny (model X.prog X.w) X.A (eval b X.env) (fun u s₂=>wpAny (model X.prog X.w) X.A (f v u) Q X.xe s₂) X.xe s₁) X.xe s:=by
 refine thn (ha pins s σ H _ I h) fun v s1 ⟨x,H1,I1,r1,q1⟩=>?_
 refine thn (hb pins s1 σ H1 _ I1 q1) fun u s2 ⟨y,H2,I2,r2,q2⟩=>?_
 exact hf v u s2 x y H2 I2 r1 r2 q2
theorem AgX{op:Operator}{r:R2}(ho:OpR X (binaryOp op) r)(ha:PE X a ta)(hb:PE X b tb):PE X (.BinOp a op b pos) (tOp r ta tb):=by
 intro pins s σ H Q I h
 exact wpAny_BinOp (AiA ha hb I h fun v u s2 x y H2 I2 rx ry q=>ho pins s2 σ H2 x y v u Q I2 rx ry q)
theorem Alk{op:UnaryOp}{r:V→Hp→VK→Prop}(ho:UnR X (unaryOp op) r)(ha:PE X a ta):PE X (.UnaryOp op a pos) (tUn r ta):=by
 intro pins s σ H Q I h
 exact UnaryOp_ (thn (ha pins s σ H _ I h) fun v s1 ⟨x,H1,I1,r1,q1⟩=>ho pins s1 σ H1 x v Q I1 r1 q1)
theorem opI{f:Value→Value→Sem Value}{C:Int→Int→Prop}{g:Int→Int→Int}
  (rule:∀(i j:Int)(t u:Tok)(s:Shared)(Q:Value→Shared→Prop)(E:Value→Shared→Prop),C i j→Q (.int (g i j) s.toks) {s with toks:=s.toks+1}→wpAny (model X.prog X.w) X.A (f (.int i t) (.int j u)) Q E s) :
  OpR X f (rI C fun i j=>.int (g i j)):=by
 intro pins s σ H x y v u Q I rx ry h
 obtain⟨i,j,rfl,rfl,hc,q⟩:=h
 obtain⟨t,rfl⟩:=rx
 obtain⟨t',rfl⟩:=ry
 exact rule i j t t' s _ _ hc ⟨.int (g i j),H,I.tok _,⟨_,rfl⟩,q⟩
theorem AmN{f:Value→Value→Sem Value}{g:Int→Int→Int}
  (rule:∀(i j:Int)(t u:Tok)(s:Shared)(Q:Value→Shared→Prop)(E:Value→Shared→Prop),Q (.int (g i j) s.toks) {s with toks:=s.toks+1}→wpAny (model X.prog X.w) X.A (f (.int i t) (.int j u)) Q E s) :
  OpR X f (rI0 fun i j=>.int (g i j)):=by
 intro pins s σ H x y v u Q I rx ry h
 obtain⟨i,j,rfl,rfl,q⟩:=h
 obtain⟨t,rfl⟩:=rx
 obtain⟨t',rfl⟩:=ry
 exact rule i j t t' s _ _ ⟨.int (g i j),H,I.tok _,⟨_,rfl⟩,q⟩
theorem Aet{f:Value→Value→Sem Value}{g:Int→Int→Bool}
  (rule:∀(i j:Int)(t u:Tok)(s:Shared)(Q:Value→Shared→Prop)(E:Value→Shared→Prop),Q (.bool (g i j)) s→wpAny (model X.prog X.w) X.A (f (.int i t) (.int j u)) Q E s) :
  OpR X f (rI0 fun i j=>.bl (g i j)):=by
 intro pins s σ H x y v u Q I rx ry h
 obtain⟨i,j,rfl,rfl,q⟩:=h
 obtain⟨t,rfl⟩:=rx
 obtain⟨t',rfl⟩:=ry
 exact rule i j t t' s _ _ ⟨.bl (g i j),H,I,rfl,q⟩
def Abq(i j:Int):Prop:=0≤j∧j≤1000000∧i.natAbs<2 ^ 64
theorem AhM:OpR X (binaryOp .Add) (rI0 fun i j=>.int (i+j)):=AmN fun _ _ _ _ _ _ _ q=>add_int q
theorem Ajp:OpR X (binaryOp .Sub) (rI0 fun i j=>.int (i-j)):=AmN fun _ _ _ _ _ _ _ q=>sub_int q
theorem Aes:OpR X (binaryOp .Mod) (rI (fun _ j=>j≠0) fun i j=>.int (i.fmod j)):=opI fun _ _ _ _ _ _ _ hc q=>mod_int' hc q
theorem AhS:OpR X (binaryOp .Pow) (rI Abq fun i j=>.int (i ^ j.toNat)):=opI fun _ _ _ _ _ _ _ hc q=>pow_int_small hc.1 hc.2.1 hc.2.2 q
theorem AjD:OpR X (binaryOp .LShift) (rI Abq fun i j=>.int (i*2 ^ j.toNat)):=opI fun _ _ _ _ _ _ _ hc q=>lshift_int_small hc.1 hc.2.1 hc.2.2 q
theorem unI{f:Value→Sem Value}{g:Int→Int}
  (rule:∀(i:Int)(t:Tok)(s:Shared)(Q:Value→Shared→Prop)(E:Value→Shared→Prop),Q (.int (g i) s.toks) {s with toks:=s.toks+1}→wpAny (model X.prog X.w) X.A (f (.int i t)) Q E s) :
  UnR X f (rU fun i=>.int (g i)):=by
 intro pins s σ H x v Q I rx h
 obtain⟨i,rfl,q⟩:=h
 obtain⟨t,rfl⟩:=rx
 exact rule i t s _ _ ⟨.int (g i),H,I.tok _,⟨_,rfl⟩,q⟩
theorem AiB:UnR X (unaryOp .USub) (rU fun i=>.int (-i)):=unI fun _ _ _ _ _ q=>neg_int q
end
section
variable{X:Cx}{a b c:Expr}{ta tb tc:TE}{pos:Pos}
theorem Ad7:OpR X (compareOp .Lt) (rI0 fun i j=>.bl (decide (i<j))):=Aet fun _ _ _ _ _ _ _ q=>lt_int q
theorem Wc:OpR X (compareOp .LtE) (rI0 fun i j=>.bl (decide (i≤j))):=Aet fun _ _ _ _ _ _ _ q=>le_int q
theorem AlG:OpR X (compareOp .Gt) (rI0 fun i j=>.bl (decide (j<i))):=Aet fun _ _ _ _ _ _ _ q=>gt_int q
theorem Am5:OpR X (compareOp .GtE) (rI0 fun i j=>.bl (decide (j≤i))):=Aet fun _ _ _ _ _ _ _ q=>ge_int q
theorem Lx(b:Expr){op:CmpOp}(h:op≠.In:=by decide)(h2:op≠.NotIn:=by decide):behindInMarks op b=false:=by
 have e1:(op==CmpOp.In)=false:=by cases op<;>first|rfl|exact absurd rfl h
 have e2:(op==CmpOp.NotIn)=false:=by cases op<;>first|rfl|exact absurd rfl h2
 cases b<;>simp[behindInMarks,e1,e2]
theorem AfW{op:CmpOp}{r:R2}(ho:OpR X (compareOp op) r)(ha:PE X a ta)(hb:PE X b tb)(hm:behindInMarks op b=false):PE X (.Compare a [op] [b] pos) (tOp r ta tb):=by
 intro pins s σ H Q I h
 exact wpAny_Compare1 (AiA ha hb I h fun v u s2 x y H2 I2 rx ry q=>ho pins s2 σ H2 x y v u Q I2 rx ry q) hm
def Amd(t:TE):TT:=fun σ H Q=>t σ H fun x H'=>∃k,x=.bl k∧Q k H'
theorem AeV{op:CmpOp}{r:R2}(ho:OpR X (compareOp op) r)(ha:PE X a ta)(hb:PE X b tb)(hm:behindInMarks op b=false):PT X (.Compare a [op] [b] pos) (Amd (tOp r ta tb)):=by
 intro pins s σ H Q I h
 refine wpAny_isTrue_Compare1 (thn (ha pins s σ H _ I h) fun v s1 ⟨x,H1,I1,r1,q1⟩=>thn (hb pins s1 σ H1 _ I1 q1) fun u s2 ⟨y,H2,I2,r2,q2⟩ =>
  thn (ho pins s2 σ H2 x y v u _ I2 r1 r2 q2) fun c s3 ⟨z,H3,I3,r3,k,e,q3⟩=>?_) hm
 subst e
 cases r3
 exact wpAny_truthy_bool ⟨H3,I3,q3⟩
def Adq(r r':R2)(ta tb tc:TE):TE:=fun σ H Q=>ta σ H fun x H1=>tb σ H1 fun y H2=>r x y H2 fun z H3=>∃k,z=.bl k ∧
 (if k=true then tc σ H3 fun w' H4=>r' y w' H4 Q else Q (.bl false) H3)
theorem Adb{op op':CmpOp}{r r':R2}(ho:OpR X (compareOp op) r)(ho':OpR X (compareOp op') r')(ha:PE X a ta)(hb:PE X b tb)(hc:PE X c tc)
  (hm:lastMarks [op,op'] [b,c]=false:=by with_unfolding_all rfl):PE X (.Compare a [op,op'] [b,c] pos) (Adq r r' ta tb tc):=by
 intro pins s σ H Q I h
 refine Compare_chain (thn (ha pins s σ H _ I h) fun v s1 ⟨x,H1,I1,r1,q1⟩=>chain_link (thn (hb pins s1 σ H1 _ I1 q1) fun u s2 ⟨y,H2,I2,r2,q2⟩ =>
  thn (ho pins s2 σ H2 x y v u _ I2 r1 r2 q2) fun d s3 ⟨z,H3,I3,r3,k,e,q3⟩=>?_)) hm
 subst e
 cases r3
 refine wpAny_truthy_bool ?_
 cases k with
 |false=>exact ite_ff ⟨.bl false,H3,I3,rfl,q3⟩
 |true=>exact ite_tt (chain_last (thn (hc pins s3 σ H3 _ I3 q3) fun w' s4 ⟨z',H4,I4,r4,q4⟩=>ho' pins s4 σ H4 y z' u w' Q I4 r2 r4 q4))
theorem Uu:(sizeLine:Nat)<2 ^ 63:=by rw[sizeLine_eq];decide
theorem vals1{x:V}{us:List Value}(r:Vals [x] us):∃u,us=[u]∧RelV x u:=by
 cases r with
 |cons r1 r2=>cases r2;exact⟨_,rfl,r1⟩
theorem vals2{x y:V}{us:List Value}(r:Vals [x,y] us):∃u w',us=[u,w']∧RelV x u∧RelV y w':=by
 cases r with
 | cons r1 r2 =>
  cases r2 with
  |cons r3 r4=>cases r4;exact⟨_,_,rfl,r1,r3⟩
theorem Acb:J2 X (.builtin "abs") (fun xs H Q=>∃i,xs=[.int i]∧Q (.int (if i<0 then -i else i)) H):=by
 intro pins s σ H xs us Q I r h
 obtain⟨i,rfl,q⟩:=h
 obtain⟨u,rfl,t,rfl⟩:=vals1 r
 exact call_abs_int fun u tk=>⟨.int (if i<0 then -i else i),H,I.tok _,⟨_,rfl⟩,q⟩
theorem Aba(hc:X.calm=true):J2 X (.builtin "max") (fun xs H Q=>∃i j,xs=[.int i,.int j]∧Q (.int (if j>i then j else i)) H):=by
 intro pins s σ H xs us Q I r h
 obtain⟨i,j,rfl,q⟩:=h
 obtain⟨u,w',rfl,⟨t,rfl⟩,⟨t',rfl⟩⟩:=vals2 r
 refine max_two_ints (I.ok.hd hc) fun h' tk k=>⟨_,H,I.kept k,?_,q⟩
 by_cases hj:j>i
 ·rw[if_pos hj,if_pos hj];exact⟨_,rfl⟩
 ·rw[if_neg hj,if_neg hj];exact⟨_,rfl⟩
end
structure Yo(h:Heap)(x dx C:Addr)(mA:Str→Option Value):Prop where
 obj:h.get? x=some (W.instObj C dx)
 ns:h.Ns1 dx mA
 ne:dx≠x
theorem Tj{h:Heap}{dx:Addr}{mA:Str→Option Value}(n:h.Ns1 dx mA):∃od,h.get? dx=some od∧∀name,W.lookIn name od=some (mA name):=by
 obtain⟨o,es,ep,ho,hd,hk,_,hm⟩:=n
 refine⟨o,ho,fun name=>?_⟩
 have e:=hm name
 unfold nsFind findBy at e
 rw[←Array.find?_toList]at e
 unfold W.lookIn
 rw[hd]
 dsimp only
 split
 ·rename_i y q
  rw[q]at e
  exact congrArg some e
 ·rename_i q
  rw[q]at e
  have a:es.toList.any (·.refKey)=false:=by
   rw[List.any_eq_false]
   intro y hy
   obtain⟨z,t,hkey⟩:=hk y (Array.mem_toList_iff.mp hy)
   simp[DictEntry.refKey,hkey]
  have a':¬es.toList.any (·.refKey)=true:=by rw[a];exact Bool.false_ne_true
  rw[if_neg a']
  exact congrArg some e
theorem Yo.look{h:Heap}{x dx C:Addr}{mA:Str→Option Value}(I:Yo h x dx C mA):∃od,W.InstAt h x (W.instObj C dx) C (some od)∧∀name,W.lookIn name od=some (mA name) :=
 let ⟨od,ho,hl⟩:=Tj I.ns
 ⟨od,⟨I.obj,rfl,rfl,ho⟩,hl⟩
section
variable{prog:Program}{w:World}{A:Around}{E:Value→Shared→Prop}{s:Shared}{K:W.Frag}{x dx C f:Addr}{mA:Str→Option Value}{name:Str}{v:Value}
theorem get_map{expr:Bool}{Q:Value→Shared→Prop}(X:K.In s.heap)(I:Yo s.heap x dx C mA)(hg:W.plainGet K C name=true)(hh:W.hasDictIn K C=true)
  (ha:W.findIn K (.ref C) name=some none) (hv:mA name=some v) (hv':W.handedIn v=true) (h:Q v {s with toks:=s.toks+1}) :
  wpAny (model prog w) A (getAttr (.ref x) name expr) Q E s:=by
 obtain⟨od,J,hl⟩:=I.look
 exact W.get_value X J (W.plainGet_of hg).1 (W.findObj_own hh ha rfl (by rw[hl,hv])) hv' h
theorem Adi{pl:Sem Bool}{Q:Value×List Value→Shared→Prop}(X:K.In s.heap)(I:Yo s.heap x dx C mA)(hg:W.plainGet K C name=true)
  (hf:W.findIn K (.ref C) name=some (some (.ref f))) (ht:W.isFn K (.ref f)=true) (hv:mA name=none) (h:Q (.ref f,[.ref x]) s) :
  wpAny (model prog w) A (getMethod (.ref x) name pl) Q E s:=by
 obtain⟨od,J,hl⟩:=I.look
 exact W.method_fn X J (W.plainGet_of hg).1 (W.plainGet_of hg).2 hf (beq_iff_eq.mp ht) (by show(W.lookIn name od).map (·.isSome)=some false;rw[hl,hv];rfl) h
theorem Agb{ns:List Str}{Q:Unit→Shared→Prop}(X:K.In s.heap)(I:Yo s.heap x dx C mA)
  (hs:W.findIn K (.ref C) "__setattr__"=some (some (.builtin "object.__setattr__"))) (hp:W.plainOver K C=true) (ht:W.takerIn K C name=some none) (hh:W.hasDictIn K C=true)
  (hw:PySem.Within mA ns) (hsz:ns.length≤sizeLine)
  (h:∀h',Yo h' x dx C (fun y=>if y=name then some v else mA y)→Heap.SameBut dx s.heap h'→Q () {s with heap:=h',toks:=s.toks+2}) :
  wpAny (model prog w) A (setAttr (.ref x) name v) Q E s:=by
 obtain⟨od,J,hl⟩:=I.look
 refine W.set_plain X J hs (W.osa_open (s:={s with toks:=s.toks+1}) (r:=none) X J hp ht fun b=>?_)
 obtain⟨cd,hc,hd'⟩:=W.any_some hh
 have hx:s.heap.get? x=some ⟨.ref C,some dx,.plain,#[]⟩:=I.obj
 refine wpAny_bind (wpAny_pure (wpAny_bind (wpAny_bind (wpAny_loadPart hx (wpAny_bind (W.Looks.here (s:={s with toks:=s.toks+1}) (W.looks_clsIn X hc) ?_))))))
 rw[hd']
 refine wpAny_pure (a:=some dx) (wpAny_bind (wpAny_pure (wpAny_bind ?_)))
 refine wpAny_nsSet1 (s:={s with toks:=s.toks+1}) I.ns fun h' hn2 hs2=>?_
 obtain⟨oD,esD,epD,hoD,hdD,hcD⟩:=hn2.count (PySem.Within.cons name v hw)
 refine wpAny_bind (wpAny_lookBehind hoD (by rw[hdD];exact pastItsLine_dict (Nat.le_trans hcD (by rw[List.length_cons];omega))) ?_)
 exact wpAny_pure (h _ ⟨(hs2.2 _ (Ne.symm I.ne)).trans I.obj,hn2,I.ne⟩ hs2)
theorem Vg{R:Result→Shared→Prop}{vs:List Value}{kw:List (Str×Value)}(X:K.In s.heap)(hm:W.makesIn K C=true)
  (hi:W.findIn K (.ref C) "__init__"=some (some (.ref f))) (hf:W.typeIn K (.ref f)=some (.type "function"))
  (h:codeAny (model prog w) (A.under (.builtin "type.__call__" ⟨.ref C::vs,kw⟩)) (.call (.ref f) ⟨.ref (s.heap.objs.size+1)::vs,kw⟩) (W.InitBack (s.heap.objs.size+1) R)
   {s with heap:=(s.heap.push W.emptyDict).push (W.instObj C s.heap.objs.size)}) :
  codeAny (model prog w) A (.call (.ref C) ⟨vs,kw⟩) R s:=by
 obtain⟨hh,g,d,t,os⟩:=s
 exact W.make_core (W.makes_of X hm) (W.looks_findIn X hi) (fun self=>W.bind_fn X self hf) (.inl rfl) h
end
def Ib(f:Str)(v:V):List (Str×V)→List (Str×V)
 | []=>[(f,v)]
 |(g,x)::r=>if g=f then(g,v)::r else(g,x)::Ib f v r
theorem Oq(f g:Str)(v:V):∀fs:List (Str×V),(Ib f v fs).lookup g=if g=f then some v else fs.lookup g
 | []=>by
  show List.lookup g [(f,v)]=_
  by_cases h:g=f
  ·have hb:(g==f)=true:=beq_iff_eq.mpr h
   simp only[List.lookup,hb,if_pos h]
  ·have hb:(g==f)=false:=beq_eq_false_iff_ne.mpr h
   simp only[List.lookup,hb,if_neg h]
 | (k,x)::r=>by
  have ih:=Oq f g v r
  rw[show Ib f v ((k,x)::r)=(if k=f then(k,v)::r else(k,x)::Ib f v r)from rfl]
  by_cases hk:k=f
  ·rw[if_pos hk]
   by_cases h:g=k
   ·have hb:(g==k)=true:=beq_iff_eq.mpr h
    simp only[List.lookup,hb,if_pos (h.trans hk)]
   ·have hb:(g==k)=false:=beq_eq_false_iff_ne.mpr h
    simp only[List.lookup,hb,if_neg (fun e:g=f=>h (e.trans hk.symm))]
  ·rw[if_neg hk]
   by_cases h:g=k
   ·have hb:(g==k)=true:=beq_iff_eq.mpr h
    simp only[List.lookup,hb,if_neg (fun e:g=f=>hk (h.symm.trans e))]
   ·have hb:(g==k)=false:=beq_eq_false_iff_ne.mpr h
    simp only[List.lookup,hb]
    exact ih
theorem N5(f:Str)(v:V):∀fs:List (Str×V),f∈(Ib f v fs).map (·.1)∧∀g,g∈fs.map (·.1)→g∈(Ib f v fs).map (·.1)
 | []=>⟨by simp[Ib],fun g h=>by simp at h⟩
 | (k,x)::r=>by
  obtain⟨i1,i2⟩:=N5 f v r
  rw[show Ib f v ((k,x)::r)=(if k=f then(k,v)::r else(k,x)::Ib f v r)from rfl]
  by_cases hk:k=f
  ·rw[if_pos hk]
   subst hk
   exact⟨by simp,fun g h=>by simpa using h⟩
  ·rw[if_neg hk]
   refine⟨?_,fun g h=>?_⟩
   ·rw[List.map_cons]
    exact List.mem_cons_of_mem _ i1
   ·rw[List.map_cons]at h ⊢
    rcases List.mem_cons.mp h with e|e
    ·exact List.mem_cons.mpr (.inl e)
    ·exact List.mem_cons_of_mem _ (i2 g e)
theorem Ow(f:Str)(v:V):∀fs:List (Str×V),(Ib f v fs).length≤fs.length+1
 | []=>by simp[Ib]
 | (k,x)::r=>by
  have ih:=Ow f v r
  rw[show Ib f v ((k,x)::r)=(if k=f then(k,v)::r else(k,x)::Ib f v r)from rfl]
  by_cases hk:k=f
  ·rw[if_pos hk,List.length_cons,List.length_cons];omega
  ·rw[if_neg hk,List.length_cons,List.length_cons];omega
theorem Mv.some_of{v:V}{o:Option Value}(r:Mv (some v) o):∃u,o=some u∧RelV v u:=by
 cases o with
 |none=>exact(show False from r).elim
 |some u=>exact⟨u,rfl,r⟩
theorem Mv.none_of{o:Option Value}(r:Mv none o):o=none:=by
 cases o with
 |none=>rfl
 |some u=>exact(show False from r).elim
theorem Tq{v:V}{u:Value}(r:RelV v u):W.handedIn u=true:=by
 cases v with
 |non=>cases(show u=Value.none from r);rfl
 |bl b=>cases(show u=Value.bool b from r);rfl
 |int i=>obtain⟨t,e⟩:=(show ∃t,u=Value.int i t from r);cases e;rfl
 |str x=>obtain⟨t,e⟩:=(show ∃t,u=Value.str x t from r);cases e;rfl
 |byt b=>obtain⟨t,e⟩:=(show ∃t,u=Value.bytes b t from r);cases e;rfl
 |flt b=>obtain⟨t,e⟩:=(show ∃t,u=Value.float b t from r);cases e;rfl
 |ref a=>cases(show u=Value.ref a from r);rfl
 |ty n=>cases(show u=Value.type n from r);rfl
section
variable{P:Program}{w:World}{H H':Hp}{h h':Heap}{a C dx:Addr}{fs fs':List (Str×V)}
theorem UJ(hok:HOk P w H h)(e:H a=some (.ins C dx fs)):∃mA,Yo h a dx C mA∧(∀f,Mv (fs.lookup f) (mA f))∧PySem.Within mA (fs.map (·.1))∧fs.length≤1000∧H dx=some (.own a):=by
 obtain⟨d,z,ne,ob,mA,n,r,q⟩:=(show Et P w H h a (.ins C dx fs)from hok a _ e)
 exact⟨mA,⟨ob,n,ne⟩,r,q,z,d⟩
end
structure Cls(K:W.Frag)(C:Addr):Prop where
 pg:W.plainGet K C Str.empty=true
 hd:W.hasDictIn K C=true
 po:W.plainOver K C=true
 sa:W.findIn K (.ref C) "__setattr__"=some (some (.builtin "object.__setattr__"))
theorem Cls.get{K:W.Frag}{C:Addr}(c:Cls K C)(f:Str):W.plainGet K C f=true:=c.pg
def Hh(K:W.Frag)(C:Addr)(f:Str):Prop:=W.findIn K (.ref C) f=some none
theorem Hh.taker{K:W.Frag}{C:Addr}{f:Str}(n:Hh K C f):W.takerIn K C f=some none:=by
 unfold W.takerIn
 rw[show W.findIn K (.ref C) f=some none from n]
 rfl
structure Meth(K:W.Frag)(C:Addr)(m:Str)(f:Addr):Prop where
 at_:W.findIn K (.ref C) m=some (some (.ref f))
 fn:W.isFn K (.ref f)=true
 kp:W.keepIn K (.ref f)=true
section
variable{X:Cx}{pins:List (Addr×Obj)}{σ:St}{H:Hp}{s:Shared}{a C dx:Addr}{fs:List (Str×V)}{f:Str}{v:V}{A:Around}{E:Value→Shared→Prop}
theorem Yc{b:Bool}{Q:Value→Shared→Prop}(I:Inv X pins σ H s)(e:H a=some (.ins C dx fs))(c:Cls X.K C)(n:Hh X.K C f)(l:fs.lookup f=some v)
  (h:∀u s',Inv X pins σ H s'→RelV v u→Q u s'):wpAny (model X.prog X.w) A (getAttr (.ref a) f b) Q E s:=by
 obtain⟨mA,O,r,_,_,_⟩:=UJ I.hok e
 obtain⟨u,hu,ru⟩:=Mv.some_of (v:=v) (o:=mA f) (by rw[←l];exact r f)
 exact get_map I.kIn O (c.get f) c.hd n hu (Tq ru) (h u _ (I.tok _) ru)
theorem X6{m:Str}{g:Addr}{pl:Sem Bool}{Q:Value×List Value→Shared→Prop}(I:Inv X pins σ H s)(e:H a=some (.ins C dx fs))(c:Cls X.K C)(k:Meth X.K C m g)(l:fs.lookup m=none)
  (h:Q (.ref g,[.ref a]) s):wpAny (model X.prog X.w) A (getMethod (.ref a) m pl) Q E s:=by
 obtain⟨mA,O,r,_,_,_⟩:=UJ I.hok e
 have hn:mA m=none:=Mv.none_of (by rw[←l];exact r m)
 exact Adi I.kIn O (c.get m) k.at_ k.fn hn h
theorem Xj{y:V}{u:Value}{Q:Unit→Shared→Prop}(I:Inv X pins σ H s)(e:H a=some (.ins C dx fs))(c:Cls X.K C)(n:Hh X.K C f)(hl:fs.length<1000)(ry:RelV y u)
  (h:∀s',Inv X pins σ (upd H a (.ins C dx (Ib f y fs))) s'→Q () s'):wpAny (model X.prog X.w) A (setAttr (.ref a) f u) Q E s:=by
 obtain⟨mA,O,r,wi,_,ho⟩:=UJ I.hok e
 have hz:(fs.map (·.1)).length≤sizeLine:=by rw[List.length_map,sizeLine_eq];omega
 refine Agb I.kIn O c.sa c.po n.taker c.hd wi hz fun h' O' sb=>h _ ?_
 have hd:∃o,h'.get? dx=some o:=let ⟨o,_,_,e',_⟩:=O'.ns;⟨o,e'⟩
 refine I.write (x:=a) (e:=dx) (by rw[e];exact True.intro) (.inr ho) (fun b q hb z=>(sb.2 b hb).trans z) hd ?_
 refine⟨by rw[Am O.ne];exact ho,?_,O.ne,O'.obj,_,O'.ns,fun g=>?_,fun g hg=>?_⟩
 ·have:=Ow f y fs;omega
 ·show Mv ((Ib f y fs).lookup g) (if g=f then some u else mA g)
  rw[Oq]
  by_cases q:g=f
  ·rw[if_pos q,if_pos q];exact ry
  ·rw[if_neg q,if_neg q];exact r g
 ·by_cases q:g=f
  ·rw[q];exact(N5 f y fs).1
  ·refine(N5 f y fs).2 g (wi g fun z=>hg ?_)
   show(if g=f then some u else mA g)=none
   rw[if_neg q];exact z
theorem Inv.made(I:Inv X pins σ H s):Inv X pins σ (upd (upd H s.heap.objs.size (.own (s.heap.objs.size+1))) (s.heap.objs.size+1) (.ins C s.heap.objs.size []))
  {s with heap:=(s.heap.push W.emptyDict).push (W.instObj C s.heap.objs.size)}:=by
 have e1:(s.heap.push W.emptyDict).get? s.heap.objs.size=some W.emptyDict:=Heap.get?_push_size s.heap rfl
 have e2:((s.heap.push W.emptyDict).push (W.instObj C s.heap.objs.size)).get? (s.heap.objs.size+1)=some (W.instObj C s.heap.objs.size):=by
  have:=Heap.get?_push_size (s.heap.push W.emptyDict) (o:=W.instObj C s.heap.objs.size) rfl
  rwa [Heap.size_push]at this
 have e3:(s.heap.push W.emptyDict).Ns s.heap.objs.size (fun _=>none):=⟨W.emptyDict,#[],_,e1,rfl,(fun e he=>absurd he (by simp)),fun _=>rfl⟩
 have I1:=I.laid (a:=s.heap.objs.size) (o:=.own (s.heap.objs.size+1)) (h':=s.heap.push W.emptyDict) (t':=s.toks) (fun b u q=>Heap.get?_push_of_some _ q) (Nat.le_refl _) ⟨_,e1⟩
 refine I1.laid (a:=s.heap.objs.size+1) (o:=.ins C s.heap.objs.size []) (t':=s.toks) (fun b u q=>Heap.get?_push_of_some _ q) (Nat.le_of_eq (Heap.size_push _ _)) ?_
 have ne:s.heap.objs.size≠s.heap.objs.size+1:=Nat.ne_of_lt (Nat.lt_succ_self _)
 refine⟨by rw[Am ne,Aw],Nat.zero_le _,ne,e2,fun _=>none,(Heap.Ns1.of_empty e3).at fun o q=>Heap.get?_push_of_some _ q,fun _=>True.intro,fun y hy=>absurd rfl hy⟩
theorem YS{prog:Program}{w:World}{env:Env}{e:Expr}{f:Str}{pos:Pos}{s:Shared}{Q:Value→Shared→Prop}(hb:attributeBase e f env (eval e env)=eval e env)
  (h:wpAny (model prog w) A (eval e env) (fun o s₁=>wpAny (model prog w) A (getAttr o f true) Q E s₁) E s):wpAny (model prog w) A (eval (.Attribute e f pos) env) Q E s :=
 Attribute_any_ h (by rw[arm_eval_Attribute,hb])
end
def AnO(K:W.Frag)(ta:TE)(f:Str):TE:=fun σ H Q=>ta σ H fun x H1=>∃a C dx fs v,x=.ref a∧H1 a=some (.ins C dx fs)∧Cls K C∧Hh K C f∧fs.lookup f=some v∧Q v H1
def AoI(K:W.Frag)(ta tv:TE)(f:Str):TS:=fun D σ H=>tv σ H fun y H1=>ta σ H1 fun x H2=>∃a C dx fs,x=.ref a∧H2 a=some (.ins C dx fs)∧Cls K C∧Hh K C f∧fs.length<1000 ∧
 D.nx σ (upd H2 a (.ins C dx (Ib f y fs)))
section
variable{X:Cx}{o e value:Expr}{f:Str}{pos pos' tpos:Pos}{ta tv:TE}
theorem Ajb(he:PE X e ta)(hb:attributeBase e f X.env (eval e X.env)=eval e X.env):PE X (.Attribute e f pos) (AnO X.K ta f):=by
 intro pins s σ H Q I h
 refine YS hb (thn (he pins s σ H _ I h) fun u s1 ⟨x,H1,I1,rx,a,C,dx,fs,v,ex,ea,c,n,l,q⟩=>?_)
 subst ex
 obtain rfl:u=Value.ref a:=rx
 exact Yc I1 ea c n l fun u' s2 I2 ru=>⟨v,H1,I2,ru,q⟩
theorem Yg(ha:PE X o ta)(hv:PE X value tv)(hs:swapsWith value (some (.Attribute o f pos')) pos.line X.env=pure false):PS X (.Assign [.Attribute o f pos'] value pos) (AoI X.K ta tv f):=by
 intro pins s σ H D I h
 refine plainObj_wpAny_Assign_Attribute (thn (hv pins s σ H _ I h) fun u s1 ⟨y,H1,I1,ry,q⟩=>thn (ha pins s1 σ H1 _ I1 q) fun ov s2 ⟨x,H2,I2,rx,a,C,dx,fs,ex,ea,c,n,l,q2⟩=>?_) hs
 subst ex
 obtain rfl:ov=Value.ref a:=rx
 exact Xj I2 ea c n l ry fun s3 I3=>⟨σ,_,I3,q2⟩
end
section
variable{X:Cx}{pins:List (Addr×Obj)}{σ:St}{H:Hp}{s:Shared}{A:Around}{E:Value→Shared→Prop}{Q:Value→Shared→Prop}{c:Value}{b:Bool}
end
structure Dd(k:Nat)(A:Around):Prop where
 hd:A.handled=none
 dp:A.depth+3*k+5<recursionLimit
 un:A.units+16*k+200<cLine
theorem Dd.mono{j k:Nat}{A:Around}(r:Dd k A)(h:j≤k):Dd j A:=⟨r.hd,by have:=r.dp;omega,by have:=r.un;omega⟩
theorem Dd.deeper{k:Nat}{A:Around}(r:Dd (k+1) A)(env:Env):Dd k (A.deeper env) :=
 ⟨r.hd,by have:=r.dp;show A.depth+1+3*k+5<_;omega,by have:=r.un;show A.units+3+16*k+200<_;omega⟩
theorem Yd{A:Around}{C:Addr}{us:List Value}{kw:List (Str×Value)}:(A.under (.builtin "type.__call__" ⟨.ref C::us,kw⟩)).depth=A.depth+1:=by
 first|rfl|simp[Around.under,Code.weight,Code.isCreation,Code.isGuard,Code.isCaller,Code.frames,Code.isFrame,guardIds]
theorem W8{A:Around}{C:Addr}{us:List Value}{kw:List (Str×Value)}:(A.under (.builtin "type.__call__" ⟨.ref C::us,kw⟩)).units=A.units+1:=by
 first|rfl|simp[Around.under,Code.cUnits,Code.frames,Code.isFrame]
theorem Dd.make{k:Nat}{A:Around}(r:Dd (k+1) A)(C:Addr)(us:List Value)(kw:List (Str×Value)):Dd k (A.under (.builtin "type.__call__" ⟨.ref C::us,kw⟩)) :=
 ⟨r.hd,by have:=r.dp;rw[Yd];omega,by have:=r.un;rw[W8];omega⟩
theorem Dd.depth{k:Nat}{A:Around}(r:Dd k A):A.depth<recursionLimit:=by have:=r.dp;omega
theorem Dd.units{k:Nat}{A:Around}(r:Dd k A):A.units+64<cLine:=by have:=r.un;omega
def Aia:TA:=fun _ H Q=>Q [] H
def Aku(ta:TE)(tr:TA):TA:=fun σ H Q=>ta σ H fun x H1=>tr σ H1 fun xs H2=>Q (x::xs) H2
section
variable{X:Cx}{e:Expr}{es:List Expr}{te:TE}{t:TA}{pos:Pos}
theorem T5:PA X [] Aia:=fun _ _ _ _ H Q I h=>Calls.spliced_nil ⟨[],H,I,.nil,h⟩
theorem Hu(ha:PE X e te)(hr:PA X es t)(hs:starEach (e::es) X.env=(false,eval e X.env)::starEach es X.env:=by rfl):PA X (e::es) (Aku te t):=by
 intro pos pins s σ H Q I h
 rw[hs]
 show wpAny _ _ (spliced ((false,eval e X.env)::backTo pos (starEach es X.env))) _ _ s
 refine Calls.spliced_cons (thn (ha pins s σ H _ I h) fun u s1 ⟨x,H1,I1,r1,q1⟩=>?_)
 exact thn (hr pos pins s1 σ H1 _ I1 q1) fun us s2 ⟨xs,H2,I2,r2,q2⟩=>⟨x::xs,H2,I2,.cons r1 r2,q2⟩
def AoC(t:TA):TE:=fun σ H Q=>t σ H fun xs H1=>xs.length≤sizeLine∧∀p,H1 p=none→Q (.ref p) (upd H1 p (.tup xs))
def Anw(t:TA):TE:=fun σ H Q=>t σ H fun xs H1=>xs.length≤sizeLine∧∀p,H1 p=none→Q (.ref p) (upd H1 p (.lst xs))
theorem AhV{x1}(h:PA X es t):PE X (.Tuple es x1 pos) (AoC t):=by
 intro pins s σ H Q I hq
 refine wpAny_Tuple_spliced (thn (h pos pins s σ H _ I hq) fun us s1 ⟨xs,H1,I1,r,z,q⟩=>⟨by rw[←r.length];exact z,?_⟩)
 have hf:H1 s1.heap.objs.size=none:=I1.hok.fresh (Nat.le_refl _)
 refine⟨.ref s1.heap.objs.size,upd H1 s1.heap.objs.size (.tup xs),I1.laid (t':=s1.toks) (fun b u e=>Heap.get?_push_of_some _ e) (Nat.le_refl _) ?_,rfl,q _ hf⟩
 exact⟨z,us,r,⟨_,Heap.get?_push_size _ rfl,rfl,_,rfl⟩⟩
theorem XF(h:PA X es t):PE X (.List es pos) (Anw t):=by
 intro pins s σ H Q I hq
 refine wpAny_List_spliced (thn (h pos pins s σ H _ I hq) fun us s1 ⟨xs,H1,I1,r,z,q⟩=>⟨by rw[←r.length];exact z,?_⟩)
 have hf:H1 s1.heap.objs.size=none:=I1.hok.fresh (Nat.le_refl _)
 refine⟨.ref s1.heap.objs.size,upd H1 s1.heap.objs.size (.lst xs),I1.laid (t':=s1.toks) (fun b u e=>Heap.get?_push_of_some _ e) (Nat.le_refl _) ?_,rfl,q _ hf⟩
 exact⟨z,us,0,r,Heap.get?_push_size _ rfl⟩
end
abbrev Sp:=List V→Hp→VK→XK→Prop
abbrev CXT:=List Env→Hp→Shared→XK→Value→Shared→Prop
structure Xz(P:Program)(w:World)(K:W.Frag)(mg:Str→Option Value)(base:Heap)(A:Around)(outer:List Env)(s:Shared)(H:Hp):Prop where
 frames:A.frames=some outer
 mod:Mod K mg base
 bs:∀b o,base.get? b=some o→s.heap.get? b=some o∧H b=none
 bsz:base.objs.size≤s.heap.objs.size
 oY:s.heap.FunFrames base outer
 frf:∀b∈frs outer,H b=none
 hok:HOk P w H s.heap
 bare:AllBare s.gens
def CE(outer:List Env)(P:Program)(w:World)(H:Hp)(s:Shared)(Q:VK)(u:Value)(s':Shared):Prop :=
 ∃v H',s'.os=s.os∧AllBare s'.gens∧Un (frs outer) [] H H' s.heap s'.heap∧HOk P w H' s'.heap∧RelV v u∧Q v H'
def CR(CX:CXT)(outer:List Env)(P:Program)(w:World)(H:Hp)(s:Shared)(Q:VK)(E:XK)(r:Result)(s':Shared):Prop :=
 match r with
 |.ok (.ret u)=>CE outer P w H s Q u s'
 |.ok _=>False
 |.error e=>CX outer H s E e s'
structure El(P:Program)(w:World)(K:W.Frag)(mg:Str→Option Value)(base:Heap)(CX:CXT)(k:Nat)(f:Addr)(fd:FuncData)(ps:List Str)(sp:Sp):Prop where
 len:∀vs H Q E,sp vs H Q E→vs.length=ps.length
 run:∀(A:Around)(outer:List Env)(s:Shared)(H:Hp)(args:Args)(us:List Value)(vs:List V)(Q:VK)(E:XK),Dd k A→Xz P w K mg base A outer s H→BindsTo s fd args (ps.zip us)→Vals vs us→sp vs H Q E →
  codeAny (model P w) A (.call (.ref f) args) (CR CX outer P w H s Q E) s
theorem Xz.make{P:Program}{w:World}{K:W.Frag}{mg:Str→Option Value}{base:Heap}{A:Around}{outer:List Env}{s:Shared}{H:Hp}(e:Xz P w K mg base A outer s H)(C:Addr)(us:List Value)(kw:List (Str×Value)) :
  Xz P w K mg base (A.under (.builtin "type.__call__" ⟨.ref C::us,kw⟩)) outer s H:=⟨by first|exact e.frames|(simpa [Around.under,Code.envs,Code.isFrame,pushEnvs] using e.frames),e.mod,e.bs,e.bsz,e.oY,e.frf,e.hok,e.bare⟩
section
variable{X:Cx}{pins:List (Addr×Obj)}{σ:St}{H:Hp}{s s':Shared}
theorem Inv.env0(I:Inv X pins σ H s):Xz X.prog X.w X.K X.mg X.base X.A X.stack s H :=
 ⟨I.ok.frames,I.ok.mod,I.bs,Nat.le_trans I.ok.bsz I.sz,I.stack,I.yQ,I.hok,I.bare⟩
theorem Inv.after{Q:VK}{u:Value}(I:Inv X pins σ H s)(h:CE X.stack X.prog X.w H s Q u s'):EP X pins σ Q u s':=by
 obtain⟨v,H',os,bare,un,hok,r,q⟩:=h
 obtain⟨hh,g,d,t,os'⟩:=s'
 obtain rfl:os'=s.os:=os
 exact⟨v,H',I.call (h':=hh) (g':=g) (d':=d) (t':=t) (ch:=[]) un hok bare (fun b z=>absurd z (by simp)),r,q⟩
end
def AdJ(sp:Sp)(dvs:List V)(E:XK)(t:TA):TE:=fun σ H Q=>t σ H fun vs H1=>sp (vs++dvs) H1 Q E
def AmB(C:Addr)(sp:Sp)(dvs:List V)(E:XK)(t:TA):TE:=fun σ H Q=>t σ H fun vs H1=>∀x dx,H1 x=none→H1 dx=none→dx≠x →
 sp (.ref x::(vs++dvs)) (upd (upd H1 dx (.own x)) x (.ins C dx [])) (fun v H2=>v=.non∧Q (.ref x) H2) E
def Binds(K:W.Frag)(fd:FuncData)(ps:List Str)(ds:List Value):Prop :=
 ∀(s:Shared)(us:List Value),K.In s.heap→(us++ds).length=ps.length→BindsTo s fd ⟨us,[]⟩ (ps.zip (us++ds))
theorem Binds.all{K:W.Frag}{fd:FuncData}{ps:List Str}(h:∀us:List Value,us.length=ps.length→bindArgs fd ⟨us,[]⟩=pure (ps.zip us)):Binds K fd ps []:=fun s us _ hl=>by
 rw[List.append_nil]at hl ⊢
 exact .of_eq (h us hl)
def Passes(CX:CXT)(X:Cx)(E:XK):Prop:=∀(pins:List (Addr×Obj))(σ:St)(H:Hp)(s:Shared)(e:Value)(s':Shared),Inv X pins σ H s→CX X.stack H s E e s'→X.xe e s'
section
variable{X:Cx}{CX:CXT}{k:Nat}{f C:Addr}{fd:FuncData}{ps:List Str}{sp:Sp}{dvs:List V}{ds:List Value}{E:XK}{x m:Str}{p pos apos:Pos}{e o:Expr}{es:List Expr}{ta:TE}{t:TA}
theorem Ub{pins:List (Addr×Obj)}{σ:St}{H:Hp}{s:Shared}{Q:VK}{us:List Value}{vs:List V}(F:El X.prog X.w X.K X.mg X.base CX k f fd ps sp)(hr:Dd k X.A)(hb:Binds X.K fd ps ds)(hd:Vals dvs ds)(hx:Passes CX X E)
  (I:Inv X pins σ H s) (r:Vals vs us) (h:sp (vs++dvs) H Q E):wpAny (model X.prog X.w) X.A (call (.ref f) us) (EP X pins σ Q) X.xe s:=by
 have r2:Vals (vs++dvs) (us++ds):=r.append hd
 have hl:(us++ds).length=ps.length:=by rw[←r2.length];exact F.len _ _ _ _ h
 refine wpAny_call (codeAny_mono (F.run X.A X.stack s H ⟨us,[]⟩ (us++ds) (vs++dvs) Q E hr I.env0 (hb s us I.kIn hl) r2 h) fun r s' hq=>?_)
 cases r with
 |error e=>exact hx pins σ H s e s' I hq
 | ok fl =>
  cases fl with
  |ret u=>exact I.after hq
  |next=>exact False.elim hq
  |brk=>exact False.elim hq
  |cont=>exact False.elim hq
theorem Afc(F:El X.prog X.w X.K X.mg X.base CX k f fd ps sp)(hr:Dd k X.A)(hg:Gl X x)(hm:X.mg x=some (.ref f))(hk:W.keepIn X.K (.ref f)=true)(hb:Binds X.K fd ps ds)(hd:Vals dvs ds)(hx:Passes CX X E)
  (ha:PA X (e::es) t) (hdb:(x==("__debug__":Str))=false:=by decide) (he:starEach (e::es) X.env=(false,eval e X.env)::starEach es X.env:=by rfl) (hpl:(backTo pos (starEach es X.env)).any (·.1)=false:=by rfl) :
  PE X (.Call (.Name x p) (e::es) [] pos) (AdJ sp dvs E t):=by
 intro pins s σ H Q I h
 refine wpAny_Call_Name_kw (Hr I hg hm ?_ hdb)
 refine W.callWith_K (h₀:=X.base) I.ok.mod.kin hk (thn (ha pos pins s σ H _ I h) fun us s1 ⟨vs,H1,I1,r,q⟩=>⟨I1.kIn,?_⟩) he hpl
 exact Ub F hr hb hd hx I1 r q
theorem AdN(F:El X.prog X.w X.K X.mg X.base CX k f fd ps sp)(hr:Dd k X.A)(hg:Gl X x)(hm:X.mg x=some (.ref f))(hk:W.keepIn X.K (.ref f)=true)(hb:Binds X.K fd ps ds)(hd:Vals dvs ds)(hx:Passes CX X E)
  (hdb:(x==("__debug__":Str))=false:=by decide):PE X (.Call (.Name x p) [] [] pos) (AdJ sp dvs E Aia):=by
 intro pins s σ H Q I h
 refine wpAny_Call_Name_kw (Hr I hg hm ?_ hdb)
 exact W.callWith_K0 I.kIn hk (Ub (us:=[]) F hr hb hd hx I .nil h)
structure Mk(K:W.Frag)(C f:Addr):Prop where
 makes:W.makesIn K C=true
 init:W.findIn K (.ref C) "__init__"=some (some (.ref f))
 fn:W.isFn K (.ref f)=true
 kp:W.keepIn K (.ref C)=true
theorem AdH{pins:List (Addr×Obj)}{σ:St}{H:Hp}{s:Shared}{Q:VK}{us:List Value}{vs:List V}(M:Mk X.K C f)(F:El X.prog X.w X.K X.mg X.base CX k f fd ps sp)(hr:Dd (k+1) X.A)(hb:Binds X.K fd ps ds)(hd:Vals dvs ds)
  (hx:Passes CX X E) (I:Inv X pins σ H s) (r:Vals vs us)
  (h:∀x dx,H x=none→H dx=none→dx≠x→sp (.ref x::(vs++dvs)) (upd (upd H dx (.own x)) x (.ins C dx [])) (fun v H2=>v=.non∧Q (.ref x) H2) E) :
  wpAny (model X.prog X.w) X.A (call (.ref C) us) (EP X pins σ Q) X.xe s:=by
 have hq:=h (s.heap.objs.size+1) s.heap.objs.size (I.hok.fresh (Nat.le_succ _)) (I.hok.fresh (Nat.le_refl _)) (Nat.ne_of_lt (Nat.lt_succ_self _))
 have I2:=Inv.made (C:=C) I
 have r2:Vals (V.ref (s.heap.objs.size+1)::(vs++dvs)) (Value.ref (s.heap.objs.size+1)::(us++ds)):=.cons rfl (r.append hd)
 have hl:(Value.ref (s.heap.objs.size+1)::us++ds).length=ps.length:=by
  have e:=r2.length
  rw[F.len _ _ _ _ hq]at e
  exact e.symm
 refine wpAny_call (Vg (f:=f) I.kIn M.makes M.init (beq_iff_eq.mp M.fn) (codeAny_mono (F.run _ X.stack _ _ ⟨Value.ref (s.heap.objs.size+1)::us,[]⟩ (Value.ref (s.heap.objs.size+1)::(us++ds)) _ _ E (hr.make C us [])
  (I2.env0.make C us []) (hb _ (Value.ref (s.heap.objs.size+1)::us) I2.kIn hl) r2 hq) fun r s' hq'=>?_))
 cases r with
 |error e=>exact hx pins σ _ _ e s' I2 hq'
 | ok fl =>
  cases fl with
  | ret u =>
   obtain⟨v,H',I3,rv,ev,q3⟩:=I2.after hq'
   subst ev
   exact⟨rv,⟨V.ref (s.heap.objs.size+1),H',I3,rfl,q3⟩⟩
  |next=>exact False.elim hq'
  |brk=>exact False.elim hq'
  |cont=>exact False.elim hq'
theorem AfN(M:Mk X.K C f)(F:El X.prog X.w X.K X.mg X.base CX k f fd ps sp)(hr:Dd (k+1) X.A)(hg:Gl X x)(hm:X.mg x=some (.ref C))(hb:Binds X.K fd ps ds)(hd:Vals dvs ds)(hx:Passes CX X E)
  (ha:PA X (e::es) t) (hdb:(x==("__debug__":Str))=false:=by decide) (he:starEach (e::es) X.env=(false,eval e X.env)::starEach es X.env:=by rfl) (hpl:(backTo pos (starEach es X.env)).any (·.1)=false:=by rfl) :
  PE X (.Call (.Name x p) (e::es) [] pos) (AmB C sp dvs E t):=by
 intro pins s σ H Q I h
 refine wpAny_Call_Name_kw (Hr I hg hm ?_ hdb)
 refine W.callWith_K (h₀:=X.base) I.ok.mod.kin M.kp (thn (ha pos pins s σ H _ I h) fun us s1 ⟨vs,H1,I1,r,q⟩=>⟨I1.kIn,?_⟩) he hpl
 exact AdH M F hr hb hd hx I1 r q
end
section
variable{X:Cx}{CX:CXT}{k:Nat}{f C:Addr}{fd:FuncData}{ps ks:List Str}{sp:Sp}{E:XK}{x m:Str}{p pos apos kpos:Pos}{e o:Expr}{es:List Expr}{kws:List Keyword}{te ta:TE}{t tk:TA}{nm:Option Str}
variable{g:List Value→List Value→List Value}{gV:List V→List V→List V}
end
structure Ak(N P:List Str)(sc:Scope):Prop where
 kind:sc.kind=.function
 co:sc.isCoroutine=false
 gen:sc.isGenerator=false
 nd:N.Nodup
 pre:N.take P.length=P
 par:∀x∈P,sc.names.lookup x=some .local∨sc.names.lookup x=some .cell
 aeO:∀y∈sc.names,y.2≠.free
theorem Td{kindOf:Str→Option NameKind}{x:Str}:∀{binds:List (Str×Value)} {m:Str→Option Value},(∀v,(x,v)∉binds)→bindL kindOf binds m x=m x
 | [],_,_=>rfl
 | (n,v)::r,m,h=>by
  unfold bindL
  rw[Td fun w hw=>h w (List.mem_cons_of_mem _ hw)]
  split
  ·have:x≠n:=by rintro rfl;exact h v List.mem_cons_self
   simp[this]
  ·rfl
theorem Tw{kindOf:Str→Option NameKind}{x:Str}:∀{binds:List (Str×Value)} {m:Str→Option Value},(∀v,(x,v)∉binds)→bindC kindOf binds m x=m x
 | [],_,_=>rfl
 | (n,v)::r,m,h=>by
  unfold bindC
  rw[Tw fun w hw=>h w (List.mem_cons_of_mem _ hw)]
  split
  ·rfl
  ·have:x≠n:=by rintro rfl;exact h v List.mem_cons_self
   simp[this]
theorem S7{kindOf:Str→Option NameKind}{x:Str}{v:Value}:∀{P:List Str} {vs:List Value} {i:Nat} {m:Str→Option Value},P.Nodup→P[i]? = some x→vs[i]? = some v→kindOf x=some .local →
  bindL kindOf (P.zip vs) m x=some v
 | [],_,_,_,_,h,_,_=>by simp at h
 |_::_,[],_,_,_,_,h,_=>by simp at h
 | p::P,w::vs,0,m,nd,h1,h2,hk=>by
  simp at h1 h2;subst h1;subst h2
  show bindL kindOf ((p,w)::P.zip vs) m p=_
  unfold bindL
  rw[Td fun v hv=>(List.nodup_cons.mp nd).1 (List.of_mem_zip hv).1,if_pos hk]
  simp
 | p::P,w::vs,i+1,m,nd,h1,h2,hk=>by
  show bindL kindOf ((p,w)::P.zip vs) m x=_
  unfold bindL
  exact S7 (i:=i) (List.nodup_cons.mp nd).2 (by simpa using h1) (by simpa using h2) hk
theorem Tc{kindOf:Str→Option NameKind}{x:Str}{v:Value}:∀{P:List Str} {vs:List Value} {i:Nat} {m:Str→Option Value},P.Nodup→P[i]? = some x→vs[i]? = some v→kindOf x≠some .local →
  bindC kindOf (P.zip vs) m x=some v
 | [],_,_,_,_,h,_,_=>by simp at h
 |_::_,[],_,_,_,_,h,_=>by simp at h
 | p::P,w::vs,0,m,nd,h1,h2,hk=>by
  simp at h1 h2;subst h1;subst h2
  show bindC kindOf ((p,w)::P.zip vs) m p=_
  unfold bindC
  rw[Tw fun v hv=>(List.nodup_cons.mp nd).1 (List.of_mem_zip hv).1,if_neg hk]
  simp
 | p::P,w::vs,i+1,m,nd,h1,h2,hk=>by
  show bindC kindOf ((p,w)::P.zip vs) m x=_
  unfold bindC
  exact Tc (i:=i) (List.nodup_cons.mp nd).2 (by simpa using h1) (by simpa using h2) hk
def start(N:List Str)(vs:List V):St:=vs.map some++List.replicate (N.length-vs.length) none
def RD(CX:CXT)(P:Program)(w:World)(K:W.Frag)(mg:Str→Option Value)(base:Heap)(N:List Str)(qual:Str)(scope:Scope)(f:Addr)(cd:Value)(A:Around)(outer:List Env)(s:Shared)(H:Hp)(E:XK):Cx where
 prog:=P
 w:=w
 K:=K
 mg:=mg
 base:=base
 A:=A.deeper (envOfC qual scope s.heap.objs.size f cd)
 N:=N
 s₀:=s
 H₀:=H
 env:=envOfC qual scope s.heap.objs.size f cd
 outer:=outer
 stack:=envOfC qual scope s.heap.objs.size f cd::outer
 ex:=[]
 calm:=true
 fn:=fun _=>true
 pn:=[]
 xe:=fun e s'=>wpAny (model P w) (A.deeper (envOfC qual scope s.heap.objs.size f cd)) (leaving (envOfC qual scope s.heap.objs.size f cd) e) (fun _ s''=>CX outer H s E e s'') (fun e' s''=>CX outer H s E e' s'') s'
theorem V3{sc:Scope}{n:Nat}{x:Str}(h:sc.names.lookup x=some .cell):∃c,(cellsFrom n sc.names []).lookup x=some c:=by
 have q:=W.cellsFrom_some sc.names n [] (.inl h)
 exact Option.isSome_iff_exists.mp q
theorem Abw{CX:CXT}{P:Program}{w:World}{K:W.Frag}{mg:Str→Option Value}{base:Heap}{N ps:List Str}{qual:Str}{scope:Scope}{f:Addr}{cd:Value}{A:Around}{outer:List Env}{s s1:Shared}{H:Hp}{E:XK}{us:List Value}{vs:List V}
  (S:Ak N ps scope) (hd:A.handled=none) (e0:Xz P w K mg base A outer s H) (hl:vs.length=ps.length) (r:Vals vs us)
  (x:InCallC s s.heap.objs.size (bindL (envOfC qual scope s.heap.objs.size f cd).kindOf (ps.zip us) fun _=>none) (cellsFrom (s.heap.objs.size+1) scope.names []) (bindC (envOfC qual scope s.heap.objs.size f cd).kindOf (ps.zip us) fun _=>none) s1) :
  Inv (RD CX P w K mg base N qual scope f cd A outer s H E) [] (start N vs) H s1:=by
 have hpl:ps.length≤N.length:=by have:=congrArg List.length S.pre;rw[List.length_take]at this;omega
 obtain⟨h1,tk,rfl,hk⟩:=x.done
 have noA:∀b:Addr,b∉(RD CX P w K mg base N qual scope f cd A outer s H E).ex:=fun b z=>absurd (show b∈([]:List Addr)from z) (by simp)
 refine⟨⟨e0.mod,S.kind,rfl,rfl,Nat.le_refl _,fun y z c h1 h2=>?_,fun y hy=>?_,fun y c _ h=>?_,fun _=>hd,Around.frames_deeper e0.frames,.inr ⟨rfl,rfl⟩,fun b z=>absurd z (noA b),e0.bs,e0.bsz,fun b _ _=>noA b,fun b z=>absurd z (noA b),e0.oY,e0.frf⟩,
  rfl,e0.bare,Un.kept hk,⟨_,x.toInCall.ns,fun i y v h1 h2 h3=>?_⟩,fun y c h=>⟨_,x.cell y c h⟩,e0.hok.fresh (Nat.le_refl _),fun y c h=>?_,fun p hp=>absurd (show p∈([]:List (Addr×Obj))from hp) (by simp),e0.hok.kept hk,?_⟩
 ·exact name_of_addr x.apart (PySem.mem_of_lookup h1) (PySem.mem_of_lookup h2)
 ·have hy:scope.names.lookup y=some .cell∨scope.names.lookup y=some .free:=hy
  rcases hy with hy|hy
  ·exact V3 hy
  ·exact absurd rfl (S.aeO _ (PySem.mem_of_lookup hy))
 ·exact Nat.le_of_lt (x.above y c (PySem.mem_of_lookup h))
 ·have hi:i<vs.length:=by
   unfold start at h2
   by_cases hi:i<vs.length
   ·exact hi
   ·rw[List.getElem?_append_right (by simpa using hi)]at h2
    rw[List.getElem?_replicate]at h2
    split at h2<;>cases h2
  have ha:vs[i]? = some v:=by
   unfold start at h2
   rw[List.getElem?_append_left (by simpa using hi),List.getElem?_map]at h2
   cases e:vs[i]? with
   |none=>rw[e]at h2;cases h2
   |some a=>rw[e]at h2;cases h2;rfl
  obtain⟨u,hu,rv⟩:=r.get ha
  have hp:ps[i]? = some y:=by
   rw[←S.pre,List.getElem?_take_of_lt (by omega)];exact h1
  have ndP:ps.Nodup:=by rw[←S.pre];exact S.nd.sublist (List.take_sublist _ _)
  refine⟨u,rv,?_⟩
  rcases S.par y (List.mem_of_getElem? hp)with k|k
  ·exact .inl ⟨k,S7 ndP hp hu k⟩
  ·obtain⟨c,e⟩:=V3 (n:=s.heap.objs.size+1) k
   refine .inr ⟨.inl k,c,e,?_⟩
   have q:=x.cell y c e
   rw[Tc ndP hp hu (by show scope.names.lookup y≠_;rw[k];decide)]at q
   exact q
 ·exact e0.hok.fresh (Nat.le_of_lt (x.above y c (PySem.mem_of_lookup h)))
 ·unfold start
  show _=N.length
  rw[List.length_append,List.length_map,List.length_replicate]
  omega
theorem Acp{CX:CXT}{P:Program}{w:World}{K:W.Frag}{mg:Str→Option Value}{base:Heap}{k:Nat}{f:Addr}{name qual:Str}{params:Arguments}{body:List Stmt}{scope:Scope}{dV kV doc pm cdv ct oc:Value}{an od:Option Addr}
  {osl:Array (Option Value)} {N ps:List Str} {sp:Sp} (lk:K.lookup f=some ⟨oc,od,.func (W.fnOf name qual params body scope dV kV doc pm an cdv ct),osl⟩) (hcd:W.codeIn K cdv qual=true) (S:Ak N ps scope)
  (len:∀vs H Q E,sp vs H Q E→vs.length=ps.length)
  (hbody:∀(A:Around)(outer:List Env)(s:Shared)(H:Hp)(vs:List V)(Q:VK)(E:XK),Dd k (A.deeper (envOfC qual scope s.heap.objs.size f cdv))→sp vs H Q E →
   ∃t,PSs (RD CX P w K mg base N qual scope f cdv A outer s H E) body t∧t {nx:=fun _ H'=>Q .non H',rt:=Q} (start N vs) H) :
  El P w K mg base CX (k+1) f (W.fnOf name qual params body scope dV kV doc pm an cdv ct) ps sp:=by
 refine⟨len,fun A outer s H args us vs Q E hr e0 hb r hsp=>?_⟩
 have hl:=len _ _ _ _ hsp
 have KX:K.In s.heap:=e0.mod.kin.keeps fun b o e=>(e0.bs b o e).1
 have lim:s.heap.NoLimit:=e0.mod.nolimit.keeps fun b o e=>(e0.bs b o e).1
 have hkind:∀y∈ps.zip us,scope.names.lookup y.1=some .local∨(scope.names.lookup y.1=some .cell∧((cellsFrom (s.heap.objs.size+1) scope.names []).lookup y.1).isSome=true):=fun⟨n,v⟩ hy=>by
  rcases S.par n (List.of_mem_zip hy).1 with q|q
  ·exact .inl q
  ·exact .inr ⟨q,W.cellsFrom_some _ _ _ (.inl q)⟩
 refine codeAny_call_function hr.depth (KX _ _ lk) rfl S.co S.gen rfl (W.codeRec_of KX hcd) (hb _ _ _ _ ?_)
 refine wpAny_newFunctionEnv_cells S.kind hkind fun env he s1 x=>?_
 subst he
 refine⟨lim.keeps x.toInCall.keep,codeAny_func ?_⟩
 obtain⟨t,ht,hq⟩:=hbody A outer s H vs Q E (hr.deeper _) hsp
 have I:Inv (RD CX P w K mg base N qual scope f cdv A outer s H E) [] (start N vs) H s1:=Abw S hr.hd e0 hl r x
 refine wpAny_mono (ht [] s1 (start N vs) H _ I hq) (fun fl s' hs=>?_) fun e s' hs=>hs
 have fin:∀{σ':St} {H':Hp} {v:V} {u:Value},Inv (RD CX P w K mg base N qual scope f cdv A outer s H E) [] σ' H' s'→RelV v u→Q v H'→CE outer P w H s Q u s' :=
  fun{σ' H' v u} J rv q=>⟨v,H',J.os,J.bare,J.base,J.hok,rv,q⟩
 cases fl with
 | ret u =>
  obtain⟨v,σ',H',J,rv,q⟩:=hs
  exact fin J rv q
 | next =>
  obtain⟨σ',H',J,q⟩:=hs
  exact fin (v:=V.non) (u:=Value.none) J rfl q
 | brk =>
  obtain⟨_,_,_,q⟩:=hs
  exact False.elim q
 | cont =>
  obtain⟨_,_,_,q⟩:=hs
  exact False.elim q
section
variable{X:Cx}{x:Str}{p pos:Pos}{e:Expr}{es:List Expr}{t:TA}{id T:String}{r:List V→Hp→VK→Prop}
def tCB(r:List V→Hp→VK→Prop)(t:TA):TE:=fun σ H Q=>t σ H fun vs H1=>r vs H1 Q
theorem Wy(hc:J2 X (.builtin id) r)(hg:Gl X x)(hm:X.mg x=none)(hv:bootBuiltins x=some (.builtin id))(ha:PA X (e::es) t)(hn:x≠"__name__":=by decide)(hdb:(x==("__debug__":Str))=false:=by decide)
  (he:starEach (e::es) X.env=(false,eval e X.env)::starEach es X.env:=by rfl) (hpl:(backTo pos (starEach es X.env)).any (·.1)=false:=by rfl):PE X (.Call (.Name x p) (e::es) [] pos) (tCB r t):=by
 intro pins s σ H Q I h
 refine wpAny_Call_Name_kw (Nx I hg hm hv ?_ hn hdb)
 exact PyProof.Rows.callWith_builtin1 (thn (ha pos pins s σ H _ I h) fun us s1 ⟨vs,H1,I1,r1,q1⟩=>hc pins s1 σ H1 vs us Q I1 r1 q1) he hpl
theorem Abx(hc:J2 X (.type T) r)(hg:Gl X x)(hm:X.mg x=none)(hv:bootBuiltins x=some (.type T))(ha:PA X (e::es) t)(hn:x≠"__name__":=by decide)(hdb:(x==("__debug__":Str))=false:=by decide)
  (he:starEach (e::es) X.env=(false,eval e X.env)::starEach es X.env:=by rfl) (hpl:(backTo pos (starEach es X.env)).any (·.1)=false:=by rfl):PE X (.Call (.Name x p) (e::es) [] pos) (tCB r t):=by
 intro pins s σ H Q I h
 refine wpAny_Call_Name_kw (Nx I hg hm hv ?_ hn hdb)
 exact PyProof.Rows.callWith_type1 (thn (ha pos pins s σ H _ I h) fun us s1 ⟨vs,H1,I1,r1,q1⟩=>hc pins s1 σ H1 vs us Q I1 r1 q1) he hpl
end
end L2
namespace HT
open PySem PyProof.Rows
def lexLt:List Int→List Int→Bool
 | [],[]=>false
 | [],_::_=>true
 |_::_,[]=>false
 |x::xs,y::ys=>if x=y then lexLt xs ys else decide (x<y)
theorem Jw(x y:Int)(xs ys:List Int):lexLt (x::xs) (y::ys)=if x=y then lexLt xs ys else decide (x<y):=rfl
theorem IV:lexLt [] []=false:=rfl
theorem Qu(y:Int)(ys:List Int):lexLt [] (y::ys)=true:=rfl
theorem Qo(x:Int)(xs:List Int):lexLt (x::xs) []=false:=rfl
theorem Aem(A:Around)(s:Shared)(a:Int)(t:Tok)(c:Int)(u:Tok):∃e,SeqAt.EqAt A s (.int a t) (.int c u) e∧(e=true↔a=c) :=
 ⟨(a==c),SeqAt.EqAt.int_int a t c u,by simp⟩
theorem Adm(A:Around)(s:Shared)(a:Int)(t:Tok)(c:Int)(u:Tok)(prog:Program)(w:World)(E:Value→Shared→Prop)(Q:Value→Shared→Prop)(h:Q (.bool (decide (a<c))) s) :
  wpAny (model prog w) A (richCompare .Lt (.int a t) (.int c u)) Q E s :=
 (PyProof.Rows.lt_int h:wpAny (model prog w) A (compareOp .Lt (.int a t) (.int c u)) Q E s)
section
open PySem.SeqAt
open PySem.AutoSeq1 (wpAny_loadPart')
open PySem.MeetsSeq PySem.MeetsSeq2 PySem.MeetsSeq3
theorem RL(l b:Addr)(items items2:Array Value)(n n2:Nat)(dd dd2:Option Addr)(sl sl2:Array (Option Value))(ns ms:List Int)(hi:IntsAre items.toList ns)(hj:IntsAre items2.toList ms) :
  Meets (Builtin.«tuple.__lt__» ⟨[.ref l,.ref b],[]⟩)
   (fun _ R s=>s.heap.get? l=some {cls:=.type "tuple",dict:=dd,data:=.seq items n,slots:=sl}∧s.heap.get? b=some {cls:=.type "tuple",dict:=dd2,data:=.seq items2 n2,slots:=sl2} ∧
    R (.ok (.ret (.bool (lexLt ns ms)))) s) :=
 .of_wp fun prog w A R s h=>by
  obtain⟨hp,g,d,tk,os⟩:=s;obtain⟨hl,hb,h⟩:=h
  have f2:=AutoSeq1.sub_tuple_tuple
  have z1:items.size=ns.length:=by rw[←hi.length];simp
  have z2:items2.size=ms.length:=by rw[←hj.length];simp
  wp_walk using wpAny_loadPart' hl,wpAny_loadPart' hb,wpAny_forIn_list _ (fun rest b s'=>b.1=none∧s'=⟨hp,g,d,tk,os⟩∧∃(vs ws:List Value)(ns' ms':List Int),rest=vs.zip ws ∧
   IntsAre vs ns'∧IntsAre ws ms'∧ns'.length+items2.size=ms'.length+items.size∧R (.ok (.ret (.bool (lexLt ns' ms')))) ⟨hp,g,d,tk,os⟩) _
  case turn =>
   rintro⟨y,x⟩ rest b s' ⟨hb',rfl,vs,ws,ns',ms',hz,hvi,hwi,hlen,hR⟩
   cases hvi with
   |nil=>rw[List.zip_nil_left]at hz;cases hz
   | cons a t afq =>
    cases hwi with
    |nil=>rw[List.zip_nil_right]at hz;cases hz
    | cons c u afr =>
     rw[List.zip_cons_cons]at hz
     injection hz with hyx hrest
     injection hyx with hy hx
     subst hy hx
     rw[Jw]at hR
     simp only[List.length_cons]at hlen
     obtain⟨e,he,hiff⟩:=Aem A.in1 ⟨hp,g,d,tk,os⟩ a t c u
     refine wpAny_bind (he prog w _ _ ?_)
     cases e with
     | true =>
      rw[if_pos (hiff.mp rfl)]at hR
      wp_walk
      exact⟨rfl,rfl,_,_,_,_,hrest,afq,afr,by omega,hR⟩
     | false =>
      rw[if_neg (fun q=>absurd (hiff.mpr q) Bool.false_ne_true)]at hR
      have hri:=Adm A.in1 ⟨hp,g,d,tk,os⟩ a t c u prog w
      wp_walk using hri
      exact⟨_,rfl,by simpa using hR⟩
  case fin =>
   rintro⟨b1,b2⟩ s' ⟨hb',rfl,vs,ws,ns',ms',hz,hvi,hwi,hlen,hR⟩
   simp only at hb'
   subst hb'
   have hv:lexLt ns' ms'=decide (items.size<items2.size):=by
    cases hvi with
    | nil =>
     cases hwi with
     | nil =>
      simp only[List.length_nil]at hlen
      rw[IV]
      exact(decide_eq_false (by omega)).symm
     | cons c u hw =>
      simp only[List.length_nil,List.length_cons]at hlen
      rw[Qu]
      exact(decide_eq_true (by omega)).symm
    | cons a t hv =>
     cases hwi with
     | nil =>
      simp only[List.length_nil,List.length_cons]at hlen
      rw[Qo]
      exact(decide_eq_false (by omega)).symm
     | cons c u hw =>
      rw[List.zip_cons_cons]at hz
      cases hz
   rw[hv]at hR
   wp_walk
   exact⟨_,rfl,by simpa [Builtin.Tuple.tupleCompareSizes] using hR⟩
  case h =>
   exact⟨rfl,rfl,items.toList,items2.toList,ns,ms,rfl,hi,hj,by omega,h⟩
end
section
variable{prog:Program}{w:World}{A:Around}{E:Value→Shared→Prop}{s:Shared}
theorem Qi{l b:Addr}{items items2:Array Value}{ns ms:List Int}{Q:Value→Shared→Prop}(hl:IsTup s.heap l items)(hb:IsTup s.heap b items2)(hi:IntsAre items.toList ns)(hj:IntsAre items2.toList ms)
  (hu:A.units<cLine) (h:Q (.bool (lexLt ns ms)) s):wpAny (model prog w) A (compareOp .Lt (.ref l) (.ref b)) Q E s:=by
 obtain⟨⟨cls,dd,data,sl⟩,ho,hc,n,hd⟩:=id hl
 obtain⟨⟨cls2,dd2,data2,sl2⟩,ho2,hc2,n2,hd2⟩:=id hb
 simp only at hc hd hc2 hd2
 subst hc hd hc2 hd2
 exact richCompare_meets_room (op:=.Lt) ⟨_,ho,rfl⟩ ⟨_,ho2,rfl⟩ PySem.F.slot_tuple_lt PySem.F.entry_tuple_lt (PySem.F.args_tuple_lt_2 _ _) (RL l b items items2 n n2 dd dd2 sl sl2 ns ms hi hj)
  ⟨ho,ho2,show Value.bool (lexLt ns ms)≠Value.notImplemented∧Q (.bool (lexLt ns ms)) s from⟨(fun x=>nomatch x),h⟩⟩ hu
def sIx(n d:Nat):Option Int→Nat
 |none=>d
 |some v=>if v<0 then(v+(n:Int)).toNat else min v.toNat n
end
end HT
namespace L2
open PySem Spec PyProof.Rows
abbrev TO:=St→Hp→(Option Int→Hp→Prop)→Prop
def PO(X:Cx)(e:Option Expr)(t:TO):Prop :=
 ∀(pins:List (Addr×Obj))(s:Shared)(σ:St)(H:Hp)(Q:Option Int→Hp→Prop),Inv X pins σ H s→t σ H Q →
  wpAny (model X.prog X.w) X.A (evalPart e X.env) (fun u s'=>∃o H',Inv X pins σ H' s'∧IsPart u o∧Q o H') X.xe s
def AeY:TO:=fun _ H Q=>Q none H
def Akk(t:TE):TO:=fun σ H Q=>t σ H fun x H1=>∃i,x=.int i∧Q (some i) H1
theorem intsAre_of{ns:List Int}:∀{us:List Value},Vals (ns.map V.int) us→IntsAre us ns:=by
 induction ns with
 |nil=>intro us r;rw[List.map_nil]at r;cases r;exact .nil
 | cons n ns ih =>
  intro us r
  rw[List.map_cons]at r
  cases r with
  | cons r1 r2 =>
   obtain⟨t,e⟩:=r1
   subst e
   exact .cons n t (ih r2)
section
variable{X:Cx}{e:Expr}{te:TE}{lo hi:Option Expr}{tl th:TO}{pos p2:Pos}
theorem AgI:PO X none AeY:=by
 intro pins s σ H Q I h
 rw[evalPart_none]
 exact wpAny_pure ⟨none,H,I,.none,h⟩
theorem AeB(h:PE X e te):PO X (some e) (Akk te):=by
 intro pins s σ H Q I hw
 rw[evalPart_some]
 refine thn (h pins s σ H _ I hw) fun u s1 ⟨x,H1,I1,r1,q1⟩=>?_
 obtain⟨i,rfl,q⟩:=q1
 obtain⟨t,rfl⟩:=r1
 exact⟨some i,H1,I1,.int i t,q⟩
def SlR(X:Cx)(r:V→Option Int→Option Int→Hp→VK→Prop):Prop :=
 ∀(pins:List (Addr×Obj))(s:Shared)(σ:St)(H:Hp)(x:V)(v vl vu:Value)(lo hi:Option Int)(sl:Addr)(Q:VK),Inv X pins σ H s→RelV x v→s.heap.IsSliceOf sl vl vu .none→IsPart vl lo→IsPart vu hi→r x lo hi H Q →
  ∃T id,typeLookup (.type T) "__getitem__"=pure (some (.builtin id))∧s.TypeIs v T∧wpAny (model X.prog X.w) X.A (getItem v (.ref sl)) (EP X pins σ Q) X.xe s
def tSl(r:V→Option Int→Option Int→Hp→VK→Prop)(te:TE)(tl th:TO):TE:=fun σ H Q=>te σ H fun x H1=>tl σ H1 fun l H2=>th σ H2 fun u H3=>r x l u H3 Q
theorem Acf{r:V→Option Int→Option Int→Hp→VK→Prop}(hr:SlR X r)(he:PE X e te)(hl:PO X lo tl)(hu:PO X hi th):PE X (.Subscript e (.Slice lo hi none p2) pos) (tSl r te tl th):=by
 intro pins s σ H Q I h
 refine Subscript_ (thn (he pins s σ H _ I h) fun v s1 ⟨x,H1,I1,r1,q1⟩=>?_)
 refine wpAny_Slice (thn (hl pins s1 σ H1 _ I1 q1) fun vl s2 ⟨l,H2,I2,pl,q2⟩=>thn (hu pins s2 σ H2 _ I2 q2) fun vu s3 ⟨u,H3,I3,pu,q3⟩=>?_)
 rw[evalPart_none]
 refine wpAny_pure ?_
 have I4:Inv X pins σ H3 {s3 with heap:=s3.heap.push {cls:=.type "slice",data:=.fields #[vl,vu,.none]} }:=I3.kept (t':=s3.toks) fun b ob q=>Heap.get?_push_of_some _ q
 obtain⟨T,id,hT,ht,hg⟩:=hr pins {s3 with heap:=s3.heap.push {cls:=.type "slice",data:=.fields #[vl,vu,.none]} } σ H3 x v vl vu l u s3.heap.objs.size Q I4 r1 (Heap.IsSliceOf.new ..) pl pu q3
 show wpAny (model X.prog X.w) X.A (subscriptTail e (.Slice lo hi none p2) v (.ref s3.heap.objs.size)) (EP X pins σ Q) X.xe {s3 with heap:=s3.heap.push {cls:=.type "slice",data:=.fields #[vl,vu,.none]} }
 exact tail_any (ops:=[.ref s3.heap.objs.size,v]) ht hT hg (by with_unfolding_all rfl)
def AaP(xs:List V)(lo hi:Option Int):List V:=(xs.drop (HT.sIx xs.length 0 lo)).take (HT.sIx xs.length xs.length hi-HT.sIx xs.length 0 lo)
theorem Vl(xs:List V)(lo hi:Option Int):(AaP xs lo hi).length≤xs.length:=by
 unfold AaP
 rw[List.length_take,List.length_drop]
 omega
end
def ixN(n:Nat)(i:Int):Option Nat:=if 0≤i then(if i<n then some i.toNat else none)else if -(n:Int)≤i then some (i+n).toNat else none
def atI{α:Type}(xs:List α)(i:Int):Option α:=(ixN xs.length i).bind fun j=>xs[j]?
theorem Agh{n:Nat}{i:Int}{j:Nat}(h:ixN n i=some j):seqIndex? i n=some j∧j<n∧-(n:Int)≤i∧i<n:=by
 unfold ixN at h
 by_cases h0:0≤i
 ·rw[if_pos h0]at h
  by_cases h1:i<n
  ·rw[if_pos h1]at h
   have e:i.toNat=j:=Option.some.inj h
   exact⟨by rw[seqIndex_of h0 h1,e],by omega,by omega,h1⟩
  ·rw[if_neg h1]at h;cases h
 ·rw[if_neg h0]at h
  by_cases h1:-(n:Int)≤i
  ·rw[if_pos h1]at h
   have e:(i+n).toNat=j:=Option.some.inj h
   exact⟨by rw[seqIndex_neg (by omega) h1,e],by omega,h1,by omega⟩
  ·rw[if_neg h1]at h;cases h
theorem Ue{α:Type}{xs:List α}{i:Int}{v:α}(h:atI xs i=some v):∃j,seqIndex? i xs.length=some j∧xs[j]? = some v∧j<xs.length∧-(xs.length:Int)≤i∧i<xs.length:=by
 unfold atI at h
 cases e:ixN xs.length i with
 |none=>rw[e]at h;cases h
 | some j =>
  rw[e]at h
  obtain⟨h1,h2,h3,h4⟩:=Agh e
  exact⟨j,h1,h,h2,h3,h4⟩
theorem Afw{α:Type}{xs:List α}{j:Nat}{v:α}(h:xs[j]? = some v):atI xs (j:Int)=some v:=by
 have hj:j<xs.length:=(List.getElem?_eq_some_iff.mp h).1
 have e:ixN xs.length (j:Int)=some j:=by
  unfold ixN
  rw[if_pos (by omega),if_pos (by omega)];simp
 unfold atI;rw[e];exact h
def Uw(b:Expr):Prop:=∀o i,subscripted b false o i=operate [o,i] (getItem o i)
def IxR(X:Cx)(r:R2):Prop :=
 ∀(value slice:Expr)(pins:List (Addr×Obj))(s:Shared)(σ:St)(H:Hp)(x y:V)(v u:Value)(Q:VK),Inv X pins σ H s→RelV x v→RelV y u→r x y H Q →
  subscripted slice false v u=operate [v,u] (getItem v u)→wpAny (model X.prog X.w) X.A (subscriptTail value slice v u) (EP X pins σ Q) X.xe s
def MtR(X:Cx)(id:String)(r:V→List V→Hp→VK→Prop):Prop :=
 ∀(pins:List (Addr×Obj))(s:Shared)(σ:St)(H:Hp)(x:V)(xs:List V)(v:Value)(us:List Value)(Q:VK),Inv X pins σ H s→RelV x v→Vals xs us→r x xs H Q →
  wpAny (model X.prog X.w) X.A (call (.builtin id) (v::us)) (EP X pins σ Q) X.xe s
section
variable{X:Cx}{a b:Expr}{ta tb:TE}{pos:Pos}
theorem IxR.or{r r':R2}(h:IxR X r)(h':IxR X r'):IxR X (fun x y H Q=>r x y H Q∨r' x y H Q):=by
 intro value slice pins s σ H x y v u Q I rx ry q hs
 rcases q with q|q
 ·exact h value slice pins s σ H x y v u Q I rx ry q hs
 ·exact h' value slice pins s σ H x y v u Q I rx ry q hs
theorem AmF{r:R2}(hr:IxR X r)(ha:PE X a ta)(hb:PE X b tb)(hs:Uw b):PE X (.Subscript a b pos) (tOp r ta tb):=by
 intro pins s σ H Q I h
 exact Subscript_ (AiA ha hb I h fun v u s2 x y H2 I2 rx ry q=>hr a b pins s2 σ H2 x y v u Q I2 rx ry q (hs _ _))
def Alc(K:W.Frag):R2:=fun x y H Q=>∃p xs i v,x=.ref p∧y=.int i∧SqL K H p xs∧atI xs i=some v∧Q v H
def Akg(K:W.Frag):R2:=fun x y H Q=>∃p xs i v,x=.ref p∧y=.int i∧SqT K H p xs∧atI xs i=some v∧Q v H
def AkG:R2:=fun x y H Q=>∃z i c,x=.str z∧y=.int i∧z.length≤sizeLine∧atI z.cps.toList i=some c∧Q (.str ⟨#[c]⟩) H
theorem AeX:IxR X (Alc X.K):=by
 intro value slice pins s σ H x y v u Q I rx ry h hs
 obtain⟨p,xs,i,z,rfl,rfl,hq,he,q⟩:=h
 cases rx
 obtain⟨t,rfl⟩:=ry
 obtain⟨its,r,pl,hz⟩:=I.list hq
 obtain⟨j,h1,h2,h3,h4,h5⟩:=Ue he
 obtain⟨w,ew,rw'⟩:=r.get h2
 have hl:=r.length
 have hn:=Uu
 have fin:EP X pins σ Q w s:=⟨z,H,I,rw',q⟩
 by_cases h0:0≤i
 ·have hj:i.toNat=j:=by
   rw[seqIndex_of h0 h5]at h1
   exact Option.some.inj h1
  exact item_listR pl.isList h0 (by omega) (by rw[hj];simpa using ew) fin hs
 ·have hj:(i+(its.toArray.size:Int)).toNat=j:=by
   rw[seqIndex_neg (by omega) h4]at h1
   rw[List.size_toArray,←hl]
   exact Option.some.inj h1
  exact subscriptTail_builtinR (x:=w) pl.isList.typeIs slot_list_getitem.lookup
   (wpAny_getItem_list_neg (Q:=fun r s'=>r=w∧EP X pins σ Q r s') pl.isList (by omega) (by rw[List.size_toArray]<;>omega) (by omega) (by rw[hj];simpa using ew) ⟨rfl,fin⟩) hs
theorem Ah0:IxR X (Akg X.K):=by
 intro value slice pins s σ H x y v u Q I rx ry h hs
 obtain⟨p,xs,i,z,rfl,rfl,hq,he,q⟩:=h
 cases rx
 obtain⟨t,rfl⟩:=ry
 obtain⟨its,r,pl,hz⟩:=I.tuple hq
 obtain⟨j,h1,h2,h3,h4,h5⟩:=Ue he
 obtain⟨w,ew,rw'⟩:=r.get h2
 have hl:=r.length
 have hn:=Uu
 have fin:EP X pins σ Q w s:=⟨z,H,I,rw',q⟩
 exact subscriptTail_builtinR (x:=w) pl.typeIs slot_tuple_getitem.lookup
  (getItem_tuple (j:=j) (Q:=fun r s'=>r=w∧EP X pins σ Q r s') pl (by omega) (by omega) (by rw[List.size_toArray,←hl];exact h1) (by simpa using ew) ⟨rfl,fin⟩) hs
theorem Ah8:IxR X AkG:=by
 intro value slice pins s σ H x y v u Q I rx ry h hs
 obtain⟨z,i,c,rfl,rfl,hz,he,q⟩:=h
 obtain⟨t,rfl⟩:=rx
 obtain⟨t',rfl⟩:=ry
 obtain⟨j,h1,h2,h3,h4,h5⟩:=Ue he
 have hl:z.cps.toList.length=z.length:=by simp[Str.length]
 rw[hl]at h1 h4 h5
 have hn:=Uu
 exact tail_any (typeIs_str s z t) slot_str_getitem.lookup (getItem_str (c:=c) (by
  have e1:decide (i < -(2 ^ 63:Int))=false:=decide_eq_false (by omega)
  have e2:decide (i≥2 ^ 63)=false:=decide_eq_false (by omega)
  rw[e1,e2,Bool.or_false]) (by rw[h1];simpa using h2) ⟨.str ⟨#[c]⟩,H,I.tok _,⟨_,rfl⟩,q⟩) hs
def rIx(K:W.Frag):R2:=fun x y H Q=>Alc K x y H Q∨Akg K x y H Q∨AkG x y H Q
theorem AiW:IxR X (rIx X.K):=AeX.or (Ah0.or Ah8)
theorem Uy(lo hi:Option Int)(n:Nat):(sliceBounds lo hi none n).1=((HT.sIx n 0 lo:Nat):Int)∧(sliceBounds lo hi none n).2.1=((HT.sIx n n hi:Nat):Int)∧(sliceBounds lo hi none n).2.2=1:=by
 refine⟨?_,?_,rfl⟩
 ·cases lo with
  |none=>simp[sliceBounds,HT.sIx]
  | some i =>
   simp only[sliceBounds,HT.sIx,Option.getD_none,show(1:Int)>0 by decide,if_true]
   by_cases h:i<0
   ·simp only[h,if_true]<;>omega
   ·simp only[h,if_false]<;>omega
 ·cases hi with
  |none=>simp[sliceBounds,HT.sIx]
  | some i =>
   simp only[sliceBounds,HT.sIx,Option.getD_none,show(1:Int)>0 by decide,if_true]
   by_cases h:i<0
   ·simp only[h,if_true]<;>omega
   ·simp only[h,if_false]<;>omega
theorem Sh(its:List Value)(lo hi:Option Int):slicePick its.toArray lo hi none=((its.drop (HT.sIx its.length 0 lo)).take (HT.sIx its.length its.length hi-HT.sIx its.length 0 lo)).toArray:=by
 obtain⟨h1,h2,h3⟩:=Uy lo hi its.toArray.size
 unfold slicePick
 rw[h1,h2,h3]
 simp only[sliceRange_one,pick_run,List.size_toArray]<;>rfl
def AnF(K:W.Frag):V→Option Int→Option Int→Hp→VK→Prop:=fun x lo hi H Q=>∃a xs,x=.ref a∧SqL K H a xs∧∀p,H p=none→Q (.ref p) (upd H p (.lst (AaP xs lo hi)))
theorem AeS:SlR X (AnF X.K):=by
 intro pins s σ H x v vl vu lo hi sl Q I rx hs pl pu h
 obtain⟨a,xs,rfl,hx,q⟩:=h
 cases rx
 obtain⟨its,r,ht,hz⟩:=I.list hx
 have hlen:=r.length
 refine⟨"list",_,slot_list_getitem.lookup,ht.isList.typeIs,?_⟩
 refine wpAny_getItem_list_slice ht.isList hs pl pu .none (by simp) ?_ (by rw[List.size_toArray]<;>omega)
 rw[Sh,←hlen]
 refine⟨.ref s.heap.objs.size,_,I.laid (t':=s.toks) (o:=.lst (AaP xs lo hi)) (fun b ob q=>Heap.get?_push_of_some _ q) (Nat.le_refl _) ?_,rfl,q _ (I.hok.fresh (Nat.le_refl _))⟩
 exact⟨Nat.le_trans (Vl xs lo hi) hz,_,0,(r.drop (HT.sIx xs.length 0 lo)).take (HT.sIx xs.length xs.length hi-HT.sIx xs.length 0 lo),Heap.get?_push_size _ rfl⟩
theorem U3:J2 X (.builtin "len") (fun xs H Q=>∃p ys,xs=[.ref p]∧(SqL X.K H p ys∨SqT X.K H p ys)∧Q (.int ys.length) H):=by
 intro pins s σ H xs us Q I r h
 obtain⟨p,ys,rfl,hq,q⟩:=h
 obtain⟨u,rfl,rx⟩:=vals1 r
 cases rx
 have hn:=Uu
 rcases hq with hq|hq
 ·obtain⟨its,r',pl,hz⟩:=I.list hq
  have hlen:=r'.length
  exact Calls.call_len_list pl.isList (by simp only[List.size_toArray]<;>omega) ⟨.int ys.length,H,I.tok _,⟨s.toks+1,by rw[List.size_toArray,hlen]⟩,q⟩
 ·obtain⟨its,r',pl,hz⟩:=I.tuple hq
  have hlen:=r'.length
  exact len_tuple pl (by simp only[List.size_toArray]<;>omega) ⟨.int ys.length,H,I.tok _,⟨s.toks+1,by rw[List.size_toArray,hlen]⟩,q⟩
theorem RN:J2 X (.type "tuple") (fun xs H Q=>∃p ys,xs=[.ref p]∧((SqL X.K H p ys∧∀l,H l=none→Q (.ref l) (upd H l (.tup ys)))∨(SqT X.K H p ys∧Q (.ref p) H))):=by
 intro pins s σ H xs us Q I r h
 obtain⟨p,ys,rfl,h⟩:=h
 obtain⟨u,rfl,rx⟩:=vals1 r
 cases rx
 rcases h with⟨hq,q⟩|⟨hq,q⟩
 ·obtain⟨its,r',pl,hz⟩:=I.list hq
  have hlen:=r'.length
  refine call_tuple_list pl.isList (fun h' kp=>?_) (by simp only[List.size_toArray]<;>omega)
  have I1:Inv X pins σ H {s with heap:=h'}:=I.kept (t':=s.toks) kp
  have I2:Inv X pins σ (upd H h'.objs.size (.tup ys)) {s with heap:=h'.push {cls:=.type "tuple",data:=.seq its.toArray} } :=
   I1.laid (t':=s.toks) (fun b o e=>Heap.get?_push_of_some _ e) (Nat.le_refl _) (show Et X.prog X.w _ _ _ (.tup ys)from⟨hz,its,r',IsTup.new _ _⟩)
  exact⟨.ref h'.objs.size,_,I2,rfl,q _ (I1.hok.fresh (Nat.le_refl _))⟩
 ·obtain⟨its,r',pl,hz⟩:=I.tuple hq
  exact call_tuple_same pl ⟨.ref p,H,I,rfl,q⟩
def tyV(K:W.Frag)(T:String)(x:V)(H:Hp):Prop:=match x with
 |.str _=>T="str"
 |.int _=>T="int"
 | .ref p=>(T="list"∧∃xs,SqL K H p xs)∨(T="tuple"∧∃o,K.lookup p=some o∧o.cls=.type "tuple"∧o.dict=none) ∨
   (T="dict"∧((∃kvs,H p=some (.dK kvs))∨∃kvs,H p=some (.dT kvs)))∨(T="set"∧∃S n,H p=some (.set S n))
 |_=>False
theorem AcQ{pins:List (Addr×Obj)}{σ:St}{H:Hp}{s:Shared}{T:String}{x:V}{v:Value}(I:Inv X pins σ H s)(r:RelV x v)(ty:tyV X.K T x H) :
  s.TypeIs v T∧∀a,v=.ref a→∃ob,s.heap.get? a=some ob∧ob.dict=none:=by
 cases x with
 | str z =>
  obtain⟨t,rfl⟩:=r
  cases(show T="str" from ty)
  exact⟨typeIs_str s z t,fun _ e=>nomatch e⟩
 | int i =>
  obtain⟨t,rfl⟩:=r
  cases(show T="int" from ty)
  exact⟨typeIs_int s i t,fun _ e=>nomatch e⟩
 | ref p =>
  cases r
  rcases ty with⟨rfl,xs,hq⟩|⟨rfl,o,hk,hc,hd⟩|⟨rfl,hk⟩|⟨rfl,S,n,hk⟩
  ·obtain⟨its,_,pl,_⟩:=I.list hq
   refine⟨pl.isList.typeIs,fun a e=>?_⟩
   cases e
   obtain⟨o,n,e,c,hd,_⟩:=pl
   exact⟨o,e,hd⟩
  ·refine⟨⟨o,I.kIn p o hk,hc⟩,fun a e=>?_⟩
   cases e
   exact⟨o,I.kIn _ o hk,hd⟩
  ·have z:∃o,s.heap.get? p=some o∧o.ExactDict:=by
    rcases hk with⟨kvs,hk⟩|⟨kvs,hk⟩
    ·obtain⟨_,_,_,_,o,_,_,e,ex,_⟩:=I.hok p _ hk
     exact⟨o,e,ex⟩
    ·obtain⟨_,_,_,_,o,_,_,e,ex,_⟩:=I.hok p _ hk
     exact⟨o,e,ex⟩
   obtain⟨o,e,ex⟩:=z
   refine⟨⟨o,e,ex.1⟩,fun a e2=>?_⟩
   cases e2
   exact⟨o,e,ex.2.1⟩
  ·obtain⟨o,_,_,_,e,ex,_⟩:=I.hok p _ hk
   refine⟨⟨o,e,ex.1⟩,fun a e2=>?_⟩
   cases e2
   exact⟨o,e,ex.2.1⟩
 |_=>exact False.elim ty
def ApU(K:W.Frag)(T:String)(r:V→List V→Hp→VK→Prop)(to:TE):TE:=fun σ H Q=>to σ H fun x H1=>tyV K T x H1∧r x [] H1 Q
def tBM(K:W.Frag)(T:String)(r:V→List V→Hp→VK→Prop)(to:TE)(t:TA):TE:=fun σ H Q=>to σ H fun x H1=>tyV K T x H1∧t σ H1 fun xs H2=>r x xs H2 Q
variable{o e:Expr}{es:List Expr}{to:TE}{t:TA}{name:Str}{apos cpos:Pos}{T id:String}{r:V→List V→Hp→VK→Prop}
theorem AhG(pa:PlainAttrs T)(slot:Slot T name id)(hty:typeOf (.builtin id)=pure (.type "method_descriptor"))(hm:MtR X id r)(ho:PE X o to)
  (hbase:attributeBase o name X.env (eval o X.env)=eval o X.env:=by rfl) (hline:(apos.endLine==cpos.line)=true:=by rfl):PE X (.Call (.Attribute o name apos) [] [] cpos) (ApU X.K T r to):=by
 intro pins s σ H Q I h
 refine wpAny_Call_method0_late hbase hline (thn (ho pins s σ H _ I h) fun v s1 ⟨x,H1,I1,r1,ty,q1⟩=>?_)
 obtain⟨h1,h2⟩:=AcQ I1 r1 ty
 exact⟨T,id,pa,slot,hty,h1,h2,Calls.callWith_builtin rfl (PySem.evalArgs_none (hm pins s1 σ H1 x [] v [] Q I1 r1 .nil q1))⟩
theorem Ahv(pa:PlainAttrs T)(slot:Slot T name id)(hty:typeOf (.builtin id)=pure (.type "method_descriptor"))(hm:MtR X id r)(ho:PE X o to)(ha:PA X (e::es) t)
  (hbase:attributeBase o name X.env (eval o X.env)=eval o X.env:=by rfl)
  (hfew:((backTo cpos (starEach (e::es) X.env)).all (fun x=>!x.1)&&(backToKw cpos (keywordEach [] X.env)).all (fun x=>x.1.isSome)
   && decide ((e::es).length+([]:List Keyword).length+(if([]:List Keyword).isEmpty then 0 else 1)<30))=true:=by rfl)
  (hline:(apos.endLine==cpos.line)=true:=by rfl) (hs:starEach (e::es) X.env=(false,eval e X.env)::starEach es X.env:=by rfl) (hplain:(backTo cpos (starEach es X.env)).any (·.1)=false:=by rfl) :
  PE X (.Call (.Attribute o name apos) (e::es) [] cpos) (tBM X.K T r to t):=by
 intro pins s σ H Q I h
 refine wpAny_Call_method_late hbase hfew hline rfl (thn (ho pins s σ H _ I h) fun v s1 ⟨x,H1,I1,r1,ty,q1⟩=>?_)
 obtain⟨h1,h2⟩:=AcQ I1 r1 ty
 refine⟨T,id,pa,slot,hty,h1,h2,?_⟩
 have hA:=ha cpos pins s1 σ H1 _ I1 q1
 rw[hs]at hA ⊢
 refine Calls.callWith_builtin (by show(false||(backTo cpos (starEach es X.env)).any (·.1))=false;rw[hplain]<;>rfl) (Calls.evalArgs_plain ?_)
 exact thn hA fun us s2 ⟨vs,H2,I2,r2,q2⟩=>hm pins s2 σ H2 x vs v us Q I2 r1 r2 q2
end
def MtM(X:Cx)(id:String)(r:V→List V→Hp→VK→Prop):Prop :=
 ∀(pins:List (Addr×Obj))(s:Shared)(σ:St)(H:Hp)(x:V)(xs:List V)(v:Value)(us:List Value)(Q:VK),Inv X pins σ H s→RelV x v→Vals xs us→r x xs H Q →
  wpAny (model X.prog X.w) X.A (call (.builtin id) (v::us)) (EP X pins σ Q) X.xe s
theorem Vals.one:∀{x:V} {us:List Value},Vals [x] us→∃u,us=[u]∧RelV x u
 |_,_,.cons r .nil=>⟨_,rfl,r⟩
section
variable{X:Cx}{pins:List (Addr×Obj)}{σ:St}{H:Hp}{s:Shared}{l b:Addr}{xs ys zs:List V}
theorem Inv.ae7{its its':List Value}{n:Nat}{f:Array Value→Array Value}{t':Nat}(I:Inv X pins σ H s)(hH:H l=some (.lst xs))
  (e:s.heap.get? l=some {cls:=.type "list",data:=.seq its.toArray n}) (hf:f its.toArray=its'.toArray) (hv:Vals ys its') (hz:ys.length≤sizeLine) :
  Inv X pins σ (upd H l (.lst ys)) {s with heap:=s.heap.update l (Obj.mapSeq f),toks:=t'}:=by
 have q:=PySem.IsL.update e f
 rw[hf]at q
 refine I.write (x:=l) (e:=l) (by rw[hH];exact trivial) (.inl rfl) (fun b' u hb hu=>(Heap.get?_update_other s.heap (Obj.mapSeq f) (Ne.symm hb)).trans hu) ⟨_,q⟩ ?_
 exact⟨hz,its',_,hv,q⟩
theorem Inv.aeP{its:List Value}{t':Nat}(I:Inv X pins σ H s)(hv:Vals ys its)(hz:ys.length≤sizeLine) :
  Inv X pins σ (upd H s.heap.objs.size (.lst ys)) {s with heap:=s.heap.push {cls:=.type "list",data:=.seq its.toArray},toks:=t'} :=
 I.laid (fun _ _ q=>Heap.get?_push_of_some _ q) (Nat.le_refl _) ⟨hz,its,0,hv,Heap.get?_push_size _ rfl⟩
theorem Inv.fresh(I:Inv X pins σ H s):H s.heap.objs.size=none:=I.hok.fresh (Nat.le_refl _)
theorem Inv.adG(I:Inv X pins σ H s)(hH:H l=some (.lst xs)):xs.length≤sizeLine∧∃(its:List Value)(n:Nat),Vals xs its∧xs.length=its.length∧s.heap.get? l=some {cls:=.type "list",data:=.seq its.toArray n}:=by
 obtain⟨z,its,n,r,e⟩:=I.hok l _ hH
 exact⟨z,its,n,r,r.length,e⟩
theorem AdA{n:Nat}(h:n≤sizeLine):Builtin.List.listTooLong n=false:=by
 unfold Builtin.List.listTooLong
 exact decide_eq_false (by omega)
end
section
variable{X:Cx}
def AeD:V→List V→Hp→VK→Prop:=fun x vs H Q=>∃l xs y,x=.ref l∧vs=[y]∧H l=some (.lst xs)∧xs.length<sizeLine∧Q .non (upd H l (.lst (xs++[y])))
theorem Nv:MtM X "list.append" AeD:=by
 intro pins s σ H x vs v us Q I rx rv h
 obtain⟨l,xs,y,rfl,rfl,hH,hz,q⟩:=h
 cases rx
 obtain⟨u,rfl,ru⟩:=rv.one
 obtain⟨z,its,n,r,hl,e⟩:=I.adG hH
 refine call_meets F.slot_list_append ⟨_,e,rfl⟩ F.entry_list_append (F.args_list_append_2 _ _) (PySem.list_append l its.toArray n u (by rw[List.size_toArray];omega)) ⟨e,?_⟩
 refine⟨.non,_,I.ae7 (its':=its++[u]) hH e (by simp) (r.append (.cons ru .nil)) ?_,rfl,q⟩
 rw[List.length_append,List.length_singleton]
 omega
def Afb:V→List V→Hp→VK→Prop:=fun x vs H Q=>∃l b xs zs,x=.ref l∧vs=[.ref b]∧H l=some (.lst xs)∧H b=some (.lst zs)∧xs.length+zs.length≤sizeLine∧Q .non (upd H l (.lst (xs++zs)))
theorem Aj6:MtM X "list.extend" Afb:=by
 intro pins s σ H x vs v us Q I rx rv h
 obtain⟨l,b,xs,zs,rfl,rfl,hH,hB,hz,q⟩:=h
 cases rx
 obtain⟨u,rfl,ru⟩:=rv.one
 cases ru
 obtain⟨z,its,n,r,hl,e⟩:=I.adG hH
 obtain⟨z2,its2,n2,r2,hl2,e2⟩:=I.adG hB
 have hsz:its.toArray.size+its2.toArray.size≤sizeLine:=by rw[List.size_toArray,List.size_toArray];omega
 have ae8:¬(!its.toArray.isEmpty&&Builtin.List.listTooLong (its.toArray.size+its2.toArray.size))=true:=by
  rw[AdA hsz,Bool.and_false]
  exact Bool.false_ne_true
 refine call_meets F.slot_list_extend ⟨_,e,rfl⟩ F.entry_list_extend (F.args_list_extend_2 _ _)
  (AutoSeq1.list_extend_list_list_0 l its.toArray n b its2.toArray n2 ae8 (by rw[List.size_toArray];omega) (by omega)) ⟨e,e2,?_⟩
 refine⟨.non,_,I.ae7 (its':=its++its2) hH e (by simp) (r.append r2) ?_,rfl,q⟩
 rw[List.length_append]
 omega
def Apt:R2:=fun x y H Q=>∃l b xs zs,x=.ref l∧y=.ref b∧H l=some (.lst xs)∧H b=some (.lst zs)∧xs.length+zs.length≤sizeLine∧∀p,H p=none→Q (.ref p) (upd H p (.lst (xs++zs)))
theorem Ai5:OpR X (binaryOp .Add) Apt:=by
 intro pins s σ H x y v u Q I rx ry h
 obtain⟨l,b,xs,zs,rfl,rfl,hH,hB,hz,q⟩:=h
 cases rx
 cases ry
 obtain⟨z,its,n,r,hl,e⟩:=I.adG hH
 obtain⟨z2,its2,n2,r2,hl2,e2⟩:=I.adG hB
 refine PySem.P.add_list e e2 ?_ (by rw[List.size_toArray,List.size_toArray];omega)
 have ea:its.toArray++its2.toArray=(its++its2).toArray:=by simp
 rw[ea]
 exact⟨.ref _,_,I.aeP (t':=s.toks) (r.append r2) (by rw[List.length_append];omega),rfl,q _ I.fresh⟩
end
section
variable{prog:Program}{w:World}{A:Around}{E:Value→Shared→Prop}{s:Shared}
end
section
variable{X:Cx}
end
end L2
namespace Att
open PySem W Calls PyProof.Rows
theorem O7{P:Params}{h:Heap}:∀(ns:List Int)(vs:List Value),WellAll P h vs (ns.map WData.int)→IntsAre vs ns:=by
 intro ns
 induction ns with
 | nil =>
  intro vs w
  rw[List.map_nil]at w
  cases w
  exact .nil
 | cons n ns ih =>
  intro vs w
  rw[List.map_cons]at w
  cases w with
  | cons a b =>
   cases a
   exact .cons _ _ (ih _ b)
theorem AaV{l:OpenLaw}{n:Nat}(hn:l.most=some n){P:Params}{h:Heap}{args:List WData}{vals:List Value}
  (hpre:l.row.toRowW.claim.pre args=true) (hwl:WellAll P h vals args) :
  ∃a vs ns,vals=[Value.ref a]∧args=[WData.list (ns.map WData.int)]∧h.get? a=some {cls:=.type "list",data:=.seq vs.toArray}∧IntsAre vs ns∧ns.length≤n:=by
 have hsh:WShape.hasAll [] args [.list .int]=true:=(pre_splitW hpre).1
 have hc:l.pre.holds [] {args:=args}=true:=(pre_splitW hpre).2
 obtain⟨d,r,rfl,h1,h2⟩:=hasAllW_cons hsh
 obtain rfl:=hasAllW_nil h2
 obtain⟨xs,rfl,h3⟩:=hasW_list h1
 obtain⟨ns,rfl⟩:=items_int h3
 have hlen:ns.length≤n:=by
  unfold OpenLaw.pre at hc
  have h4:(WTm.not (.lt (.lit (.int (n:Int))) (.len (.arg 0)))).holds [] {args:=[.list (ns.map .int)]}=true:=by
   have h4:=(holds_andW hc).1
   rw[hn]at h4
   exact h4
  have h5:=condW_of h4 (w_not (w_lt w_lit (w_len_list (w_arg rfl))))
  rw[List.length_map]at h5
  refine Nat.le_of_not_lt fun q=>?_
  have q':(n:Int)<((ns.length:Nat):Int):=by omega
  first
   |(rw[decide_eq_true q']at h5;exact absurd h5 (by decide))
   |(simp at h5;omega)
 cases hwl with
 | cons w1 w2 =>
  cases w2
  cases w1 with
  |list ho hall=>exact⟨_,_,ns,rfl,rfl,ho,O7 ns _ hall,hlen⟩
theorem AaM(l:OpenLaw)(args:List WData):l.row.toRowW.claim.post args (.bool true) args=true :=
 postW_of (r:=l.row.toRowW) (X:=(true==true))
  (show WShape.has [] (.bool true) .bool=true by first|rfl|decide|simp[WShape.has,WShape.arms,WShape.armsAll])
  (show(WTm.eq .res (.lit (.bool true))).value [] {args:=args,res:=some (.bool true),after:=args}=some (.bool (true==true))from w_eq_bool (w_res rfl) w_lit) rfl
theorem VG{l:OpenLaw}{n:Nat}{q:Program}{loose:List Str}{XP:(Str→Option Value)→Heap→Prop}{YP:World→Heap→Prop}{d:DefRec}
  (hn:l.most=some n) (hdf:d.params.defaults=[])
  (call:∀(w:World)(s₀ s₁:Shared)(mg mb:Str→Option Value)(fa:Addr)(o:Obj)(pm cd doc:Value)(a:Addr)(vs:List Value)(ns:List Int),
   Ground q loose [] XP w s₀ mg mb s₁.heap→YP w s₁.heap →
   s₁.heap.get? fa=some o→o.data=.func (docDef d.name d.params d.body d.scope pm cd doc)→s₁.heap.CodeRec cd d.name→mg d.name=some (.ref fa) →
   s₁.heap.get? a=some {cls:=.type "list",data:=.seq vs.toArray}→IntsAre vs ns→ns.length≤n→s₁.gens=#[] →
   codeAny (model l.prog w) callerA (.call (.ref fa) ⟨[.ref a],[]⟩) (fun r s'=>r=.ok (.ret (.bool true))∧OldK s₁.heap s'.heap∧s'.os=s₁.os∧AllBare s'.gens) s₁) :
  WalkO q loose XP YP l.row.toRowW d [] (fun f vs=>PySem.call f vs):=by
 intro w s₀ s₁ mg mb G Y fa o pm cd doc dV kV ho hd hcd hD hmg hg args vals as hpre hlay hrd hwl hlo
 obtain rfl:dV=.none:=Dflts.none hD hdf
 obtain rfl:kV=.none:=Dflts.noKw hD
 obtain⟨a,vs,ns,rfl,rfl,hobj,hints,hlen⟩:=AaV hn hpre hwl
 refine enter_call (codeAny_mono (call w s₀ s₁ mg mb fa o pm cd doc a vs ns G Y ho (fd_plain hd) hcd hmg hobj hints hlen hg) fun r s' hq=>?_)
 obtain⟨rfl,h2,h3,h4⟩:=hq
 exact⟨.inl ⟨.bool true,.bool true,[],rfl,fun _=>rfl,.bool true,AaM l _,fun _=>⟨List.Pairwise.nil,fun _ hm=>(nomatch hm)⟩⟩,h2,h3,h4⟩
section
variable{prog:Program}{w:World}{A:Around}{E:Value→Shared→Prop}{s:Shared}{K:Frag}
def ledger(h:Heap)(L d:Addr):List (Addr×Obj):=(List.range h.objs.size).filterMap fun a=>if a=L∨a=d then none else(h.get? a).map fun o=>(a,o)
end
end Att
namespace L2
open PySem Spec PyProof.Rows
theorem TQ:∀{vs:List Value} {ns:List Int},IntsAre vs ns→Vals (ns.map V.int) vs
 |_,_,.nil=>.nil
 |_,_,.cons n t h=>.cons ⟨t,rfl⟩ (TQ h)
def Only(H:Hp):Prop:=∀b,H b=none∨∃o xs,H b=some (.frz o (.lst xs))
theorem AbQ{P:Program}{w:World}{K:W.Frag}{mg mb:Str→Option Value}{CX:CXT}{k:Nat}{fa a:Addr}{fd:FuncData}{x:Str}{sp:Sp}{s₁:Shared}{vs:List Value}{ns:List Int}
  (KX:K.In s₁.heap) (hns:s₁.heap.Ns mainGlobals mg) (hb:s₁.heap.Ns builtinsNs mb) (hbb:∀x:Str,x≠"__name__"→mb x=bootBuiltins x) (hlim:s₁.heap.NoLimit) (hg:s₁.gens=#[])
  (ha:s₁.heap.get? a=some {cls:=.type "list",data:=.seq vs.toArray}) (hi:IntsAre vs ns) (hl:ns.length≤sizeLine) (hr:Dd k callerA)
  (F:∀base:Heap,K.In base→base.Ns mainGlobals mg→El P w K mg base CX k fa fd [x] sp) (hbind:∀(s:Shared)(u:Value),BindsTo s fd ⟨[u],[]⟩ [(x,u)])
  (hsp:∀H:Hp,Only H→SqL K H a (ns.map V.int)→sp [.ref a] H (fun v _=>v=.bl true) fun _ _ _=>False)
  (hCX:∀H e s',CX [] H s₁ (fun _ _ _=>False) e s'→False) :
  codeAny (model P w) callerA (.call (.ref fa) ⟨[.ref a],[]⟩) (fun r s'=>r=.ok (.ret (.bool true))∧OldK s₁.heap s'.heap∧s'.os=s₁.os∧AllBare s'.gens) s₁:=by
 have rv:=TQ hi
 have lenV:=hi.length
 have core:∀H:Hp,Only H→SqL K H a (ns.map V.int)→HOk P w H s₁.heap→(∀b,H b≠none→b=a)→(H a≠none→K.lookup a=none) →
   codeAny (model P w) callerA (.call (.ref fa) ⟨[.ref a],[]⟩) (fun r s'=>r=.ok (.ret (.bool true))∧OldK s₁.heap s'.heap∧s'.os=s₁.os∧AllBare s'.gens) s₁:=by
  intro H hO hS hok hA hK
  have acK:∀{b:Addr} {o:Obj},s₁.heap.get? b=some o→H b=none→(Ua s₁.heap H).get? b=some o:=fun e n=>Acv e n
  have noA:∀{b:Addr} {o:Obj} {es:Array DictEntry} {ep:Nat},s₁.heap.get? b=some o→o.data=.dict es ep→H b=none:=fun{b o es ep} e d=>by
   cases q:H b with
   |none=>rfl
   | some u =>
    have e':b=a:=hA b (by rw[q];simp)
    subst e'
    rw[ha]at e;cases e
    have d':Data.seq vs.toArray _=Data.dict es ep:=d
    cases d'
  have nsK:∀{b:Addr} {m:Str→Option Value},s₁.heap.Ns b m→(Ua s₁.heap H).Ns b m:=fun{b m} ⟨o,es,ep,e,d,r⟩=>⟨o,es,ep,acK e (noA e d),d,r⟩
  have hKb:K.In (Ua s₁.heap H):=fun b o e=>acK (KX b o e) (by
   cases q:H b with
   |none=>rfl
   | some u =>
    have e':b=a:=hA b (by rw[q];simp)
    subst e'
    rw[hK (by rw[q];simp)]at e;cases e)
  have hM:Mod K mg (Ua s₁.heap H):=⟨hKb,nsK hns,⟨mb,nsK hb,hbb⟩,let ⟨mc,h1,h2⟩:=hlim;⟨mc,nsK h1,h2⟩⟩
  have e0:Xz P w K mg (Ua s₁.heap H) callerA [] s₁ H:=⟨rfl,hM,fun b o e=>Afy e,Nat.le_of_eq (Abl _ _),trivial,fun b hb=>absurd (show b∈([]:List Addr)from hb) (by simp),hok,.of_eq hg⟩
  refine codeAny_mono ((F _ hKb (nsK hns)).run callerA [] s₁ H ⟨[.ref a],[]⟩ [.ref a] [.ref a] _ _ hr e0 (hbind s₁ (.ref a)) (.cons rfl .nil) (hsp H hO hS)) fun r s' h=>?_
  cases r with
  |error e=>exact(hCX H e s' h).elim
  | ok fl =>
   cases fl with
   |next=>exact False.elim h
   |brk=>exact False.elim h
   |cont=>exact False.elim h
   | ret u =>
    obtain⟨v,H',os,bare,un,hok',r',q⟩:=h
    have q':v=.bl true:=q
    subst q'
    obtain rfl:u=Value.bool true:=r'
    refine⟨rfl,OldK.of_keep fun b o e=>?_,os,bare⟩
    cases q:H b with
    |none=>exact un.keep b o e q (by intro z;exact absurd (show b∈([]:List Addr)from z) (by simp)) (by simp)
    | some u =>
     rcases hO b with z|⟨ob,xs,z⟩
     ·rw[q]at z;cases z
     ·have z2:=un.oX b ob _ z
      obtain⟨e1,_⟩:=hok b _ z
      obtain⟨e2,_⟩:=hok' b _ z2
      rw[e]at e1;cases e1
      exact e2
 cases hk:K.lookup a with
 | some o =>
  have e:=KX a o hk
  rw[ha]at e
  cases e
  refine core (fun _=>none) (fun _=>.inl rfl) (.inr ⟨_,vs.toArray,_,hk,rfl,rfl,rfl,by rw[List.size_toArray,lenV];exact hl,by simpa using rv⟩) (fun b u z=>by have z':(none:Option HO)=some u:=z;cases z') (fun b z=>absurd rfl z) fun z=>absurd rfl z
 | none =>
  refine core (fun b=>if b=a then some (.frz {cls:=.type "list",data:=.seq vs.toArray} (.lst (ns.map V.int)))else none) (fun b=>?_) (.inl (.inr ⟨{cls:=.type "list",data:=.seq vs.toArray},if_pos rfl⟩)) (fun b u z=>?_) (fun b z=>?_) fun _=>hk
  ·by_cases hb:b=a
   ·exact .inr ⟨_,_,if_pos hb⟩
   ·exact .inl (if_neg hb)
  ·by_cases hb:b=a
   ·have z':=(if_pos hb).symm.trans z
    cases z'
    subst hb
    exact⟨ha,by rw[List.length_map];exact hl,vs,_,rv,ha⟩
   ·have z':=(if_neg hb).symm.trans z
    cases z'
  ·by_cases hb:b=a
   ·exact hb
   ·exact absurd (if_neg hb) z
abbrev KOf{K:W.Frag}{h:Heap}(_:K.In h):W.Frag:=K
theorem Ae4{l:W.OpenLaw}{n k:Nat}{q:Program}{loose:List Str}{XP:(Str→Option Value)→Heap→Prop}{YP:World→Heap→Prop}{d:DefRec}{K:Params→W.Frag}{CX:World→CXT}{sp:World→Sp}{x:Str}
  (hn:l.most=some n) (hn2:n≤sizeLine) (hdf:d.params.defaults=[]) (hr:Dd k callerA)
  (hY:∀(w:World)(h:Heap),YP w h→(K w.params).In h)
  (F:∀(w:World)(mg:Str→Option Value)(fa:Addr)(h:Heap),(K w.params).In h→h.Ns mainGlobals mg→mg d.name=some (.ref fa) →
   ∃fd:FuncData,(∀(s:Shared)(u:Value),BindsTo s fd ⟨[u],[]⟩ [(x,u)]) ∧
    ∀base:Heap,(K w.params).In base→base.Ns mainGlobals mg→El l.prog w (K w.params) mg base (CX w) k fa fd [x] (sp w))
  (hsp:∀(w:World)(H:Hp)(a:Addr)(ns:List Int),ns.length≤n→Only H→SqL (K w.params) H a (ns.map V.int)→sp w [.ref a] H (fun v _=>v=.bl true) fun _ _ _=>False)
  (hCX:∀(w:World)(H:Hp)(s:Shared)(e:Value)(s':Shared),CX w [] H s (fun _ _ _=>False) e s'→False) :
  W.WalkO q loose XP YP l.row.toRowW d [] (fun f vs=>PySem.call f vs):=by
 refine Att.VG hn hdf fun w s₀ s₁ mg mb fa o pm cd doc a vs ns G Y ho hd hcd hmg hobj hints hlen hg=>?_
 have KX:=hY w _ Y
 obtain⟨fd,hb,hF⟩:=F w mg fa _ KX G.T.g hmg
 exact AbQ KX G.T.g G.T.b G.T.builtins G.T.nolimit hg hobj hints (Nat.le_trans hlen hn2) hr hF hb (fun H hO hS=>hsp w H a ns hlen hO hS) fun H e s'=>hCX w H s₁ e s'
def inClass(s:Stmt)(j:Nat):Stmt:=match s with
 |.ClassDef _ _ _ body _ _ _ _ _ _ _=>body.getD j (.Pass ⟨0,0,0,0⟩)
 |_=>.Pass ⟨0,0,0,0⟩
def Dk(s:Stmt):Arguments:=match s with
 |.FunctionDef _ a _ _ _ _ _ _ _ _=>a
 |_=>{posonlyargs:=[],args:=[],vararg:=none,kwonlyargs:=[],kw_defaults:=[],kwarg:=none,defaults:=[]}
def Cp(s:Stmt):List Stmt:=match s with
 |.FunctionDef _ _ b _ _ _ _ _ _ _=>b
 |_=>[]
def Ag(s:Stmt):Scope:=match s with
 |.FunctionDef _ _ _ _ _ _ sc _ _ _=>sc
 |_=>{kind:=.function,names:=[],isGenerator:=false,isCoroutine:=false}
abbrev CX0:CXT:=fun _ _ _ _ _ _=>False
abbrev E0:XK:=fun _ _ _=>False
theorem Wv{X:Cx}:Passes CX0 X E0:=fun _ _ _ _ _ _ _ h=>h.elim
structure Fun(K:W.Frag)(x qual:Str)(st:Stmt)(f:Addr)(fd:FuncData):Prop where
 ex:∃(oc:Value)(od:Option Addr)(kV doc pm:Value)(an:Option Addr)(cdv ct:Value)(osl:Array (Option Value)),
  fd=W.fnOf x qual (Dk st) (Cp st) (Ag st) .none kV doc pm an cdv ct∧K.lookup f=some ⟨oc,od,.func fd,osl⟩∧W.codeIn K cdv qual=true
 kp:W.keepIn K (.ref f)=true
section
variable{P:Program}{w:World}{K:W.Frag}{mg:Str→Option Value}{base:Heap}
theorem Fun.ok{x qual:Str}{st:Stmt}{f:Addr}{fd:FuncData}{N ps:List Str}{k:Nat}{sp:Sp}(F:Fun K x qual st f fd)(S:Ak N ps (Ag st))(len:∀vs H Q E,sp vs H Q E→vs.length=ps.length)
  (hbody:∀(cdv:Value)(A:Around)(outer:List Env)(s:Shared)(H:Hp)(vs:List V)(Q:VK)(E:XK),Dd k (A.deeper (envOfC qual (Ag st) s.heap.objs.size f cdv))→sp vs H Q E →
   ∃t,PSs (RD CX0 P w K mg base N qual (Ag st) f cdv A outer s H E).nox (Cp st) t∧t {nx:=fun _ H'=>Q .non H',rt:=Q} (start N vs) H):El P w K mg base CX0 (k+1) f fd ps sp:=by
 obtain⟨oc,od,kV,doc,pm,an,cdv,ct,osl,rfl,lk,hcd⟩:=F.ex
 refine Acp lk hcd S len fun A outer s H vs Q E hr hsp=>?_
 obtain⟨t,h,q⟩:=hbody cdv A outer s H vs Q E hr hsp
 exact⟨t,h.nox,q⟩
theorem Fun.binds{x qual:Str}{st:Stmt}{f:Addr}{fd:FuncData}{ps:List Str}(F:Fun K x qual st f fd)
  (h:∀(kV doc pm:Value)(an:Option Addr)(cdv ct:Value)(us:List Value),us.length=ps.length→bindArgs (W.fnOf x qual (Dk st) (Cp st) (Ag st) .none kV doc pm an cdv ct) ⟨us,[]⟩=pure (ps.zip us)):Binds K fd ps []:=by
 obtain⟨oc,od,kV,doc,pm,an,cdv,ct,osl,rfl,lk,hcd⟩:=F.ex
 exact .all (h kV doc pm an cdv ct)
theorem IK{x qual:Str}{st:Stmt}{f:Addr}{oc:Value}{od an:Option Addr}{osl:Array (Option Value)}{kV doc pm cdv ct:Value}(l:K.lookup f=some ⟨oc,od,.func (W.fnOf x qual (Dk st) (Cp st) (Ag st) .none kV doc pm an cdv ct),osl⟩)
  (c:W.codeIn K cdv qual=true) (k:W.keepIn K (.ref f)=true):Fun K x qual st f (W.fnOf x qual (Dk st) (Cp st) (Ag st) .none kV doc pm an cdv ct):=⟨⟨oc,od,kV,doc,pm,an,cdv,ct,osl,rfl,l,c⟩,k⟩
end
theorem Oh{n:Nat}(h:n≤1000):n<sizeLine:=Nat.lt_of_le_of_lt h (by decide)
section
variable{X:Cx}
theorem pv(i:Nat){x:Str}{pos:Pos}(hN:X.N[i]? = some x:=by rfl)(hv:Vis X.env.scope x:=by first | exact Or.inl rfl | exact Or.inr (Or.inl rfl) | exact Or.inr (Or.inr rfl))(hd:(x==("__debug__":Str))=false:=by decide)
  (hcd:(x==("__classdict__":Str))=false:=by decide):PE X (.Name x pos) (Alf i):=JC hN hv hd hcd
end
theorem Er{c A B:Prop}[Decidable c](h1:c→A)(h2:¬c→B):if c then A else B:=by
 by_cases h:c
 ·rw[if_pos h]
  exact h1 h
 ·rw[if_neg h]
  exact h2 h
def Same(H H':Hp):Prop:=∀b o,H b=some o→H' b=some o
theorem Same.refl(H:Hp):Same H H:=fun _ _ h=>h
theorem Same.trans{H H1 H2:Hp}(a:Same H H1)(b:Same H1 H2):Same H H2:=fun c o h=>b c o (a c o h)
theorem Same.seq{K:W.Frag}{H H':Hp}{a:Addr}{xs:List V}(e:Same H H')(h:SqL K H a xs):SqL K H' a xs:=by
 rcases h with(h|⟨o,h⟩)|h
 ·exact .inl (.inl (e _ _ h))
 ·exact .inl (.inr ⟨o,e _ _ h⟩)
 ·exact .inr h
def tbO(T:Addr)(h:Heap):Prop:=∃o ts,h.get? T=some o∧o.data=.fields ts∧ts[3]? = some .none
def exO(a C dx:Addr)(h:Heap):Prop:=∃o vs,h.get? a=some o∧o.cls=.ref C∧o.dict=(if dx=a then none else some dx)∧o.data=.fields vs
theorem Rk{T:Addr}(h1 h2:Heap)(x:tbO T h1)(k:∀o,h1.get? T=some o→h2.get? T=some o):tbO T h2 :=
 let ⟨o,ts,e,r⟩:=x;⟨o,ts,k o e,r⟩
theorem VH{a C dx:Addr}(h1 h2:Heap)(x:exO a C dx h1)(k:∀o,h1.get? a=some o→h2.get? a=some o):exO a C dx h2 :=
 let ⟨o,vs,e,r⟩:=x;⟨o,vs,k o e,r⟩
def Ji(h:Heap)(H:Hp)(a:Addr):Prop:=∃o vs,h.get? a=some o∧o.data=.fields vs∧(vs[1]? = some .none∨∃T,vs[1]? = some (.ref T)∧T≠a∧H T=some (.ext (tbO T)))
section
variable{M:Model}{A:Around}{E:Value→Shared→Prop}{s:Shared}{base:Heap}{env:Env}{outer:List Env}{L e:Addr}
structure Za(fs:List Addr)(e:Addr)(old:Option Addr)(oe:Obj)(h h':Heap):Prop where
 keep:∀b o,b∉fs→b≠e→old≠some b→h.get? b=some o→h'.get? b=some o
 slot:∀b o,b≠e→old≠some b→h.get? b=some o→∃sl,h'.get? b=some {o with slots:=sl}
 exc:∃vs T,h'.get? e=some {oe with data:=.fields vs}∧vs[1]? = some (.ref T)∧T≠e∧h.objs.size≤T∧tbO T h'
 old:∀b,old=some b→tbO b h'
theorem Ze{oe:Obj}{vs:Array Value}{head:Value}{hadNext:Bool}{Q:Unit→Shared→Prop}(fr:A.frames=some (env::outer))(ff:s.heap.FunFrames base (env::outer))(ef:env.frame=some L)
  (ur:s.heap.get? e=some oe) (od:oe.data=.fields vs) (z:1<vs.size)
  (q:∀h',Za (frs (env::outer)) e none oe s.heap h'→Q () {s with heap:=h'}) :
  wpAny M A (frameOf env >>= fun a=>entryPlaceOf L hadNext >>= fun pl=>EntryCells.newEntry head a .none (rawInt L) .none pl >>= fun b=>setField (.ref e) 1 b)
   (fun _ s'=>wpAny M A (setFlight (.ref e) none) Q E s') E s:=by
 have ne:e∉frs (env::outer):=fun hm=>by
  obtain⟨_,o,ho,hnf⟩:=ff.mem hm
  rw[ur]at ho;cases ho;exact hnf vs od
 refine wpAny_bind (wpAny_frameOf_fun fr ff ef fun h₁ sl₁=>wpAny_bind (wpAny_entryPlaceOf fun pl hpl=>?_))
 unfold EntryCells.newEntry newFields
 refine wpAny_bind (wpAny_newObj_type ?_ (hpl.sizeOk5 _ _ _ _ _))
 generalize hob:({cls:=.type "traceback",dict:=none,data:=.fields ([head,.ref L,.none,rawInt L,.none]++(if pl.isEmpty then List.replicate 6 Value.none else pl)).toArray}:Obj)=ob
 have obd:∃ts:Array Value,ob.data=.fields ts∧3<ts.size:=⟨_,by rw[←hob],by simp only[List.size_toArray,List.length_append,List.length_cons,List.length_nil];omega⟩
 obtain⟨ts,obd,tz⟩:=obd
 have e₁:h₁.get? e=some oe:=(sl₁.2.1 e ne).trans ur
 have e₂:(h₁.push ob).get? e=some oe:=Heap.get?_push_of_some ob e₁
 refine wpAny_setField e₂ od z ?_
 have Te:h₁.objs.size≠e:=Nat.ne_of_gt (Heap.lt_size e₁)
 have d₃:=Obj.data_mapFields od (·.setIfInBounds 1 (Value.ref h₁.objs.size))
 have e₃:=Heap.get?_update_self (Obj.mapFields (·.setIfInBounds 1 (Value.ref h₁.objs.size))) e₂ (Obj.isFreed_of_fields d₃)
 have t₂:(h₁.push ob).get? h₁.objs.size=some ob:=Heap.get?_push_size h₁ (Obj.isFreed_of_fields obd)
 have t₃:=(Heap.get?_update_other (h₁.push ob) (Obj.mapFields (·.setIfInBounds 1 (Value.ref h₁.objs.size))) (Ne.symm Te)).trans t₂
 unfold setFlight
 refine wpAny_bind (wpAny_field e₃ d₃ (x:=.ref h₁.objs.size) (by simp[z]) ?_)
 rw[if_pos (by simp)]
 refine wpAny_setField t₃ obd tz (q _ ?_)
 have kk:∀b o,b≠e→h₁.get? b=some o→(((h₁.push ob).update e (Obj.mapFields (·.setIfInBounds 1 (Value.ref h₁.objs.size)))).update h₁.objs.size (Obj.mapFields (·.setIfInBounds 3 ((none:Option Addr).elim Value.none fun f=>rawInt f)))).get? b=some o:=by
  intro b o nb hb
  rw[Heap.get?_update_other _ _ (Nat.ne_of_gt (Heap.lt_size hb)),Heap.get?_update_other _ _ (Ne.symm nb)]
  exact Heap.get?_push_of_some ob hb
 refine⟨fun b o nf nb _ hb=>kk b o nb ((sl₁.2.1 b nf).trans hb),fun b o nb _ hb=>?_,⟨vs.setIfInBounds 1 (Value.ref h₁.objs.size),h₁.objs.size,?_,by simp[z],Te,by rw[sl₁.1];exact Nat.le_refl _,?_⟩,fun b z=>by cases z⟩
 ·obtain⟨sl,hs⟩:=sl₁.2.2 b o hb
  exact⟨sl,kk b _ nb hs⟩
 ·rw[Heap.get?_update_other _ _ Te,e₃]
  obtain⟨c,d,dt,sl⟩:=oe
  cases od
  rfl
 ·exact⟨_,_,Heap.get?_update_self _ t₃ (Obj.isFreed_of_fields (Obj.data_mapFields obd _)),Obj.data_mapFields obd _,by simp[tz]⟩
theorem fly{oe:Obj}{vs:Array Value}{old:Option Addr}{Q:Unit→Shared→Prop}(fr:A.frames=some (env::outer))(ff:s.heap.FunFrames base (env::outer))(ef:env.frame=some L)
  (ur:s.heap.get? e=some oe) (od:oe.data=.fields vs) (ht:vs[1]? = some (old.elim .none .ref)) (ho:∀T,old=some T→T≠e∧tbO T s.heap)
  (q:∀h',Za (frs (env::outer)) e old oe s.heap h'→Q () {s with heap:=h'}) :
  wpAny M A (noteFrame (.ref e) env) (fun _ s'=>wpAny M A (setFlight (.ref e) none) Q E s') E s:=by
 have z:1<vs.size:=(Array.getElem?_eq_some_iff.mp ht).1
 unfold noteFrame
 simp only[ef]
 refine wpAny_bind (wpAny_field ur od ht ?_)
 cases old with
 | none =>
  rw[if_neg (by simp)]
  exact Ze fr ff ef ur od z q
 | some T =>
  obtain⟨Te,oT,ts,hT,dT,h3⟩:=ho T rfl
  rw[if_pos (by simp)]
  refine wpAny_bind (wpAny_field hT dT h3 ?_)
  rw[if_neg (by simp[rawInt])]
  have tz:3<ts.size:=(Array.getElem?_eq_some_iff.mp h3).1
  refine wpAny_bind (wpAny_setField hT dT tz ?_)
  have oth:∀b,b≠T→(s.heap.update T (Obj.mapFields (·.setIfInBounds 3 Value.none))).get? b=s.heap.get? b:=fun b hb=>Heap.get?_update_other _ _ (Ne.symm hb)
  have dT':=Obj.data_mapFields dT (·.setIfInBounds 3 Value.none)
  have hT':=Heap.get?_update_self (Obj.mapFields (·.setIfInBounds 3 Value.none)) hT (Obj.isFreed_of_fields dT')
  have nT:T∉frs (env::outer):=fun hm=>by
   obtain⟨_,o,ho,hnf⟩:=ff.mem hm
   rw[hT]at ho;cases ho;exact hnf ts dT
  refine Ze (s:={s with heap:=s.heap.update T (Obj.mapFields (·.setIfInBounds 3 Value.none))}) fr (ff.of_keeps fun b o hb hnf=>⟨o,(oth b fun w=>by subst w;rw[hT]at hb;cases hb;exact hnf ts dT).trans hb,rfl⟩) ef ((oth e (Ne.symm Te)).trans ur) od z fun h' F=>q h' ?_
  obtain⟨vs',T',x1,x2,x3,x4,x5⟩:=F.exc
  refine⟨fun b o nf nb no hb=>F.keep b o nf nb (by simp) ((oth b fun w=>no (by rw[w])).trans hb),fun b o nb no hb=>F.slot b o nb (by simp) ((oth b fun w=>no (by rw[w])).trans hb),⟨vs',T',x1,x2,x3,?_,x5⟩,fun b w=>?_⟩
  ·simpa [Heap.size_update] using x4
  ·cases w
   exact⟨_,_,F.keep T _ nT Te (by simp) hT',dT',by simp[tz]⟩
end
section
variable{P:Program}{w:World}{H:Hp}{h h':Heap}{fs:List Addr}{e:Addr}{oe:Obj}{vs:Array Value}{old:Option Addr}{φ:Heap→Prop}
theorem Za.held(F:Za fs e old oe h h')(ur:h.get? e=some oe)(hok:HOk P w H h)(ff:∀b∈fs,H b=none)(He:H e=some (.ext φ))(hφ:∀h1 h2:Heap,(∀o vs,h1.get? e=some o→h2.get? e=some {o with data:=.fields vs}→φ h1→φ h2))
  (ho:∀T,old=some T→H T=some (.ext (tbO T))) :
  ∃H',Same H H'∧Un fs [] H H' h h'∧HOk P w H' h'∧Ji h' H' e:=by
 obtain⟨vs',T,x1,x2,x3,x4,x5⟩:=F.exc
 have nT:H T=none:=hok.fresh x4
 have eT:∀b,old=some b→b≠T:=fun b w z=>by
  have:=ho b w
  rw[z,nT]at this;cases this
 have hs:Same H (upd H T (.ext (tbO T))):=fun b o q=>by rw[Am (Ba q nT)];exact q
 have tr:∀b o,H b=none→h.get? b=some o→b≠e∧old≠some b:=fun b o n q=>⟨fun z=>(by rw[z,He]at n;cases n),fun z=>(by rw[ho b z]at n;cases n)⟩
 refine⟨upd H T (.ext (tbO T)),hs,⟨fun b o q n nf _=>F.keep b o nf (tr b o n q).1 (tr b o n q).2 q,fun b o q n _ _=>F.slot b o (tr b o n q).1 (tr b o n q).2 q,fun b o q n _=>?_,fun b o q _=>?_,fun b xs q=>hs b _ q,fun b o u q=>hs b _ q,fun b ps q=>⟨#[],by rw[hs b _ q];simp⟩⟩,fun b u q=>?_,⟨_,vs',x1,rfl,.inr ⟨T,x2,x3,Aw⟩⟩⟩
 ·rw[Am]
  ·exact n
  ·intro z;rw[z,Heap.get?_none_of_le x4]at q;cases q
 ·by_cases z:b=e
  ·exact⟨_,by rw[z];exact x1⟩
  ·by_cases z':old=some b
   ·obtain⟨o',_,k,_⟩:=F.old b z';exact⟨o',k⟩
   ·obtain⟨sl,k⟩:=F.slot b o z z' q;exact⟨_,k⟩
 ·by_cases z:b=T
  ·subst z
   rw[Aw]at q;cases q
   exact⟨x5,let ⟨o,_,k,_⟩:=x5;⟨o,k⟩,Rk⟩
  ·rw[Am z]at q
   by_cases z1:b=e
   ·subst z1
    rw[He]at q;cases q
    obtain⟨p1,_,p3⟩:=hok b _ He
    exact⟨hφ h h' oe vs' ur x1 p1,⟨_,x1⟩,p3⟩
   ·by_cases z2:old=some b
    ·rw[ho b z2]at q;cases q
     have k:=F.old b z2
     exact⟨k,let ⟨o,_,k,_⟩:=k;⟨o,k⟩,Rk⟩
    ·refine(hok b u q).stay (fun c v hc r=>?_) (fun c r=>hs c _ r) fun c xs r=>hs c _ r
     have nf:c∉fs:=fun m=>by
      have:=ff c m
      rcases hc with rfl|hc
      ·rw[q]at this;cases this
      ·rw[hc]at this;cases this
     refine F.keep c v nf ?_ ?_ r
     ·rintro rfl
      rcases hc with rfl|hc
      ·exact z1 rfl
      ·rw[He]at hc;cases hc
     ·intro m
      rcases hc with rfl|hc
      ·exact z2 m
      ·rw[ho c m]at hc;cases hc
end
theorem Xd{a C dx:Addr}(h1 h2:Heap)(o:Obj)(vs:Array Value)(e1:h1.get? a=some o)(e2:h2.get? a=some {o with data:=.fields vs})(x:exO a C dx h1):exO a C dx h2:=by
 obtain⟨o',vs',q,r1,r2,r3⟩:=x
 rw[e1]at q;cases q
 exact⟨_,vs,e2,r1,r2,rfl⟩
def Exc(H:Hp)(a:Addr):Prop:=∃C dx,H a=some (.ext (exO a C dx))
theorem Exc.same{H H':Hp}{a:Addr}(x:Exc H a)(s:Same H H'):Exc H' a:=let ⟨C,dx,e⟩:=x;⟨C,dx,s _ _ e⟩
def CXe(P:Program)(w:World):CXT:=fun outer H s E e s' =>
 ∃a H',e=.ref a∧s'.os=s.os∧AllBare s'.gens∧Un (frs outer) [] H H' s.heap s'.heap∧HOk P w H' s'.heap∧Ji s'.heap H' a∧Exc H' a∧E (.ref a) none H'
def QC(X:Cx)(σ:St)(a:Addr)(H:Hp):Prop:=∀(pins:List (Addr×Obj))(s:Shared),Inv X pins σ H s→Ji s.heap H a→Exc H a→X.xe (.ref a) s
section
variable{X:Cx}{pins:List (Addr×Obj)}{σ:St}{H:Hp}{s:Shared}{a:Addr}{E:Value→Shared→Prop}{Q:Unit→Shared→Prop}
theorem AgY(I:Inv X pins σ H s)(hst:X.stack=X.env::X.outer)(hfr:X.env.frame=some X.env.locals)(fl:Ji s.heap H a)(ex:Exc H a)
  (q:∀H' h',Same H H'→Un (frs X.stack) [] H H' s.heap h'→HOk X.prog X.w H' h'→Ji h' H' a→Q () {s with heap:=h'}) :
  wpAny (model X.prog X.w) X.A (noteFrame (.ref a) X.env) (fun _ s'=>wpAny (model X.prog X.w) X.A (setFlight (.ref a) none) Q E s') E s:=by
 obtain⟨o,vs,e1,e2,e3⟩:=fl
 obtain⟨C,dx,He⟩:=ex
 have ff:=I.stack
 have fr:=I.ok.frames
 rw[hst]at ff fr
 have key:∀old:Option Addr,vs[1]? = some (old.elim .none .ref)→(∀T,old=some T→T≠a∧H T=some (.ext (tbO T))) →
   wpAny (model X.prog X.w) X.A (noteFrame (.ref a) X.env) (fun _ s'=>wpAny (model X.prog X.w) X.A (setFlight (.ref a) none) Q E s') E s:=by
  intro old h1 h2
  refine fly fr ff hfr e1 e2 h1 (fun T z=>⟨(h2 T z).1,(I.hok T _ (h2 T z).2).1⟩) fun h' F=>?_
  obtain⟨H',y1,y2,y3,y4⟩:=F.held e1 I.hok (fun b hb=>I.yQ b (by rw[hst];exact hb)) He (fun h1 h2 o vs x1 x2 x3=>Xd h1 h2 o vs x1 x2 x3) fun T z=>(h2 T z).2
  exact q H' h' y1 (by rw[hst];exact y2) y3 y4
 rcases e3 with e3|⟨T,e3,e4,e5⟩
 ·exact key none e3 fun _ z=>by cases z
 ·exact key (some T) e3 fun _ z=>by cases z;exact⟨e4,e5⟩
theorem lands(I:Inv X pins σ H s)(hst:X.stack=X.env::X.outer)(hfr:X.env.frame=some X.env.locals)(fl:Ji s.heap H a)(ex:Exc H a)
  (q:∀H' s',Same H H'→Inv X pins σ H' s'→Ji s'.heap H' a→Q () s') :
  wpAny (model X.prog X.w) X.A (noteFrame (.ref a) X.env) (fun _ s'=>wpAny (model X.prog X.w) X.A (setFlight (.ref a) none) Q E s') E s :=
 AgY I hst hfr fl ex fun H' h' y1 y2 y3 y4=>q H' _ y1 (I.call (t':=s.toks) (g':=s.gens) (d':=s.drawn) (ch:=[]) y2 y3 I.bare fun b z=>absurd z (by simp)) y4
theorem leaves(I:Inv X pins σ H s)(hst:X.stack=X.env::X.outer)(hfr:X.env.frame=some X.env.locals)(hx:X.ex=[])(fl:Ji s.heap H a)(ex:Exc H a)
  (q:∀H' s',s'.os=X.s₀.os→AllBare s'.gens→Same H H'→Un (frs X.outer) [] X.H₀ H' X.s₀.heap s'.heap→HOk X.prog X.w H' s'.heap→Ji s'.heap H' a→Exc H' a→Q () s') :
  wpAny (model X.prog X.w) X.A (leaving X.env (.ref a)) Q E s:=by
 refine wpAny_bind (AgY I hst hfr fl ex fun H' h' y1 y2 y3 y4=>q H' _ I.os I.bare y1 ?_ y3 y4 (ex.same y1))
 have b:=I.base
 rw[hx]at b
 have nl:∀c o,X.s₀.heap.get? c=some o→c≠X.env.locals:=fun c o e=>Nat.ne_of_lt (Nat.lt_of_lt_of_le (Heap.lt_size e) I.ok.above)
 have nf:∀c o,X.s₀.heap.get? c=some o→c∉frs X.outer→c∉frs X.stack:=fun c o e n m=>(List.mem_cons.mp (I.yP c m)).elim (nl c o e) n
 refine⟨fun c o e n m _=>y2.keep c o (b.keep c o e n m (by simp)) (b.free c o e n (by simp)) (nf c o e m) (by simp),fun c o e n m _=>?_,fun c o e n _=>?_,fun c o e _=>?_,fun c xs e=>y2.tups c xs (b.tups c xs e),fun c o u e=>y2.oX c o u (b.oX c o u e),fun c ps e=>?_⟩
 ·obtain⟨sl,e1⟩:=b.slot c o e n m (by simp)
  obtain⟨sl',e2⟩:=y2.any e1 (b.free c o e n (by simp)) (by simp)
  exact⟨sl',e2⟩
 ·obtain⟨o',e1⟩:=b.there c o e (by simp)
  exact y2.free c o' e1 (b.free c o e n (by simp)) (by simp)
 ·obtain⟨o',e1⟩:=b.there c o e (by simp)
  exact y2.there c o' e1 (by simp)
 ·obtain⟨m1,e1⟩:=b.pL c ps e
  obtain⟨m2,e2⟩:=y2.pL c _ e1
  exact⟨m1++m2,by rw[e2,Array.append_assoc]⟩
end
theorem Y7{P:Program}{w:World}{K:W.Frag}{mg:Str→Option Value}{base:Heap}{N:List Str}{qual:Str}{scope:Scope}{f:Addr}{cd:Value}{A:Around}{outer:List Env}{s:Shared}{H₀:Hp}{E:XK}{σ:St}{a:Addr}{H:Hp}
  (h:∀H',Same H H'→E (.ref a) none H'):QC (RD (CXe P w) P w K mg base N qual scope f cd A outer s H₀ E) σ a H:=fun pins s1 I fl ex =>
 leaves I rfl rfl rfl fl ex fun H' s' y1 y2 y3 y4 y5 y6 y7=>⟨a,H',rfl,y1,y2,y4,y5,y6,y7,h H' y3⟩
section
variable{X:Cx}{k:Nat}{f:Addr}{fd:FuncData}{ps:List Str}{sp:Sp}{x:Str}{p pos:Pos}{e:Expr}{es:List Expr}{t:TA}
def AiK(X:Cx)(sp:Sp)(t:TA):TE:=fun σ H Q=>t σ H fun vs H1=>sp vs H1 Q fun v _ H'=>∃a,v=.ref a∧QC X σ a H'
theorem AgA{pins:List (Addr×Obj)}{σ:St}{H:Hp}{s:Shared}{Q:VK}{us:List Value}{vs:List V}(F:El X.prog X.w X.K X.mg X.base (CXe X.prog X.w) k f fd ps sp)(hr:Dd k X.A)(hb:Binds X.K fd ps [])
  (I:Inv X pins σ H s) (r:Vals vs us) (h:sp vs H Q fun v _ H'=>∃a,v=.ref a∧QC X σ a H'):wpAny (model X.prog X.w) X.A (call (.ref f) us) (EP X pins σ Q) X.xe s:=by
 have hl:us.length=ps.length:=by rw[←r.length];exact F.len _ _ _ _ h
 have hb':=hb s us I.kIn (by rw[List.append_nil];exact hl)
 rw[List.append_nil]at hb'
 refine wpAny_call (codeAny_mono (F.run X.A X.stack s H ⟨us,[]⟩ us vs Q _ hr I.env0 hb' r h) fun r s' hq=>?_)
 cases r with
 | error e =>
  obtain⟨a,H',rfl,y1,y2,y3,y4,y5,y6,a',y7,y8⟩:=hq
  cases y7
  exact y8 pins s' (I.call' (ch:=[]) y1 y3 y4 y2 fun b z=>absurd z (by simp)) y5 y6
 | ok fl =>
  cases fl with
  |ret u=>exact I.after hq
  |next=>exact False.elim hq
  |brk=>exact False.elim hq
  |cont=>exact False.elim hq
theorem AcP(F:El X.prog X.w X.K X.mg X.base (CXe X.prog X.w) k f fd ps sp)(hr:Dd k X.A)(hg:Gl X x)(hm:X.mg x=some (.ref f))(hk:W.keepIn X.K (.ref f)=true)(hb:Binds X.K fd ps [])
  (ha:PA X (e::es) t) (hdb:(x==("__debug__":Str))=false:=by decide) (he:starEach (e::es) X.env=(false,eval e X.env)::starEach es X.env:=by rfl) (hpl:(backTo pos (starEach es X.env)).any (·.1)=false:=by rfl) :
  PE X (.Call (.Name x p) (e::es) [] pos) (AiK X sp t):=by
 intro pins s σ H Q I h
 refine wpAny_Call_Name_kw (Hr I hg hm ?_ hdb)
 refine W.callWith_K (h₀:=X.base) I.ok.mod.kin hk (thn (ha pos pins s σ H _ I h) fun us s1 ⟨vs,H1,I1,r,q⟩=>⟨I1.kIn,AgA F hr hb I1 r q⟩) he hpl
theorem El.calm{P:Program}{w:World}{K:W.Frag}{mg:Str→Option Value}{base:Heap}{k:Nat}{f:Addr}{fd:FuncData}{ps:List Str}{sp sp':Sp}(F:El P w K mg base (CXe P w) k f fd ps sp)
  (h:∀vs H Q E,sp' vs H Q E→sp vs H Q E0):El P w K mg base CX0 k f fd ps sp' :=
 ⟨fun vs H Q E q=>F.len vs H Q E0 (h _ _ _ _ q),fun A outer s H args us vs Q E hr he hb hv hs=>codeAny_mono (F.run A outer s H args us vs Q E0 hr he hb hv (h _ _ _ _ hs)) fun r s' hq=>by
  cases r with
  |error e=>obtain⟨_,_,_,_,_,_,_,_,_,z⟩:=hq;exact z.elim
  |ok fl=>cases fl<;>exact hq⟩
end
abbrev bmV:List Value:=[.type "ValueError",.type "Exception",.type "BaseException",.type "object"]
def Adh(es:Array DictEntry):Bool:=es.toList.all fun e=>match e.key with|.str _ _=>true|_=>false
theorem Aaf{es:Array DictEntry}(h:Adh es=true):StrKeys es:=fun e he=>by
 have:=List.all_eq_true.mp h e (Array.mem_toList_iff.mpr he)
 split at this
 ·rename_i n t q;exact⟨n,t,q⟩
 ·cases this
structure XC(K:W.Frag)(C F:Addr):Prop where
 obj:∃nm q N bs sn sub ab col dd k0 k1 k2 k3 k5,K.lookup C=some (excClassObj nm q C N bs (.ref F::bmV) true sn sub ab col dd k0 k1 k2 k3 k5 "ValueError.__new__")
 tail:∃c0 dd cd sl oc od es ep sl',K.lookup F=some ⟨c0,dd,.cls cd,sl⟩∧K.lookup cd.ns=some ⟨oc,od,.dict es ep,sl'⟩∧Adh es=true∧nsFind es "__init__"=none
 sa:W.findIn K (.ref C) "__setattr__"=some (some (.builtin "object.__setattr__"))
 ga:W.findIn K (.ref C) "__getattribute__"=some (some (.builtin "BaseException.__getattribute__"))
 gh:W.findIn K (.ref C) "__getattr__"=some none
 cl:W.findIn K (.ref C) "__class__"=some (some (.builtin "object.__class__"))
 gg:W.specialIn K (.builtin "object.__class__") "__get__"=some (some (.builtin "getset_descriptor.__get__"))
 gt:W.takesIn K (.builtin "object.__class__")=some true
theorem XC.own{K:W.Frag}{C F:Addr}{h:Heap}(c:XC K C F)(X:K.In h):OwnTail h bmV (.ref F::bmV):=by
 obtain⟨c0,dd,cd,sl,oc,od,es,ep,sl',h1,h2,h3,h4⟩:=c.tail
 exact .own (X _ _ h1) ⟨_,es,ep,X _ _ h2,rfl,Aaf h3,fun _=>rfl⟩ h4 .base
def excAt(C t:Addr):Obj:={cls:=.ref C,data:=.fields #[.ref t,.none,.none,.none,.bool false,.none]}
def AgW(vs:List Value):Obj:={cls:=.type "tuple",data:=.seq vs.toArray}
def withExc(h:Heap)(C:Addr)(vs:List Value):Heap:=(h.push (AgW vs)).push (excAt C h.objs.size)
theorem Ng{h:Heap}{C:Addr}{vs:List Value}{b:Addr}{o:Obj}(e:h.get? b=some o):(withExc h C vs).get? b=some o:=Heap.get?_push_of_some _ (Heap.get?_push_of_some _ e)
theorem Mg{h:Heap}{C:Addr}{vs:List Value}:(withExc h C vs).get? (h.objs.size+1)=some (excAt C h.objs.size):=by
 unfold withExc
 have e:h.objs.size+1=(h.push (AgW vs)).objs.size:=(Heap.size_push _ _).symm
 rw[e];exact Heap.get?_push_size _ rfl
section
variable{prog:Program}{w:World}{A:Around}{E:Value→Shared→Prop}{s:Shared}{K:W.Frag}{C U fI:Addr}{rest:List Value}
theorem Aa4{Q:Fin→Shared→Prop}(X:K.In s.heap)(c:XC K C U)(hi:W.findIn K (.ref C) "__init__"=some (some (.ref fI)))(hf:W.typeIn K (.ref fI)=some (.type "function"))(hz:rest.length≤sizeLine)
  (hq:wpAny (model prog w) A (call (.ref fI) (.ref (s.heap.objs.size+1)::rest)) (fun r s'=>r=.none∧Q (.done (.ret (.ref (s.heap.objs.size+1)))) s') E {s with heap:=withExc s.heap C rest}) :
  wpAny (model prog w) A (Builtin.«type.__call__» ⟨.ref C::rest,[]⟩) Q E s:=by
 obtain⟨nm,q,N,bs,sn,sub,ab,col,dd,k0,k1,k2,k3,k5,lk⟩:=c.obj
 obtain⟨h,g,d,t,os⟩:=s
 have oC:h.get? C=some _:=X _ _ lk
 have T:=c.own X
 have FB:=F.excBase_ValueError
 repeat (first|with_reducible refine wpAny_loadPart_at oC ?_|with_reducible refine wpAny_madeBy_exc oC ?_|wp_step)
 refine codeAny_call_builtin_code (Code.quiet_builtin _ FB.quiet) (wpAny_check_new_subT FB T oC (codeAny_exc_new_subT FB T oC ?_ hz))
 show wpAny (model prog w) A _ Q E {heap:=withExc h C rest,gens:=g,drawn:=d,toks:=t,os:=os}
 have X1:K.In (withExc h C rest):=X.keeps fun _ _=>Ng
 have oC1:(withExc h C rest).get? C=some _:=X1 _ _ lk
 have oe:(withExc h C rest).get? (h.objs.size+1)=some {cls:=.ref C,data:=.fields #[.ref h.objs.size,.none,.none,.none,.bool false,.none]}:=Mg
 have cC:(Value.ref C::(.ref U::bmV)).contains (.ref C)=true:=by simp
 unfold isInstance
 repeat (first|with_reducible refine wpAny_loadPart_at oe ?_|(with_reducible refine wpAny_isSubtype_exc oC1 ?_;rw[cC])|wp_step)
 show wpAny _ _ (typeLookup (.ref C) _) _ _ _
 refine(W.looks_findIn X1 hi) _ _ _ _ (fun _ _ e=>e) ?_
 refine wpAny_holding (wpAny_bind ((W.bind_fn X1 (.ref (h.objs.size+1)) hf) _ _ _ _ (fun _ _ e=>e) ?_))
 refine wpAny_bind (wpAny_mono hq (fun r s' hr=>?_) fun _ _ x=>x)
 obtain⟨rfl,hQ⟩:=hr
 wp_walk
 exact hQ
theorem AdB{Q:Value→Shared→Prop}(X:K.In s.heap)(c:XC K C U)(hi:W.findIn K (.ref C) "__init__"=some (some (.ref fI)))(hf:W.typeIn K (.ref fI)=some (.type "function"))(hz:rest.length≤sizeLine)
  (hq:wpAny (model prog w) (A.under (.builtin "type.__call__" ⟨.ref C::rest,[]⟩)) (call (.ref fI) (.ref (s.heap.objs.size+1)::rest)) (fun r s'=>r=.none∧Q (.ref (s.heap.objs.size+1)) s') E {s with heap:=withExc s.heap C rest}) :
  wpAny (model prog w) A (call (.ref C) rest) Q E s:=by
 obtain⟨nm,q,N,bs,sn,sub,ab,col,dd,k0,k1,k2,k3,k5,lk⟩:=id c.obj
 obtain⟨h,g,d,t,os⟩:=s
 have oC:h.get? C=some _:=X _ _ lk
 have u1:=tc_lookup
 have u2:=tc_bind (.ref C)
 have u3:(⟨h,g,d,t,os⟩:Shared).TypeIs (.ref C) "type":=⟨_,oC,rfl⟩
 refine wpAny_call (codeAny_of_tree ?_)
 show wpAny _ _ (callAny (.ref C) _) _ _ _
 repeat (any_goals (first|assumption|with_reducible refine wpAny_loadPart_at oC ?_|wp_step))
 exact⟨rfl,codeAny_call_builtin_at (Code.quiet_builtin _ (by decide +kernel)) entry_typeCall (wpAny_check_type_call_sub oC (Aa4 X c hi hf hz hq))⟩
theorem S6{env:Env}{x:Sem Value}{Q:Flow→Shared→Prop}(c:XC K C U)(hh:A.handled=none)
  (h:wpAny (model prog w) A x (fun v s₁=>K.In s₁.heap∧∃e od vs sl,v=.ref e∧s₁.heap.get? e=some ⟨.ref C,od,.fields vs,sl⟩∧vs[1]? = some .none∧E (.ref e) s₁) E s) :
  wpAny (model prog w) A (raiseStmt env (some x) none) Q E s:=by
 obtain⟨nm,q,N,bs,sn,sub,ab,col,dd,k0,k1,k2,k3,k5,lk⟩:=c.obj
 have cB:(Value.ref C::(.ref U::bmV)).contains (.type "BaseException")=true:=by simp
 unfold raiseStmt
 refine wpAny_bind (wpAny_mono h (fun v s₁ h₁=>?_) fun _ _ x=>x)
 obtain⟨X,e,od,vs,sl,rfl,he,h1,hE⟩:=h₁
 obtain⟨hp,g,d,tk,os⟩:=s₁
 have oC:hp.get? C=some _:=X _ _ lk
 repeat (first|with_reducible refine wpAny_loadPart_at he ?_|with_reducible refine wpAny_field he rfl h1 ?_|with_reducible refine wpAny_loadPart_at oC ?_|(with_reducible refine wpAny_isSubtype_exc oC ?_;rw[cB])|wp_step)
 exact wpAny_raiseNew_none hh hE
end
end L2
namespace L2
open PySem Spec PyProof.Rows W Builtin Builtin.ObjectAttr
section
variable{prog:Program}{w:World}{A:Around}{E:Value→Shared→Prop}{s:Shared}{K:W.Frag}{C U x:Addr}{name:Str}{v:Value}
theorem XC.cls(c:XC K C U):∃cd,clsIn K C=some cd∧cd.mro=.ref C :: .ref U::bmV∧cd.hasDict=true:=by
 obtain⟨nm,q,N,bs,sn,sub,ab,col,dd,k0,k1,k2,k3,k5,lk⟩:=c.obj
 exact⟨_,by unfold clsIn;rw[lk],rfl,rfl⟩
theorem XC.sub(c:XC K C U)(b:Value):mroIn K C b=some ((Value.ref C :: .ref U::bmV).contains b):=by
 obtain⟨cd,h1,h2,_⟩:=c.cls
 unfold mroIn
 rw[h1,Option.bind_some,h2]
 rfl
structure XB(K:W.Frag)(C:Addr):Prop where
 obj:∃nm q N bs bm hd sn sub ab col dd k0 k1 k2 k3 k5,K.lookup C=some (excClassObj nm q C N bs bm hd sn sub ab col dd k0 k1 k2 k3 k5 "ValueError.__new__")
 sb:mroIn K C (.type "BaseException")=some true
 so:mroIn K C (.type "object")=some true
 ga:W.findIn K (.ref C) "__getattribute__"=some (some (.builtin "BaseException.__getattribute__"))
 gh:W.findIn K (.ref C) "__getattr__"=some none
 cl:W.findIn K (.ref C) "__class__"=some (some (.builtin "object.__class__"))
 gg:W.specialIn K (.builtin "object.__class__") "__get__"=some (some (.builtin "getset_descriptor.__get__"))
 gt:W.takesIn K (.builtin "object.__class__")=some true
theorem XC.xb(c:XC K C U):XB K C:=by
 obtain⟨nm,q,N,bs,sn,sub,ab,col,dd,k0,k1,k2,k3,k5,lk⟩:=id c.obj
 exact⟨⟨_,_,_,_,_,_,_,_,_,_,_,_,_,_,_,_,lk⟩,by rw[c.sub];simp,by rw[c.sub];simp,c.ga,c.gh,c.cl,c.gg,c.gt⟩
theorem XB.cls(c:XB K C):(clsIn K C).isSome=true:=by
 obtain⟨nm,q,N,bs,bm,hd,sn,sub,ab,col,dd,k0,k1,k2,k3,k5,lk⟩:=c.obj
 unfold clsIn;rw[lk];rfl
theorem Acy{R:Result→Shared→Prop}{od:Option Obj}{ox:Obj}{tk:Tok}(X:K.In s.heap)(c:XC K C U)(I:InstAt s.heap x ox C od)(ht:takerIn K C name=some none)
  (h:∀b,wpAny (model prog w) A.in1 (storeInOwnDict (.ref x) (.ref C) (.str name tk) name v b)
   (fun fin s'=>match fin with|.done f=>R (.ok f) s'|.again c'=>c'.quiet=true∧codeAny (model prog w) A c' R s') (fun e s'=>R (.error e) s') s) :
  codeAny (model prog w) A (.call (.builtin "object.__setattr__") ⟨[.ref x,.str name tk,v],[]⟩) R s:=by
 have SF:=PySem.F.store_object
 have SV:=PySem.F.store_ValueError
 obtain⟨cd,hc,hm,_⟩:=c.cls
 have sub:Looks (model prog w) s.heap (isInstance (.ref x) (.type "object")) true:=I.type.andThen (looks_mroIn X (by rw[c.sub];simp))
 refine codeAny_call_builtin SF.slot.plain SF.entry (@check_slot (model prog w) _ _ s "object.__setattr__" "object" "__setattr__" (.ref x) [.str name tk,v] [] _ SF.kind SF.split sub (SF.args (.ref x) (.str name tk) v) ?_)
 obtain⟨attr,ha,hr⟩:=Option.bind_eq_some_iff.mp ht
 have mr:Looks (model prog w) s.heap (mroOf (.ref C)) cd.mro:=(looks_clsIn X hc).andThen .now
 have tk3:Looks (model prog w) s.heap (storeTaker? attr) none:=by
  cases attr with
  |none=>exact .now
  | some a =>
   obtain⟨b,hb,hn⟩:=Option.map_eq_some_iff.mp hr
   refine(looks_takesIn X hb).andThen ?_
   cases b with
   |true=>cases hn
   |false=>exact .now
 rw[osa_eq,refuse_eq]
 refine wpAny_bind (wpAny_bind (I.type.here (wpAny_bind (mr.here ?_))))
 rw[hm,refuseLoop_ref,refuseLoop_ref,SV.passes]
 exact wpAny_pure (wpAny_bind (I.type.here (wpAny_bind ((looks_findIn X ha).here (wpAny_bind (tk3.here (h _)))))))
theorem Ak8{Q:Unit→Shared→Prop}{vs:Array Value}{sl:Array (Option Value)}(X:K.In s.heap)(c:XC K C U)(ht:takerIn K C name=some none)(hx:s.heap.get? x=some ⟨.ref C,none,.fields vs,sl⟩)
  (h:∀h' tk',h'.get? x=some ⟨.ref C,some s.heap.objs.size,.fields vs,sl⟩→h'.Ns1 s.heap.objs.size (fun y=>if y=name then some v else none)→(∀b o,b≠x→s.heap.get? b=some o→h'.get? b=some o)→Q () {s with heap:=h',toks:=tk'}) :
  wpAny (model prog w) A (setAttr (.ref x) name v) Q E s:=by
 have I:InstAt s.heap x ⟨.ref C,none,.fields vs,sl⟩ C none:=⟨hx,rfl,rfl,trivial⟩
 refine set_plain X I c.sa (Acy (s:={s with toks:=s.toks+1}) X c I ht fun b=>?_)
 obtain⟨cd,hc,hm,hd⟩:=c.cls
 refine wpAny_bind (wpAny_pure (wpAny_bind ?_))
 show wpAny _ _ (instanceDict x true) _ _ _
 unfold instanceDict
 refine wpAny_bind (wpAny_loadPart hx ?_)
 dsimp only
 refine wpAny_bind ((looks_clsIn X hc).here (s:={s with toks:=s.toks+1}) ?_)
 rw[hd]
 obtain⟨hp,g,d,t,os⟩:=s
 have x1:(hp.push {cls:=.type "dict",data:=.dict #[]}).get? x=some ⟨.ref C,none,.fields vs,sl⟩:=Heap.get?_push_of_some _ hx
 have nx:x≠hp.objs.size:=Nat.ne_of_lt (Heap.lt_size hx)
 refine wpAny_bind (wpAny_alloc' (wpAny_bind (wpAny_update' x1 ?_)))
 refine wpAny_pure ?_
 have x2:=Heap.get?_update_self (fun o:Obj=>{cls:=o.cls,dict:=some hp.objs.size,data:=o.data,slots:=o.slots}) x1 rfl
 have gd:((hp.push {cls:=.type "dict",data:=.dict #[]}).update x fun o=>{cls:=o.cls,dict:=some hp.objs.size,data:=o.data,slots:=o.slots}).get? hp.objs.size=some {cls:=.type "dict",data:=.dict #[]} :=
  (Heap.get?_update_ne _ _ _ _ nx.symm).trans (Heap.get?_push_at rfl rfl)
 have nd:((hp.push {cls:=.type "dict",data:=.dict #[]}).update x fun o=>{cls:=o.cls,dict:=some hp.objs.size,data:=o.data,slots:=o.slots}).Ns hp.objs.size (fun _=>none) :=
  ⟨_,#[],_,gd,rfl,fun e he=>absurd he (by simp),fun _=>rfl⟩
 show wpAny _ _ (storeInDict hp.objs.size (.str name _) name v) _ _ _
 unfold storeInDict newKeyGuard
 refine wpAny_bind (wpAny_pure (wpAny_bind (wpAny_nsSet1 (Heap.Ns1.of_empty nd) fun h' hn' hs=>?_)))
 obtain⟨oD,esD,epD,hoD,hdD,hcD⟩:=hn'.count (Within.cons name v Within.nil)
 refine wpAny_bind (wpAny_lookBehind hoD (by rw[hdD];exact pastItsLine_dict (Nat.le_trans hcD (by rw[List.length_cons,List.length_nil,sizeLine_eq];omega))) ?_)
 refine wpAny_pure (h h' _ ((hs.2 x nx).trans x2) hn' fun b o nb hb=>?_)
 exact(hs.2 b (Nat.ne_of_lt (Heap.lt_size hb))).trans ((Heap.get?_update_ne _ _ _ _ nb).trans (Heap.get?_push_of_some _ hb))
end
end L2
namespace L2
open PySem Spec PyProof.Rows W Builtin Builtin.ObjectAttr
section
variable{prog:Program}{w:World}{A:Around}{E:Value→Shared→Prop}{s:Shared}{K:W.Frag}{C U x:Addr}{name:Str}{v:Value}{ox:Obj}{od:Option Obj}
theorem Zc{tk:Tok}{fill expr:Bool}{Q:Value→Shared→Prop}(X:K.In s.heap)(c:XB K C)(I:InstAt s.heap x ox C od)(hv:handedIn v=true)
  (h:wpAny (model prog w) A.in1 (Builtin.«object.__getattribute__» ⟨[.ref x,.str name tk],[]⟩) (fun fin s'=>fin=.done (.ret v)∧Q v s') (fun _ _=>False) s) :
  wpAny (model prog w) A (getAttrBy (.ref x) (.str name tk) fill expr) Q E s:=by
 have FX:=PySem.F.excAttr_ValueError
 have e0:(expr&&onTheHeap (Value.builtin "BaseException.__getattribute__"))=false:=by cases expr<;>rfl
 have e2:(Value.builtin "BaseException.__getattribute__"==Value.builtin "object.__getattribute__")=false:=by decide +kernel
 have L0:=I.type (M:=model prog w)
 have L1:=looks_findIn (M:=model prog w) X c.ga
 have L2:=looks_findIn (M:=model prog w) X c.gh
 have sub:Looks (model prog w) s.heap (isInstance (.ref x) (.type "BaseException")) true:=I.type.andThen (looks_mroIn X c.sb)
 unfold getAttrBy
 refine wpAny_holding (wpAny_bind (L0.here (wpAny_bind (L1.here ?_))))
 dsimp only
 rw[show(onTheHeap (Value.ref C)&&Value.builtin "BaseException.__getattribute__"==Value.builtin "object.__getattribute__")=false by rw[e2];rfl]
 unfold getAttrByItsOwn hookBefore
 refine wpAny_bind (L2.here (wpAny_bind (wpAny_attempt ?_)))
 unfold callGetattribute
 rw[e0]
 refine wpAny_holding ?_
 unfold boundAndCalled
 rw[show(if false=true then runValue (.builtin "lifetime.attribute" ⟨[.ref x,.str name tk,.builtin "BaseException.__getattribute__"],[]⟩)else(do let (g,first) ←bindSpecial (.builtin "BaseException.__getattribute__") (.ref x);call g (first++[.str name tk])))=(do let (g,first) ←bindSpecial (.builtin "BaseException.__getattribute__") (.ref x);call g (first++[.str name tk]))from rfl,FX.ga.bind]
 refine wpAny_bind (wpAny_pure (wpAny_call (codeAny_call_builtin FX.ga.plain F.entry_bexc_ga (check_slot (i:="BaseException.__getattribute__") (owner:="BaseException") (n:="__getattribute__") (by decide +kernel) (by decide +kernel) sub (F.args_bexc_ga _ _) (wpAny_mono h (fun fin s' hq=>?_) fun _ _ z=>z.elim)))))
 obtain⟨rfl,q⟩:=hq
 show wpAny _ _ (handedOut v) _ _ _
 rw[handedOut_of hv]
 exact wpAny_pure q
theorem AnR{expr:Bool}{Q:Value→Shared→Prop}(X:K.In s.heap)(c:XB K C)(I:InstAt s.heap x ox C od)(hf:findObj K C od name=some (.value v))(hv:handedIn v=true)(h:Q v {s with toks:=s.toks+1}) :
  wpAny (model prog w) A (getAttr (.ref x) name expr) Q E s:=by
 unfold getAttr
 refine wpAny_bind (wpAny_mkText (Zc (s:={s with toks:=s.toks+1}) X c I hv ?_))
 refine wpAny_bind (wpAny_pure (wpAny_bind (wpAny_pure (wpAny_bind (I.type.here (s:={s with toks:=s.toks+1}) (wpAny_bind ((looks_find X I hf).here (s:={s with toks:=s.toks+1}) ?_)))))))
 exact wpAny_pure ⟨rfl,h⟩
theorem Ai3{Q:Option Value→Shared→Prop}(X:K.In s.heap)(c:XB K C)(I:InstAt s.heap x ox C od)(h:Q (some (.ref C)) {s with toks:=s.toks+1}) :
  wpAny (model prog w) A (getAttr? (.ref x) "__class__") Q E s:=by
 have hf:findObj K C od "__class__"=some (.bind (.builtin "getset_descriptor.__get__") (.builtin "object.__class__")):=by
  obtain⟨cd,hc⟩:=Option.isSome_iff_exists.mp c.cls
  unfold findObj
  rw[hc,Option.bind_some,c.cl,Option.bind_some]
  simp[c.gg,c.gt]
 unfold getAttr? getAttrBy?
 refine wpAny_bind (wpAny_mkText (wpAny_bind (wpAny_attempt (Zc (v:=.ref C) (s:={s with toks:=s.toks+1}) X c I rfl ?_))))
 refine wpAny_bind (wpAny_pure (wpAny_bind (wpAny_pure (wpAny_bind (I.type.here (s:={s with toks:=s.toks+1}) (wpAny_bind ((looks_find X I hf).here (s:={s with toks:=s.toks+1}) ?_)))))))
 show wpAny _ _ (holding [.builtin "object.__class__"] (call (.builtin "getset_descriptor.__get__") [.builtin "object.__class__",.ref x,.ref C]) >>= ret) _ _ _
 exact wpAny_bind (wpAny_holding (wpAny_call (class_get (s:={s with toks:=s.toks+1}) X I c.so (wpAny_pure ⟨rfl,wpAny_pure h⟩))))
theorem AiZ(c:XB K C):KitX K (.ref x) (.ref C) (fun h=>∃ox od,InstAt h x ox C od) where
 ty:=fun _ _ _ ⟨_,_,I⟩=>I.type
 it:=fun _ _ X _=>by
  obtain⟨nm,q,N,bs,bm,hd,sn,sub,ab,col,dd,k0,k1,k2,k3,k5,lk⟩:=c.obj
  intro A' Q' E' s' k q
  unfold isType loadHead
  exact wpAny_bind (wpAny_loadPart (k _ _ (X _ _ lk)) (wpAny_pure q))
 ne:=fun h tp dd its n sl X htp=>by
  obtain⟨nm,q,N,bs,bm,hd,sn,sub,ab,col,dd,k0,k1,k2,k3,k5,lk⟩:=c.obj
  refine Bool.eq_false_iff.mpr fun q=>?_
  have e:C=tp:=Value.ref.inj (beq_iff_eq.mp q)
  subst e
  have z:=congrArg Obj.cls (Option.some.inj ((X _ _ lk).symm.trans htp))
  exact absurd (Value.type.inj z) (by decide)
 ca:=fun X ⟨_,_,I⟩ k=>Ai3 X c I k
end
end L2
namespace L2
open PySem Spec PyProof.Rows SeqAt
inductive Dt where
 | non | bl (b:Bool) | int (i:Int) | str (x:Str) | tup (ds:List Dt) | lst (ds:List Dt) | fn (a:Addr)
  |exc (c:Str) (ns:List Str) (ds:List Dt)
  |obj (c:Str) (ns:List Str) (ds:List Dt)
def LsD(K:W.Frag)(H:Hp)(a:Addr)(xs:List V):Prop:=H a=some (.lst xs)∨(SqL K H a xs∧∀x∈xs,∃i:Int,x=.int i)
theorem LsD.sq{K:W.Frag}{H:Hp}{a:Addr}{xs:List V}(h:LsD K H a xs):SqL K H a xs:=by
 rcases h with h|⟨h,_⟩
 ·exact SqL.of h
 ·exact h
theorem LsD.mono{K:W.Frag}{H H':Hp}{a:Addr}{xs:List V}(s:Same H H')(h:LsD K H a xs):LsD K H' a xs:=by
 rcases h with h|⟨h,q⟩
 ·exact .inl (s _ _ h)
 ·exact .inr ⟨s.seq h,q⟩
mutual
def Rp(K:W.Frag)(H:Hp):Dt→V→Prop
 |.non,v=>v=.non
 |.bl b,v=>v=.bl b
 |.int i,v=>v=.int i
 |.str x,v=>v=.str x
 |.fn a,v=>v=.ref a
 |.exc c ns ds,v=>∃a C U dx vs,v=.ref a∧W.nsIn K mainGlobals c=some (some (.ref C))∧XC K C U∧H a=some (.ext (exO a C dx))∧(H dx=some (.xd (ns.zip vs))∨dx=a∧ns=[])∧ns.length=ds.length∧RpL K H ds vs
 |.obj c ns ds,v=>∃a C dx vs,v=.ref a∧W.nsIn K mainGlobals c=some (some (.ref C))∧Cls K C∧H a=some (.ins C dx (ns.zip vs))∧ns.length=ds.length∧RpL K H ds vs
 |.tup ds,v=>∃a xs,v=.ref a∧SqT K H a xs∧RpL K H ds xs
 |.lst ds,v=>∃a xs,v=.ref a∧LsD K H a xs∧RpL K H ds xs
def RpL(K:W.Frag)(H:Hp):List Dt→List V→Prop
 | [],xs=>xs=[]
 |d::ds,xs=>∃v r,xs=v::r∧Rp K H d v∧RpL K H ds r
end
theorem Same.mD{K:W.Frag}{H H':Hp}{a:Addr}{xs:List V}(e:Same H H')(h:SqT K H a xs):SqT K H' a xs:=by
 rcases h with(h|⟨o,h⟩)|h
 ·exact .inl (.inl (e _ _ h))
 ·exact .inl (.inr ⟨o,e _ _ h⟩)
 ·exact .inr h
mutual
theorem Rp.mono{K:W.Frag}{H H':Hp}(s:Same H H'):∀{d:Dt} {v:V},Rp K H d v→Rp K H' d v
 |.non,_,h=>by unfold Rp at h ⊢;exact h
 |.bl _,_,h=>by unfold Rp at h ⊢;exact h
 |.int _,_,h=>by unfold Rp at h ⊢;exact h
 |.str _,_,h=>by unfold Rp at h ⊢;exact h
 |.fn _,_,h=>by unfold Rp at h ⊢;exact h
 | .exc _ _ _,_,h=>by
  unfold Rp at h ⊢
  obtain⟨a,C,U,dx,vs,e,q,x,h1,h2,l,r⟩:=h
  exact⟨a,C,U,dx,vs,e,q,x,s _ _ h1,h2.imp (s _ _) id,l,RpL.mono s r⟩
 | .obj _ _ _,_,h=>by
  unfold Rp at h ⊢
  obtain⟨a,C,dx,vs,e,q,x,h1,l,r⟩:=h
  exact⟨a,C,dx,vs,e,q,x,s _ _ h1,l,RpL.mono s r⟩
 | .tup ds,_,h=>by
  unfold Rp at h ⊢
  obtain⟨a,xs,e,q,r⟩:=h
  exact⟨a,xs,e,s.mD q,RpL.mono s r⟩
 | .lst ds,_,h=>by
  unfold Rp at h ⊢
  obtain⟨a,xs,e,q,r⟩:=h
  exact⟨a,xs,e,q.mono s,RpL.mono s r⟩
theorem RpL.mono{K:W.Frag}{H H':Hp}(s:Same H H'):∀{ds:List Dt} {vs:List V},RpL K H ds vs→RpL K H' ds vs
 | [],_,h=>by unfold RpL at h ⊢;exact h
 | d::ds,_,h=>by
  unfold RpL at h ⊢
  obtain⟨v,r,e,q,p⟩:=h
  exact⟨v,r,e,Rp.mono s q,RpL.mono s p⟩
end
section
variable{K:W.Frag}{H:Hp}
theorem QG{v:V}:Rp K H .non v↔v=.non:=by unfold Rp;exact Iff.rfl
theorem Fw{b:Bool}{v:V}:Rp K H (.bl b) v↔v=.bl b:=by unfold Rp;exact Iff.rfl
theorem Bl{i:Int}{v:V}:Rp K H (.int i) v↔v=.int i:=by unfold Rp;exact Iff.rfl
theorem Xq{x:Str}{v:V}:Rp K H (.str x) v↔v=.str x:=by unfold Rp;exact Iff.rfl
theorem AcD{a:Addr}{v:V}:Rp K H (.fn a) v↔v=.ref a:=by unfold Rp;exact Iff.rfl
theorem Lg{c:Str}{ns:List Str}{ds:List Dt}{v:V}:Rp K H (.exc c ns ds) v↔∃a C U dx vs,v=.ref a∧W.nsIn K mainGlobals c=some (some (.ref C))∧XC K C U∧H a=some (.ext (exO a C dx))∧(H dx=some (.xd (ns.zip vs))∨dx=a∧ns=[])∧ns.length=ds.length∧RpL K H ds vs:=by rw[Rp]
theorem Ug{c:Str}{ns:List Str}{ds:List Dt}{v:V}:Rp K H (.obj c ns ds) v↔∃a C dx vs,v=.ref a∧W.nsIn K mainGlobals c=some (some (.ref C))∧Cls K C∧H a=some (.ins C dx (ns.zip vs))∧ns.length=ds.length∧RpL K H ds vs:=by rw[Rp]
theorem Em{ds:List Dt}{v:V}:Rp K H (.tup ds) v↔∃a xs,v=.ref a∧SqT K H a xs∧RpL K H ds xs:=by rw[Rp]
theorem PK{ds:List Dt}{v:V}:Rp K H (.lst ds) v↔∃a xs,v=.ref a∧LsD K H a xs∧RpL K H ds xs:=by rw[Rp]
theorem Mx{ds:List Dt}{v:V}(h:∃a xs,v=.ref a∧H a=some (.lst xs)∧RpL K H ds xs):Rp K H (.lst ds) v:=let ⟨a,xs,e,h1,h2⟩:=h;PK.mpr ⟨a,xs,e,.inl h1,h2⟩
theorem Hw{ds:List Dt}{v:V}(h:Rp K H (.lst ds) v):∃a xs,v=.ref a∧SqL K H a xs∧RpL K H ds xs:=let ⟨a,xs,e,h1,h2⟩:=PK.mp h;⟨a,xs,e,h1.sq,h2⟩
theorem Agj{ns:List Int}{a:Addr}(h:SqL K H a (ns.map V.int))(r:RpL K H (ns.map Dt.int) (ns.map V.int)):Rp K H (.lst (ns.map Dt.int)) (.ref a):=PK.mpr ⟨a,_,rfl,.inr ⟨h,fun x hx=>by obtain⟨i,_,rfl⟩:=List.mem_map.mp hx;exact⟨i,rfl⟩⟩,r⟩
theorem BX{vs:List V}:RpL K H [] vs↔vs=[]:=by rw[RpL]
theorem Bj{d:Dt}{ds:List Dt}{vs:List V}:RpL K H (d::ds) vs↔∃v r,vs=v::r∧Rp K H d v∧RpL K H ds r:=by rw[RpL]
theorem RpL.nil:RpL K H [] []:=BX.mpr rfl
theorem RpL.cons{d:Dt}{ds:List Dt}{v:V}{vs:List V}(h:Rp K H d v)(r:RpL K H ds vs):RpL K H (d::ds) (v::vs):=Bj.mpr ⟨v,vs,rfl,h,r⟩
theorem RpL.len:∀{ds:List Dt} {vs:List V},RpL K H ds vs→vs.length=ds.length
 | [],_,h=>by rw[BX.mp h];rfl
 | d::ds,_,h=>by
  obtain⟨v,r,rfl,_,p⟩:=Bj.mp h
  simp[RpL.len p]
theorem RpL.get:∀{ds:List Dt} {vs:List V} {i:Nat} {d:Dt},RpL K H ds vs→ds[i]? = some d→∃v,vs[i]? = some v∧Rp K H d v
 | [],_,_,_,_,e=>by simp at e
 | d::ds,_,0,_,h,e=>by
  obtain⟨v,r,rfl,q,p⟩:=Bj.mp h
  simp at e;subst e
  exact⟨v,rfl,q⟩
 | d::ds,_,i+1,_,h,e=>by
  obtain⟨v,r,rfl,q,p⟩:=Bj.mp h
  obtain⟨u,e1,e2⟩:=RpL.get (i:=i) p (by simpa using e)
  exact⟨u,by simpa using e1,e2⟩
theorem RpL.get':∀{ds:List Dt} {vs:List V} {i:Nat} {v:V},RpL K H ds vs→vs[i]? = some v→∃d,ds[i]? = some d∧Rp K H d v
 | [],_,_,_,h,e=>by rw[BX.mp h]at e;simp at e
 | d::ds,_,0,_,h,e=>by
  obtain⟨v,r,rfl,q,p⟩:=Bj.mp h
  simp at e;subst e
  exact⟨d,rfl,q⟩
 | d::ds,_,i+1,_,h,e=>by
  obtain⟨v,r,rfl,q,p⟩:=Bj.mp h
  obtain⟨u,e1,e2⟩:=RpL.get' (i:=i) p (by simpa using e)
  exact⟨u,by simpa using e1,e2⟩
theorem RpL.append:∀{ds es:List Dt} {vs ws:List V},RpL K H ds vs→RpL K H es ws→RpL K H (ds++es) (vs++ws)
 | [],_,_,_,h,q=>by rw[BX.mp h];exact q
 | d::ds,_,_,_,h,q=>by
  obtain⟨v,r,rfl,a,p⟩:=Bj.mp h
  exact .cons a (RpL.append p q)
theorem RpL.drop:∀{ds:List Dt} {vs:List V} (n:Nat),RpL K H ds vs→RpL K H (ds.drop n) (vs.drop n)
 |_,_,0,h=>by simpa using h
 | [],_,n+1,h=>by rw[BX.mp h];simpa using RpL.nil
 | d::ds,_,n+1,h=>by
  obtain⟨v,r,rfl,a,p⟩:=Bj.mp h
  simpa using RpL.drop n p
theorem RpL.take:∀{ds:List Dt} {vs:List V} (n:Nat),RpL K H ds vs→RpL K H (ds.take n) (vs.take n)
 |_,_,0,h=>by simpa using RpL.nil
 | [],_,n+1,h=>by rw[BX.mp h];simpa using RpL.nil
 | d::ds,_,n+1,h=>by
  obtain⟨v,r,rfl,a,p⟩:=Bj.mp h
  simpa using RpL.cons a (RpL.take n p)
theorem RpL.ints:∀(ns:List Int),RpL K H (ns.map Dt.int) (ns.map V.int)
 | []=>RpL.nil
 |_::ns=>RpL.cons (Bl.mpr rfl) (RpL.ints ns)
end
def mask(O:List Addr)(H:Hp):Hp:=fun a=>if a∈O then none else H a
theorem DR{O:List Addr}{H:Hp}{a:Addr}(h:a∈O):mask O H a=none:=if_pos h
theorem Bh{O:List Addr}{H:Hp}{a:Addr}(h:a∉O):mask O H a=H a:=if_neg h
theorem Cv{O:List Addr}{H:Hp}{a:Addr}{o:HO}(h:mask O H a=some o):a∉O∧H a=some o:=by
 by_cases q:a∈O
 ·rw[DR q]at h;cases h
 ·rw[Bh q]at h;exact⟨q,h⟩
theorem Bv{O:List Addr}{H:Hp}:Same (mask O H) H:=fun _ _ h=>(Cv h).2
theorem Same.mask{O:List Addr}{H H':Hp}(s:Same H H'):Same (mask O H) (L2.mask O H'):=fun a o h=>by
 obtain⟨q,e⟩:=Cv h
 rw[Bh q];exact s a o e
theorem FN{O O':List Addr}{H:Hp}(h:∀a∈O',a∈O):Same (mask O H) (mask O' H):=fun a o e=>by
 obtain⟨q,e⟩:=Cv e
 rw[Bh fun z=>q (h a z)];exact e
theorem Same.upd{H:Hp}{p:Addr}{o:HO}(h:H p=none):Same H (L2.upd H p o):=fun a u e=>by
 rw[Am (Ba e h)];exact e
def tabAt(a:Addr)(xs:List (List Key×Addr×Value))(h:Heap):Prop:=(a==sysModules)=false∧∃(P:Program)(w:World)(o:Obj)(es:Array DictEntry)(ep:Nat),h.get? a=some o∧o.ExactDict∧o.data=.dict es ep∧es.toList=xs.map (entryOfKey (tupleKind (T7 P w)))∧(xs.map (·.1)).Nodup
def Aev(K:W.Frag)(H:Hp)(ks:List (List Int))(xs:List (List Key×Addr×Value)):Prop:=xs.map (·.1)=ks.map (·.map Sum.inl)∧∀x∈xs,SqT K H x.2.1 (x.1.map kV)
theorem Aev.mono{K:W.Frag}{H H':Hp}{ks:List (List Int)}{xs:List (List Key×Addr×Value)}(s:Same H H')(h:Aev K H ks xs):Aev K H' ks xs:=⟨h.1,fun x hx=>s.mD (h.2 x hx)⟩
inductive En where
 |is (d:Dt)|own (ds:List Dt)|tab (ks:List (List Int))|raw (v:V)
abbrev BW:=List (Option En)
abbrev DTE:=BW→(Dt→Prop)→Prop
abbrev DTT:=BW→(Bool→Prop)→Prop
abbrev DTA:=BW→(List Dt→Prop)→Prop
structure G7 where
 nx:BW→Prop
 rt:Dt→Prop
 bk:BW→Prop:=fun _=>False
 ct:BW→Prop:=fun _=>False
abbrev DTS:=G7→BW→Prop
structure Rep(K:W.Frag)(B:Hp)(F O:List Addr)(H:Hp)(σ:St)(ρ:BW):Prop where
 len:σ.length=ρ.length
 base:Same B H
 fr:∀a∈O,B a=none
 th:∀a∈F++O,H a≠none
 is:∀(i:Nat)(d:Dt),ρ[i]? = some (some (.is d))→∃v,σ[i]? = some (some v)∧Rp K (mask (F++O) H) d v
 own:∀(i:Nat)(ds:List Dt),ρ[i]? = some (some (.own ds))→∃a xs,σ[i]? = some (some (.ref a))∧a∈O∧a∉F∧H a=some (.lst xs)∧RpL K (mask (F++O) H) ds xs
 inj:∀(i j:Nat)(ds es:List Dt)(a:Addr),ρ[i]? = some (some (.own ds))→ρ[j]? = some (some (.own es))→σ[i]? = some (some (.ref a))→σ[j]? = some (some (.ref a))→i=j
 tab:∀(i:Nat)(ks:List (List Int)),ρ[i]? = some (some (.tab ks))→∃a xs,σ[i]? = some (some (.ref a))∧a∈O∧a∉F∧H a=some (.ext (tabAt a xs))∧Aev K (mask (F++O) H) ks xs
 wO:∀(i j:Nat)(ks ls:List (List Int))(a:Addr),ρ[i]? = some (some (.tab ks))→ρ[j]? = some (some (.tab ls))→σ[i]? = some (some (.ref a))→σ[j]? = some (some (.ref a))→i=j
 raw:∀(i:Nat)(v:V),ρ[i]? = some (some (.raw v))→σ[i]? = some (some v)
theorem Ri{ρ:BW}{i:Nat}{y:Option En}(hy:∀v,y≠some (.raw v)){j:Nat}{v:V}(e:(ρ.set i y)[j]? = some (some (.raw v))):j≠i∧ρ[j]? = some (some (.raw v)):=by
 by_cases hj:j=i
 ·subst hj
  by_cases hk:j<ρ.length
  ·rw[List.getElem?_set_self hk]at e;exact(hy v (Option.some.inj e)).elim
  ·rw[List.getElem?_eq_none (by simpa using hk)]at e;cases e
 ·rw[List.getElem?_set_ne (Ne.symm hj)]at e;exact⟨hj,e⟩
theorem Rep.adH{K:W.Frag}{B:Hp}{F O:List Addr}{H:Hp}{σ:St}{ρ:BW}(r:Rep K B F O H σ ρ){i:Nat}{x:Option V}{y:Option En}(hy:∀v,y≠some (.raw v))(j:Nat)(v:V)(e:(ρ.set i y)[j]? = some (some (.raw v))):(σ.set i x)[j]? = some (some v):=by
 obtain⟨hj,e⟩:=Ri hy e
 rw[List.getElem?_set_ne (Ne.symm hj)]
 exact r.raw j v e
section
variable{K:W.Frag}{B:Hp}{F O:List Addr}{H H':Hp}{σ:St}{ρ:BW}
theorem Rep.same(r:Rep K B F O H σ ρ)(s:Same H H'):Rep K B F O H' σ ρ where
 len:=r.len
 base:=r.base.trans s
 fr:=r.fr
 th:=fun a h e=>by
  have:=r.th a h
  cases q:H a with
  |none=>exact this q
  |some o=>rw[s a o q]at e;cases e
 is:=fun i d e=>let ⟨v,h1,h2⟩:=r.is i d e;⟨v,h1,h2.mono s.mask⟩
 own:=fun i ds e=>let ⟨a,xs,h1,h2,h3,h4,h5⟩:=r.own i ds e;⟨a,xs,h1,h2,h3,s _ _ h4,h5.mono s.mask⟩
 inj:=r.inj
 tab:=fun i ks e=>let ⟨a,xs,h1,h2,h3,h4,h5⟩:=r.tab i ks e;⟨a,xs,h1,h2,h3,s _ _ h4,h5.mono s.mask⟩
 wO:=r.wO
 raw:=r.raw
theorem Rep.below(r:Rep K B F O H σ ρ):Same (mask F B) (mask (F++O) H):=fun a o e=>by
 obtain⟨q,e⟩:=Cv e
 rw[Bh]
 ·exact r.base a o e
 ·intro z
  rcases List.mem_append.mp z with z|z
  ·exact q z
  ·rw[r.fr a z]at e;cases e
theorem Rep.set(r:Rep K B F O H σ ρ)(i:Nat){d:Dt}{v:V}(h:Rp K (mask (F++O) H) d v):Rep K B F O H (σ.set i (some v)) (ρ.set i (some (.is d))):=by
 have hl:=r.len
 have back:∀(j:Nat)(ds:En),(∀z,ds≠.is z)→(ρ.set i (some (.is d)))[j]? = some (some ds)→j≠i∧ρ[j]? = some (some ds):=fun j ds nz e=>by
  by_cases hj:j=i
  ·subst hj
   by_cases hk:j<ρ.length
   ·rw[List.getElem?_set_self hk]at e;cases e;exact(nz d rfl).elim
   ·rw[List.getElem?_eq_none (by simpa using hk)]at e;cases e
  ·rw[List.getElem?_set_ne (Ne.symm hj)]at e;exact⟨hj,e⟩
 refine⟨by simpa using hl,r.base,r.fr,r.th,fun j e q=>?_,fun j ds q=>?_,fun j k ds es a h1 h2 h3 h4=>?_,fun j ks q=>?_,fun j k ds es a h1 h2 h3 h4=>?_,fun j u q=>?_⟩
 ·by_cases hj:j=i
  ·subst hj
   by_cases hk:j<ρ.length
   ·rw[List.getElem?_set_self hk]at q
    cases q
    exact⟨v,List.getElem?_set_self (by omega),h⟩
   ·rw[List.getElem?_eq_none (by simpa using hk)]at q;cases q
  ·rw[List.getElem?_set_ne (Ne.symm hj)]at q ⊢
   exact r.is j e q
 ·obtain⟨hj,q⟩:=back j _ (fun _ z=>by cases z) q
  rw[List.getElem?_set_ne (Ne.symm hj)]
  exact r.own j ds q
 ·obtain⟨hj,q1⟩:=back j _ (fun _ z=>by cases z) h1
  obtain⟨hk,q2⟩:=back k _ (fun _ z=>by cases z) h2
  rw[List.getElem?_set_ne (Ne.symm hj)]at h3
  rw[List.getElem?_set_ne (Ne.symm hk)]at h4
  exact r.inj j k ds es a q1 q2 h3 h4
 ·obtain⟨hj,q⟩:=back j _ (fun _ z=>by cases z) q
  rw[List.getElem?_set_ne (Ne.symm hj)]
  exact r.tab j ks q
 ·obtain⟨hj,q1⟩:=back j _ (fun _ z=>by cases z) h1
  obtain⟨hk,q2⟩:=back k _ (fun _ z=>by cases z) h2
  rw[List.getElem?_set_ne (Ne.symm hj)]at h3
  rw[List.getElem?_set_ne (Ne.symm hk)]at h4
  exact r.wO j k ds es a q1 q2 h3 h4
 ·obtain⟨hj,q⟩:=back j _ (fun _ z=>by cases z) q
  rw[List.getElem?_set_ne (Ne.symm hj)]
  exact r.raw j u q
end
def lE(K:W.Frag)(t:DTE):TE:=fun σ H Q=>∃B F O ρ,Rep K B F O H σ ρ∧t ρ fun d=>∀v H',Same H H'→Rp K (mask (F++O) H') d v→Q v H'
def lT(K:W.Frag)(t:DTT):TT:=fun σ H Q=>∃B F O ρ,Rep K B F O H σ ρ∧t ρ fun b=>∀H',Same H H'→Q b H'
def lA(K:W.Frag)(t:DTA):TA:=fun σ H Q=>∃B F O ρ,Rep K B F O H σ ρ∧t ρ fun ds=>∀vs H',Same H H'→RpL K (mask (F++O) H') ds vs→Q vs H'
def lD(K:W.Frag)(B:Hp)(F:List Addr)(D:Ends):G7 where
 nx:=fun ρ'=>∀O' σ' H',Rep K B F O' H' σ' ρ'→D.nx σ' H'
 rt:=fun d=>∀v H',Same B H'→Rp K (mask F H') d v→D.rt v H'
 bk:=fun ρ'=>∀O' σ' H',Rep K B F O' H' σ' ρ'→D.bk σ' H'
 ct:=fun ρ'=>∀O' σ' H',Rep K B F O' H' σ' ρ'→D.ct σ' H'
def lS(K:W.Frag)(t:DTS):TS:=fun D σ H=>∃B F O ρ,Rep K B F O H σ ρ∧t (lD K B F D) ρ
structure G7.le(D D':G7):Prop where
 nx:∀ρ,D.nx ρ→D'.nx ρ
 rt:∀d,D.rt d→D'.rt d
 bk:∀ρ,D.bk ρ→D'.bk ρ
 ct:∀ρ,D.ct ρ→D'.ct ρ
structure DE(X:Cx)(e:Expr)(t:DTE):Prop where
 mono:∀{ρ Q Q'},(∀d,Q d→Q' d)→t ρ Q→t ρ Q'
 pe:PE X e (lE X.K t)
structure DT(X:Cx)(e:Expr)(t:DTT):Prop where
 mono:∀{ρ Q Q'},(∀d,Q d→Q' d)→t ρ Q→t ρ Q'
 pt:PT X e (lT X.K t)
structure DA(X:Cx)(es:List Expr)(t:DTA):Prop where
 mono:∀{ρ Q Q'},(∀d,Q d→Q' d)→t ρ Q→t ρ Q'
 pa:PA X es (lA X.K t)
structure DS(X:Cx)(st:Stmt)(t:DTS):Prop where
 mono:∀{ρ D D'},G7.le D D'→t D ρ→t D' ρ
 ps:PS X st (lS X.K t)
structure DSs(X:Cx)(st:List Stmt)(t:DTS):Prop where
 mono:∀{ρ D D'},G7.le D D'→t D ρ→t D' ρ
 ps:PSs X st (lS X.K t)
theorem PE.imp{X:Cx}{e:Expr}{t t':TE}(h:PE X e t)(i:∀σ H Q,t' σ H Q→t σ H Q):PE X e t':=fun pins s σ H Q I q=>h pins s σ H Q I (i _ _ _ q)
theorem PT.imp{X:Cx}{e:Expr}{t t':TT}(h:PT X e t)(i:∀σ H Q,t' σ H Q→t σ H Q):PT X e t':=fun pins s σ H Q I q=>h pins s σ H Q I (i _ _ _ q)
theorem PA.imp{X:Cx}{e:List Expr}{t t':TA}(h:PA X e t)(i:∀σ H Q,t' σ H Q→t σ H Q):PA X e t':=fun pos pins s σ H Q I q=>h pos pins s σ H Q I (i _ _ _ q)
theorem PS.imp{X:Cx}{e:Stmt}{t t':TS}(h:PS X e t)(i:∀D σ H,t' D σ H→t D σ H):PS X e t':=fun pins s σ H D I q=>h pins s σ H D I (i _ _ _ q)
theorem PSs.imp{X:Cx}{e:List Stmt}{t t':TS}(h:PSs X e t)(i:∀D σ H,t' D σ H→t D σ H):PSs X e t':=fun pins s σ H D I q=>h pins s σ H D I (i _ _ _ q)
section
variable{X:Cx}{a b c e:Expr}{es:List Expr}{ta tb tc te:DTE}{tA tB:DTT}{tl:DTA}{pos:Pos}
def AeA(i:Nat):DTE:=fun ρ Q=>match ρ[i]? with
 |some (some (.is d))=>Q d
 |_=>False
def dC(d:Dt):DTE:=fun _ Q=>Q d
theorem dv(i:Nat){x:Str}{pos:Pos}(hN:X.N[i]? = some x:=by rfl)(hv:Vis X.env.scope x:=by first | exact Or.inl rfl | exact Or.inr (Or.inl rfl) | exact Or.inr (Or.inr rfl))(hd:(x==("__debug__":Str))=false:=by decide)
  (hcd:(x==("__classdict__":Str))=false:=by decide):DE X (.Name x pos) (AeA i) where
 mono:=fun{ρ Q Q'} hq h=>by
  unfold AeA at h ⊢
  split at h
  ·exact hq _ h
  ·exact h.elim
 pe:=(JC hN hv hd hcd).imp fun σ H Q ⟨B,F,O,ρ,r,h⟩=>by
  unfold AeA at h
  split at h
  ·rename_i d e
   obtain⟨v,h1,h2⟩:=r.is i d e
   exact⟨v,h1,h v H (Same.refl H) h2⟩
  ·exact h.elim
theorem AeP{v:V}{d:Dt}(h:PE X e (tC v))(hr:∀K H,Rp K H d v):DE X e (dC d) where
 mono:=fun hq h=>hq _ h
 pe:=h.imp fun σ H Q ⟨B,F,O,ρ,r,h⟩=>h v H (Same.refl H) (hr _ _)
theorem Ab{i j pos}:DE X (.Constant (.int i) j pos) (dC (.int i)):=AeP AhR fun _ _=>Bl.mpr rfl
theorem W3{i j pos}:DE X (.Constant (.bool i) j pos) (dC (.bl i)):=AeP Als fun _ _=>Fw.mpr rfl
theorem Oj{j pos}:DE X (.Constant .none j pos) (dC .non):=AeP AiG fun _ _=>QG.mpr rfl
theorem Km{x j pos}:DE X (.Constant (.str x) j pos) (dC (.str x)):=AeP Aip fun _ _=>Xq.mpr rfl
theorem Ip{x:Str}{v:V}{u:Value}{d:Dt}{pos:Pos}(hg:Gl X x)(hm:X.mg x=some u)(r:RelV v u)(hr:∀H,Rp X.K H d v)(hd:(x==("__debug__":Str))=false:=by decide):DE X (.Name x pos) (dC d) where
 mono:=fun hq h=>hq _ h
 pe:=(Zm hg hm r hd).imp fun σ H Q ⟨B,F,O,ρ,_,h⟩=>h v H (Same.refl H) (hr _)
abbrev D2:=Dt→Dt→(Dt→Prop)→Prop
structure JX(K:W.Frag)(r:R2)(t:D2):Prop where
 mono:∀{a b Q Q'},(∀d,Q d→Q' d)→t a b Q→t a b Q'
 ok:∀(O:List Addr)(H:Hp)(a b:Dt)(x y:V)(Q:VK),(∀p∈O,H p≠none)→Rp K (mask O H) a x→Rp K (mask O H) b y →
  t a b (fun d=>∀v H',Same H H'→Rp K (mask O H') d v→Q v H')→r x y H Q
def dOp(t:D2)(ta tb:DTE):DTE:=fun ρ Q=>ta ρ fun a=>tb ρ fun b=>t a b Q
theorem U5{K:W.Frag}{r:R2}{t:D2}(S:JX K r t){ta tb:DTE}(ma:∀{ρ Q Q'},(∀d,Q d→Q' d)→ta ρ Q→ta ρ Q')(mb:∀{ρ Q Q'},(∀d,Q d→Q' d)→tb ρ Q→tb ρ Q')
  (σ:St) (H:Hp) (Q:VK) (h:lE K (dOp t ta tb) σ H Q):tOp r (lE K ta) (lE K tb) σ H Q:=by
 obtain⟨B,F,O,ρ,R,h⟩:=h
 refine⟨B,F,O,ρ,R,ma (fun a h v H1 s1 r1=>?_) h⟩
 refine⟨B,F,O,ρ,R.same s1,mb (fun b h u H2 s2 r2=>?_) h⟩
 exact S.ok _ H2 a b v u Q ((R.same s1).same s2).th (r1.mono s2.mask) r2 (S.mono (fun d q w H3 s3 r3=>q w H3 ((s1.trans s2).trans s3) r3) h)
theorem J0{t:D2}(m:∀{a b Q Q'},(∀d,Q d→Q' d)→t a b Q→t a b Q')(ma:∀{ρ Q Q'},(∀d,Q d→Q' d)→ta ρ Q→ta ρ Q')(mb:∀{ρ Q Q'},(∀d,Q d→Q' d)→tb ρ Q→tb ρ Q') :
  ∀{ρ Q Q'},(∀d,Q d→Q' d)→dOp t ta tb ρ Q→dOp t ta tb ρ Q':=fun hq h=>ma (fun _ h=>mb (fun _ h=>m hq h) h) h
theorem Rq{op:Operator}{r:R2}{t:D2}(ho:OpR X (binaryOp op) r)(S:JX X.K r t)(ha:DE X a ta)(hb:DE X b tb):DE X (.BinOp a op b pos) (dOp t ta tb) where
 mono:=J0 (t:=t) (ta:=ta) (tb:=tb) S.mono ha.mono hb.mono
 pe:=(AgX ho ha.pe hb.pe).imp (U5 (ta:=ta) (tb:=tb) S ha.mono hb.mono)
theorem Xg{op:CmpOp}{r:R2}{t:D2}(ho:OpR X (compareOp op) r)(S:JX X.K r t)(ha:DE X a ta)(hb:DE X b tb)(hm:behindInMarks op b=false):DE X (.Compare a [op] [b] pos) (dOp t ta tb) where
 mono:=J0 (t:=t) (ta:=ta) (tb:=tb) S.mono ha.mono hb.mono
 pe:=(AfW ho ha.pe hb.pe hm).imp (U5 (ta:=ta) (tb:=tb) S ha.mono hb.mono)
theorem AkN{r:R2}{t:D2}(ho:IxR X r)(S:JX X.K r t)(ha:DE X a ta)(hb:DE X b tb)(hs:Uw b):DE X (.Subscript a b pos) (dOp t ta tb) where
 mono:=J0 (t:=t) (ta:=ta) (tb:=tb) S.mono ha.mono hb.mono
 pe:=(AmF ho ha.pe hb.pe hs).imp (U5 (ta:=ta) (tb:=tb) S ha.mono hb.mono)
def dI(C:Int→Int→Prop)(g:Int→Int→Int):D2:=fun a b Q=>match a,b with
 |.int i,.int j=>C i j∧Q (.int (g i j))
 |_,_=>False
def dI0(g:Int→Int→Int):D2:=fun a b Q=>match a,b with
 |.int i,.int j=>Q (.int (g i j))
 |_,_=>False
def dB0(g:Int→Int→Bool):D2:=fun a b Q=>match a,b with
 |.int i,.int j=>Q (.bl (g i j))
 |_,_=>False
theorem Wr{K:W.Frag}{C:Int→Int→Prop}{g:Int→Int→Int}:JX K (rI C fun i j=>.int (g i j)) (dI C g) where
 mono:=fun{a b Q Q'} hq h=>by
  unfold dI at h ⊢
  split at h
  ·exact⟨h.1,hq _ h.2⟩
  ·exact h.elim
 ok:=fun O H a b x y Q _ ra rb h=>by
  unfold dI at h
  split at h
  ·exact⟨_,_,Bl.mp ra,Bl.mp rb,h.1,h.2 _ H (Same.refl H) (Bl.mpr rfl)⟩
  ·exact h.elim
theorem AcR{K:W.Frag}{g:Int→Int→Int}:JX K (rI0 fun i j=>.int (g i j)) (dI0 g) where
 mono:=fun{a b Q Q'} hq h=>by
  unfold dI0 at h ⊢
  split at h
  ·exact hq _ h
  ·exact h.elim
 ok:=fun O H a b x y Q _ ra rb h=>by
  unfold dI0 at h
  split at h
  ·exact⟨_,_,Bl.mp ra,Bl.mp rb,h _ H (Same.refl H) (Bl.mpr rfl)⟩
  ·exact h.elim
theorem Jd{K:W.Frag}{g:Int→Int→Bool}:JX K (rI0 fun i j=>.bl (g i j)) (dB0 g) where
 mono:=fun{a b Q Q'} hq h=>by
  unfold dB0 at h ⊢
  split at h
  ·exact hq _ h
  ·exact h.elim
 ok:=fun O H a b x y Q _ ra rb h=>by
  unfold dB0 at h
  split at h
  ·exact⟨_,_,Bl.mp ra,Bl.mp rb,h _ H (Same.refl H) (Fw.mpr rfl)⟩
  ·exact h.elim
theorem AeG:OpR X (binaryOp .Mult) (rI IntMulOk fun i j=>.int (i*j)):=opI fun _ _ _ _ _ _ _ hc q=>mul_int q hc
def CDv(_ j:Int):Prop:=j≠0∧j.natAbs<2 ^ 9000
theorem log2_small{n:Nat}(h:n<2 ^ 9000):n.log2<9000:=by
 by_cases h0:n=0
 ·subst h0;decide +kernel
 ·exact(Nat.log2_lt h0).mpr h
theorem Ace:OpR X (binaryOp .FloorDiv) (rI CDv fun i j=>.int (i.fdiv j)):=opI fun _ _ _ _ _ _ _ hc q=>floordiv_int hc.1 q (.inl (PyProof.noPylong_of_log2 (log2_small hc.2)))
def Ak5:D2:=dI0 fun i j=>i+j
def AkA:D2:=dI0 fun i j=>i-j
def Ani:D2:=dI IntMulOk fun i j=>i*j
def Aj8:D2:=dI (fun _ j=>j≠0) fun i j=>i.fmod j
def Alp:D2:=dI CDv fun i j=>i.fdiv j
def Al2:D2:=dI Abq fun i j=>i ^ j.toNat
def Ak2:D2:=dI Abq fun i j=>i*2 ^ j.toNat
def Apm:D2:=dI (fun _ j=>0≤j) fun i j=>i / 2 ^ j.toNat
theorem Bm(ha:DE X a ta)(hb:DE X b tb):DE X (.BinOp a .Add b pos) (dOp Ak5 ta tb):=Rq AhM AcR ha hb
theorem BR(ha:DE X a ta)(hb:DE X b tb):DE X (.BinOp a .Sub b pos) (dOp AkA ta tb):=Rq Ajp AcR ha hb
theorem Al(ha:DE X a ta)(hb:DE X b tb):DE X (.BinOp a .Mult b pos) (dOp Ani ta tb):=Rq AeG Wr ha hb
theorem FJ(ha:DE X a ta)(hb:DE X b tb):DE X (.BinOp a .Mod b pos) (dOp Aj8 ta tb):=Rq Aes Wr ha hb
theorem Cr(ha:DE X a ta)(hb:DE X b tb):DE X (.BinOp a .FloorDiv b pos) (dOp Alp ta tb):=Rq Ace Wr ha hb
theorem Ajg(ha:DE X a ta)(hb:DE X b tb):DE X (.BinOp a .Pow b pos) (dOp Al2 ta tb):=Rq AhS Wr ha hb
theorem AhL(ha:DE X a ta)(hb:DE X b tb):DE X (.BinOp a .LShift b pos) (dOp Ak2 ta tb):=Rq AjD Wr ha hb
def dLt:D2:=dB0 fun i j=>decide (i<j)
def dLe:D2:=dB0 fun i j=>decide (i≤j)
def dGt:D2:=dB0 fun i j=>decide (j<i)
def dGe:D2:=dB0 fun i j=>decide (j≤i)
theorem Akv(ha:DE X a ta)(hb:DE X b tb):DE X (.Compare a [.GtE] [b] pos) (dOp dGe ta tb):=Xg Am5 Jd ha hb (Lx _)
def ixL:Int→List Dt→Option Dt
 |.ofNat n,ds=>ds[n]?
 |.negSucc m,ds=>if m<ds.length then ds[ds.length-1-m]? else none
def ixD(i:Int):Dt→Option Dt
 |.tup ds=>ixL i ds
 |.lst ds=>ixL i ds
 |_=>none
theorem Ac5{i:Int}{ds:List Dt}{d:Dt}(h:ixL i ds=some d):atI ds i=some d:=by
 cases i with
 |ofNat n=>exact Afw h
 | negSucc m =>
  have h':(if m<ds.length then ds[ds.length-1-m]? else none)=some d:=h
  by_cases hm:m<ds.length
  ·rw[if_pos hm]at h'
   unfold atI ixN
   have h1:¬(0:Int)≤Int.negSucc m:=by omega
   have h2:-(ds.length:Int)≤Int.negSucc m:=by omega
   have h3:(Int.negSucc m+(ds.length:Int)).toNat=ds.length-1-m:=by omega
   rw[if_neg h1,if_pos h2,Option.bind_some,h3]
   exact h'
  ·rw[if_neg hm]at h';cases h'
def dIx:D2:=fun a b Q=>match b with
 | .int i=>match ixD i a with
  |some d=>Q d
  |none=>False
 |_=>False
theorem AbV{K:W.Frag}{H:Hp}{ds:List Dt}{xs:List V}{i:Int}{d:Dt}(r:RpL K H ds xs)(h:atI ds i=some d):∃v,atI xs i=some v∧Rp K H d v:=by
 unfold atI at h ⊢
 rw[r.len]
 cases e:ixN ds.length i with
 |none=>rw[e]at h;cases h
 | some j =>
  rw[e]at h
  exact r.get h
theorem Aj4{K:W.Frag}:JX K (rIx K) dIx where
 mono:=fun{a b Q Q'} hq h=>by
  unfold dIx at h ⊢
  split at h
  ·split at h
   ·rename_i e;exact hq _ h
   ·exact h.elim
  ·exact h.elim
 ok:=fun O H a b x y Q _ ra rb h=>by
  unfold dIx at h
  split at h
  ·split at h
   ·rename_i i _ d e
    have eb:=Bl.mp rb
    subst eb
    cases a with
    | tup ds =>
     obtain⟨p,xs,rfl,hs,hl⟩:=Em.mp ra
     obtain⟨v,e1,e2⟩:=AbV hl (Ac5 e)
     exact .inr (.inl ⟨p,xs,i,v,rfl,rfl,Bv.mD hs,e1,h v H (Same.refl H) e2⟩)
    | lst ds =>
     obtain⟨p,xs,rfl,hs,hl⟩:=Hw ra
     obtain⟨v,e1,e2⟩:=AbV hl (Ac5 e)
     exact .inl ⟨p,xs,i,v,rfl,rfl,Bv.seq hs,e1,h v H (Same.refl H) e2⟩
    |_=>cases e
   ·exact h.elim
  ·exact h.elim
theorem Ad(ha:DE X a ta)(hb:DE X b tb)(hs:Uw b:=by exact fun _ _=>rfl):DE X (.Subscript a b pos) (dOp dIx ta tb):=AkN AiW Aj4 ha hb hs
def AfE:Dt→(Dt→Prop)→Prop:=fun a Q=>match a with
 |.int i=>Q (.int (-i))
 |_=>False
def dUn(t:Dt→(Dt→Prop)→Prop)(ta:DTE):DTE:=fun ρ Q=>ta ρ fun a=>t a Q
theorem Cg(ha:DE X a ta):DE X (.UnaryOp .USub a pos) (dUn AfE ta) where
 mono:=fun hq h=>ha.mono (fun d h=>by
  unfold AfE at h ⊢
  split at h
  ·exact hq _ h
  ·exact h.elim) h
 pe:=(Alk AiB ha.pe).imp fun σ H Q ⟨B,F,O,ρ,R,h⟩=>⟨B,F,O,ρ,R,ha.mono (fun d h v H1 s1 r1=>by
  unfold AfE at h
  split at h
  ·exact⟨_,Bl.mp r1,h _ H1 s1 (Bl.mpr rfl)⟩
  ·exact h.elim) h⟩
def Apa(ta:DTE):DTE:=fun ρ Q=>ta ρ fun a=>match a with
 |.bl k=>Q (.bl (!k))
 |_=>False
def AkD(ta tb:DTE):DTE:=fun ρ Q=>ta ρ fun a=>match a with
 |.bl k=>if k=true then tb ρ Q else Q (.bl false)
 |_=>False
def dOr(ta tb:DTE):DTE:=fun ρ Q=>ta ρ fun a=>match a with
 |.bl k=>if k=true then Q (.bl true)else tb ρ Q
 |_=>False
theorem P0{op}(h:DE X a ta):DE X (.BoolOp op [a] pos) ta:=⟨h.mono,AjQ h.pe⟩
theorem XS{rest:List Expr}(ha:DE X a ta)(hb:DE X (.BoolOp .And (b::rest) pos) tb):DE X (.BoolOp .And (a::b::rest) pos) (AkD ta tb) where
 mono:=fun hq h=>ha.mono (fun d h=>by
  split at h
  ·split at h
   ·rename_i e;simp only[e,if_true];exact hb.mono hq h
   ·rename_i e;simp only[e];exact hq _ h
  ·exact h.elim) h
 pe:=(Aiv ha.pe hb.pe).imp fun σ H Q ⟨B,F,O,ρ,R,h⟩=>⟨B,F,O,ρ,R,ha.mono (fun d h v H1 s1 r1=>by
  split at h
  ·rename_i k
   refine⟨k,Fw.mp r1,?_⟩
   cases k with
   |true=>exact⟨B,F,O,ρ,R.same s1,hb.mono (fun d q v H2 s2 r2=>q v H2 (s1.trans s2) r2) h⟩
   |false=>exact h _ H1 s1 (Fw.mpr rfl)
  ·exact h.elim) h⟩
theorem AgR{rest:List Expr}(ha:DE X a ta)(hb:DE X (.BoolOp .Or (b::rest) pos) tb):DE X (.BoolOp .Or (a::b::rest) pos) (dOr ta tb) where
 mono:=fun hq h=>ha.mono (fun d h=>by
  split at h
  ·split at h
   ·rename_i e;simp only[e,if_true];exact hq _ h
   ·rename_i e;simp only[e];exact hb.mono hq h
  ·exact h.elim) h
 pe:=(Akx ha.pe hb.pe).imp fun σ H Q ⟨B,F,O,ρ,R,h⟩=>⟨B,F,O,ρ,R,ha.mono (fun d h v H1 s1 r1=>by
  split at h
  ·rename_i k
   refine⟨k,Fw.mp r1,?_⟩
   cases k with
   |false=>exact⟨B,F,O,ρ,R.same s1,hb.mono (fun d q v H2 s2 r2=>q v H2 (s1.trans s2) r2) h⟩
   |true=>exact h _ H1 s1 (Fw.mpr rfl)
  ·exact h.elim) h⟩
def UG(t:DTE):DTT:=fun ρ Q=>t ρ fun a=>match a with
 |.bl k=>Q k
 |_=>False
theorem SM{t:DTE}(m:∀{ρ Q Q'},(∀d,Q d→Q' d)→t ρ Q→t ρ Q'):∀{ρ Q Q'},(∀d,Q d→Q' d)→UG t ρ Q→UG t ρ Q':=fun hq h=>m (fun d h=>by
  split at h
  ·exact hq _ h
  ·exact h.elim) h
theorem Jz(h:DE X e te)(he:∀whole,isTrue e X.env whole=(do let v ←whole;standAt e.pos;holding [v] (truthy v)):=by intro _;rfl):DT X e (UG te) where
 mono:=SM (t:=te) h.mono
 pt:=(Aii h.pe he).imp fun σ H Q ⟨B,F,O,ρ,R,q⟩=>⟨B,F,O,ρ,R,h.mono (fun d q v H1 s1 r1=>by
  split at q
  ·exact⟨_,Fw.mp r1,q H1 s1⟩
  ·exact q.elim) q⟩
theorem Uk{op:CmpOp}{r:R2}{t:D2}(ho:OpR X (compareOp op) r)(S:JX X.K r t)(ha:DE X a ta)(hb:DE X b tb)(hm:behindInMarks op b=false):DT X (.Compare a [op] [b] pos) (UG (dOp t ta tb)) where
 mono:=SM (t:=dOp t ta tb) (J0 (t:=t) (ta:=ta) (tb:=tb) S.mono ha.mono hb.mono)
 pt:=(AeV ho ha.pe hb.pe hm).imp fun σ H Q ⟨B,F,O,ρ,R,q⟩=>U5 (ta:=ta) (tb:=tb) S ha.mono hb.mono σ H _ ⟨B,F,O,ρ,R,J0 (t:=t) (ta:=ta) (tb:=tb) S.mono ha.mono hb.mono (fun d q v H1 s1 r1=>by
  split at q
  ·exact⟨_,Fw.mp r1,q H1 s1⟩
  ·exact q.elim) q⟩
theorem Q8(ha:DE X a ta)(hb:DE X b tb):DT X (.Compare a [.Lt] [b] pos) (UG (dOp dLt ta tb)):=Uk Ad7 Jd ha hb (Lx _)
theorem Vi(ha:DE X a ta)(hb:DE X b tb):DT X (.Compare a [.Gt] [b] pos) (UG (dOp dGt ta tb)):=Uk AlG Jd ha hb (Lx _)
def Ahr(t:DTT):DTT:=fun ρ Q=>t ρ fun k=>Q (!k)
def Ahh(t u:DTT):DTT:=fun ρ Q=>t ρ fun k=>if k=true then u ρ Q else Q false
def Am4(t u:DTT):DTT:=fun ρ Q=>t ρ fun k=>if k=true then Q true else u ρ Q
theorem Va(ha:DT X a tA):DT X (.UnaryOp .Not a pos) (Ahr tA) where
 mono:=fun hq h=>ha.mono (fun _ h=>hq _ h) h
 pt:=(AhX ha.pt).imp fun σ H Q ⟨B,F,O,ρ,R,q⟩=>⟨B,F,O,ρ,R,q⟩
structure DW(X:Cx)(e:Expr)(t:DTT):Prop where
 mono:∀{ρ Q Q'},(∀d,Q d→Q' d)→t ρ Q→t ρ Q'
 pw:PW X e (lT X.K t)
theorem DW.dt{t:DTT}(h:DW X e t):DT X e t:=⟨h.mono,h.pw.pt⟩
theorem PB(ha:DT X a tA):DW X (.BoolOp .And [a] pos) tA:=⟨ha.mono,AeH ha.pt⟩
theorem Xv(ha:DT X a tA):DW X (.BoolOp .Or [a] pos) tA:=⟨ha.mono,Ain ha.pt⟩
theorem PW.imp{t t':TT}(h:PW X e t)(i:∀σ H Q,t' σ H Q→t σ H Q):PW X e t':=fun wh pins s σ H Q I q=>h wh pins s σ H Q I (i _ _ _ q)
theorem Qn{rest:List Expr}(ha:DT X a tA)(hb:DW X (.BoolOp .And (b::rest) pos) tB):DW X (.BoolOp .And (a::b::rest) pos) (Ahh tA tB) where
 mono:=fun hq h=>ha.mono (fun k h=>by
  cases k with
  |true=>exact hb.mono hq h
  |false=>exact hq _ h) h
 pw:=(AhP ha.pt hb.pw).imp fun σ H Q ⟨B,F,O,ρ,R,q⟩=>⟨B,F,O,ρ,R,ha.mono (fun k h H1 s1=>by
  cases k with
  |true=>exact⟨B,F,O,ρ,R.same s1,hb.mono (fun k q H2 s2=>q H2 (s1.trans s2)) h⟩
  |false=>exact h H1 s1) q⟩
theorem Ac2{rest:List Expr}(ha:DT X a tA)(hb:DW X (.BoolOp .Or (b::rest) pos) tB):DW X (.BoolOp .Or (a::b::rest) pos) (Am4 tA tB) where
 mono:=fun hq h=>ha.mono (fun k h=>by
  cases k with
  |true=>exact hq _ h
  |false=>exact hb.mono hq h) h
 pw:=(AkY ha.pt hb.pw).imp fun σ H Q ⟨B,F,O,ρ,R,q⟩=>⟨B,F,O,ρ,R,ha.mono (fun k h H1 s1=>by
  cases k with
  |false=>exact⟨B,F,O,ρ,R.same s1,hb.mono (fun k q H2 s2=>q H2 (s1.trans s2)) h⟩
  |true=>exact h H1 s1) q⟩
def AoW(t:DTT)(ta tb:DTE):DTE:=fun ρ Q=>t ρ fun k=>if k=true then ta ρ Q else tb ρ Q
def AfA:DTA:=fun _ Q=>Q []
def Ag6(te:DTE)(tl:DTA):DTA:=fun ρ Q=>te ρ fun d=>tl ρ fun ds=>Q (d::ds)
theorem Ac:DA X [] AfA:=⟨fun hq h=>hq _ h,T5.imp fun σ H Q ⟨B,F,O,ρ,R,q⟩=>q [] H (Same.refl H) RpL.nil⟩
theorem Aa(ha:DE X e te)(hr:DA X es tl)(hs:starEach (e::es) X.env=(false,eval e X.env)::starEach es X.env:=by rfl):DA X (e::es) (Ag6 te tl) where
 mono:=fun hq h=>ha.mono (fun d h=>hr.mono (fun ds h=>hq _ h) h) h
 pa:=(Hu ha.pe hr.pa hs).imp fun σ H Q ⟨B,F,O,ρ,R,q⟩=>⟨B,F,O,ρ,R,ha.mono (fun d h v H1 s1 r1=>⟨B,F,O,ρ,R.same s1,hr.mono (fun ds h vs H2 s2 r2 =>
  h (v::vs) H2 (s1.trans s2) (RpL.cons (r1.mono s2.mask) r2)) h⟩) q⟩
def dTup(tl:DTA):DTE:=fun ρ Q=>tl ρ fun ds=>ds.length≤sizeLine∧Q (.tup ds)
def AlS(tl:DTA):DTE:=fun ρ Q=>tl ρ fun ds=>ds.length≤sizeLine∧Q (.lst ds)
theorem Qg{O:List Addr}{H:Hp}{p:Addr}{o:HO}(hp:p∉O):mask O (upd H p o) p=some o:=by rw[Bh hp,Aw]
theorem Bf{k}(h:DA X es tl):DE X (.Tuple es k pos) (dTup tl) where
 mono:=fun hq z=>h.mono (fun ds q=>⟨q.1,hq _ q.2⟩) z
 pe:=(AhV h.pa).imp fun σ H Q ⟨B,F,O,ρ,R,q⟩=>⟨B,F,O,ρ,R,h.mono (fun ds z vs H1 s1 r1=>⟨by rw[r1.len];exact z.1,fun p hp=>by
  have np:p∉F++O:=fun m=>(R.same s1).th p m hp
  exact z.2 (.ref p) _ (s1.trans (Same.upd hp)) (Em.mpr ⟨p,vs,rfl,SqT.of (Qg np),r1.mono (Same.upd hp).mask⟩)⟩) q⟩
theorem Bg(h:DA X es tl):DE X (.List es pos) (AlS tl) where
 mono:=fun hq z=>h.mono (fun ds q=>⟨q.1,hq _ q.2⟩) z
 pe:=(XF h.pa).imp fun σ H Q ⟨B,F,O,ρ,R,q⟩=>⟨B,F,O,ρ,R,h.mono (fun ds z vs H1 s1 r1=>⟨by rw[r1.len];exact z.1,fun p hp=>by
  have np:p∉F++O:=fun m=>(R.same s1).th p m hp
  exact z.2 (.ref p) _ (s1.trans (Same.upd hp)) (Mx ⟨p,vs,rfl,(Qg np),r1.mono (Same.upd hp).mask⟩)⟩) q⟩
abbrev DSp:=List Dt→(Dt→Prop)→Prop
def lSp(K:W.Frag)(sp:DSp):Sp:=fun vs H Q _=>∃F ds,(∀a∈F,H a≠none)∧RpL K (mask F H) ds vs∧sp ds fun d=>∀v H',Same H H'→Rp K (mask F H') d v→Q v H'
def Ij(sp:DSp):Prop:=∀ds Q Q',(∀d,Q d→Q' d)→sp ds Q→sp ds Q'
def dCall(sp:DSp)(tl:DTA):DTE:=fun ρ Q=>tl ρ fun ds=>sp ds Q
theorem Agc{CX:CXT}{k:Nat}{f:Addr}{fd:FuncData}{ps:List Str}{sp:DSp}{x:Str}{p:Pos}(m:Ij sp)(G:El X.prog X.w X.K X.mg X.base CX0 k f fd ps (lSp X.K sp))(hr:Dd k X.A)(hg:Gl X x)(hm:X.mg x=some (.ref f))
  (hk:W.keepIn X.K (.ref f)=true) (hb:Binds X.K fd ps []) (ha:DA X (e::es) tl) (hdb:(x==("__debug__":Str))=false:=by decide)
  (he:starEach (e::es) X.env=(false,eval e X.env)::starEach es X.env:=by rfl) (hpl:(backTo pos (starEach es X.env)).any (·.1)=false:=by rfl):DE X (.Call (.Name x p) (e::es) [] pos) (dCall sp tl) where
 mono:=fun hq z=>ha.mono (fun ds q=>m _ _ _ hq q) z
 pe:=(Afc G hr hg hm hk hb .nil Wv ha.pa hdb he hpl).imp fun σ H Q ⟨B,F,O,ρ,R,q⟩=>⟨B,F,O,ρ,R,ha.mono (fun ds z vs H1 s1 r1=>by
  show lSp X.K sp (vs++[]) H1 Q E0
  rw[List.append_nil]
  exact⟨F++O,ds,(R.same s1).th,r1,m _ _ _ (fun d q v H2 s2 r2=>q v H2 (s1.trans s2) r2) z⟩) q⟩
variable{st:Stmt}{sts:List Stmt}{t u:DTS}
def Ahk:DTS:=fun D ρ=>D.nx ρ
def RW(t u:DTS):DTS:=fun D ρ=>t {D with nx:=u D} ρ
theorem AmM{D D':G7}{P P':BW→Prop}(h:G7.le D D')(hp:∀ρ,P ρ→P' ρ):G7.le {D with nx:=P} {D' with nx:=P'}:=⟨hp,h.rt,h.bk,h.ct⟩
theorem le_refl{D:G7}:G7.le D D:=⟨fun _ h=>h,fun _ h=>h,fun _ h=>h,fun _ h=>h⟩
theorem Bc:DSs X [] Ahk:=⟨fun hd h=>hd.nx _ h,AaF.imp fun D σ H ⟨B,F,O,ρ,R,h⟩=>h O σ H R⟩
theorem Ae(h1:DS X st t)(h2:DSs X sts u):DSs X (st::sts) (RW t u) where
 mono:=fun hd h=>h1.mono (AmM hd fun ρ q=>h2.mono hd q) h
 ps:=(J1 h1.ps h2.ps).imp fun D σ H ⟨B,F,O,ρ,R,h⟩=>⟨B,F,O,ρ,R,h1.mono (D:={lD X.K B F D with nx:=u (lD X.K B F D)}) ⟨fun ρ' q O' σ' H' R'=>⟨B,F,O',ρ',R',q⟩,fun _ q=>q,fun _ q=>q,fun _ q=>q⟩ h⟩
theorem Ai(h1:DS X st t):DSs X [st] t:=⟨h1.mono,Hs h1.ps⟩
def Adv:DTS:=fun _ _=>False
theorem Jj:DS X st Adv:=⟨fun _ h=>h.elim,AbD.imp fun D σ H ⟨B,F,O,ρ,R,h⟩=>h.elim⟩
def AhB(te:DTE):DTS:=fun D ρ=>te ρ fun _=>D.nx ρ
theorem M6(he:DE X e te)(hs:swapsWith e none pos.line X.env=pure false:=by rfl):DS X (.Expr e pos) (AhB te) where
 mono:=fun hd h=>he.mono (fun _ h=>hd.nx _ h) h
 ps:=(Mq he.pe hs).imp fun D σ H ⟨B,F,O,ρ,R,h⟩=>⟨B,F,O,ρ,R,he.mono (fun d q v H1 s1 _=>q O σ H1 (R.same s1)) h⟩
def AkK(te:DTE):DTS:=fun D ρ=>te ρ D.rt
theorem Rj{F O:List Addr}{H:Hp}:Same (mask (F++O) H) (mask F H):=FN fun _ h=>List.mem_append_left _ h
theorem Aj(he:DE X e te):DS X (.Return (some e) pos) (AkK te) where
 mono:=fun hd h=>he.mono (fun _ h=>hd.rt _ h) h
 ps:=(Acg he.pe).imp fun D σ H ⟨B,F,O,ρ,R,h⟩=>⟨B,F,O,ρ,R,he.mono (fun d q v H1 s1 r1=>q v H1 (R.base.trans s1) (r1.mono Rj)) h⟩
def Amp:DTS:=fun D _=>D.rt .non
def dIf(c:DTT)(t u:DTS):DTS:=fun D ρ=>c ρ fun k=>if k=true then t D ρ else u D ρ
theorem Bw{sa sb:List Stmt}(hc:DT X c tA)(ha:DSs X sa t)(hb:DSs X sb u):DS X (.If c sa sb pos) (dIf tA t u) where
 mono:=fun hd h=>hc.mono (fun k h=>by
  cases k with
  |true=>exact ha.mono hd h
  |false=>exact hb.mono hd h) h
 ps:=(Ahp hc.pt ha.ps hb.ps).imp fun D σ H ⟨B,F,O,ρ,R,h⟩=>⟨B,F,O,ρ,R,hc.mono (fun k h H1 s1=>by
  cases k with
  |true=>exact⟨B,F,O,ρ,R.same s1,h⟩
  |false=>exact⟨B,F,O,ρ,R.same s1,h⟩) h⟩
abbrev DTG:=Dt→BW→(BW→Prop)→Prop
abbrev Uq:=List Dt→BW→(BW→Prop)→Prop
def lG(K:W.Frag)(g:DTG):TG:=fun v σ H Q=>∃B F O ρ d,Rep K B F O H σ ρ∧Rp K (mask (F++O) H) d v∧g d ρ fun ρ'=>∀σ',Rep K B F O H σ' ρ'→Q σ' H
def lGs(K:W.Frag)(g:Uq):TGs:=fun vs σ H Q=>∃B F O ρ ds,Rep K B F O H σ ρ∧RpL K (mask (F++O) H) ds vs∧g ds ρ fun ρ'=>∀σ',Rep K B F O H σ' ρ'→Q σ' H
structure DG(X:Cx)(tg:Expr)(g:DTG):Prop where
 mono:∀{d ρ Q Q'},(∀ρ',Q ρ'→Q' ρ')→g d ρ Q→g d ρ Q'
 pg:PG X tg (lG X.K g)
structure DGs(X:Cx)(tgs:List Expr)(g:Uq):Prop where
 mono:∀{d ρ Q Q'},(∀ρ',Q ρ'→Q' ρ')→g d ρ Q→g d ρ Q'
 pg:PGs X tgs (lGs X.K g)
theorem PG.imp{e:Expr}{t t':TG}(h:PG X e t)(i:∀v σ H Q,t' v σ H Q→t v σ H Q):PG X e t':=fun pins s σ H v u Q I r q=>h pins s σ H v u Q I r (i _ _ _ _ q)
theorem PGs.imp{e:List Expr}{t t':TGs}(h:PGs X e t)(i:∀v σ H Q,t' v σ H Q→t v σ H Q):PGs X e t':=fun pins s σ H v u Q I r q=>h pins s σ H v u Q I r (i _ _ _ _ q)
def U6(i:Nat):DTG:=fun d ρ Q=>Q (ρ.set i (some (.is d)))
theorem Cq(i:Nat){x:Str}(hN:X.N.Nodup)(hi:X.N[i]? = some x:=by rfl)(hx:Loc X.env.scope x:=by first | exact Or.inl rfl | exact Or.inr rfl)
  (hf:X.fn x=true∨X.env.scope.names.lookup x=some .local:=by first|exact .inl rfl|exact .inr rfl|assumption):DG X (.Name x pos) (U6 i) where
 mono:=fun hq h=>hq _ h
 pg:=(Uv hN hi hx hf).imp fun v σ H Q ⟨B,F,O,ρ,d,R,r,h⟩=>h _ (R.set i r)
def Y4:Uq:=fun ds ρ Q=>match ds with
 | []=>Q ρ
 |_=>False
def T9(g:DTG)(gs:Uq):Uq:=fun ds ρ Q=>match ds with
 |d::r=>g d ρ fun ρ'=>gs r ρ' Q
 | []=>False
theorem Kp:DGs X [] Y4 where
 mono:=fun hq h=>by
  unfold Y4 at h ⊢
  split at h
  ·exact hq _ h
  ·exact h.elim
 pg:=Aft.imp fun vs σ H Q ⟨B,F,O,ρ,ds,R,r,h⟩=>by
  unfold Y4 at h
  split at h
  ·exact⟨BX.mp r,h σ R⟩
  ·exact h.elim
theorem Ck{g:DTG}{gs:Uq}(h1:DG X e g)(h2:DGs X es gs)(hs:(assignEach (e::es) X.env).map (·.2)=assign e X.env::(assignEach es X.env).map (·.2):=by rfl):DGs X (e::es) (T9 g gs) where
 mono:=fun hq h=>by
  unfold T9 at h ⊢
  split at h
  ·exact h1.mono (fun ρ' q=>h2.mono hq q) h
  ·exact h.elim
 pg:=(AbU h1.pg h2.pg hs).imp fun vs σ H Q ⟨B,F,O,ρ,ds,R,r,h⟩=>by
  unfold T9 at h
  split at h
  ·obtain⟨v,vr,rfl,r1,r2⟩:=Bj.mp r
   exact⟨v,vr,rfl,B,F,O,ρ,_,R,r1,h1.mono (fun ρ' q σ' R'=>⟨B,F,O,ρ',_,R',r2,q⟩) h⟩
  ·exact h.elim
def Al0(n:Nat)(gs:Uq):DTG:=fun d ρ Q=>match d with
 |.tup ds=>ds.length=n∧gs ds ρ Q
 |_=>False
def Ai7(te:DTE)(g:DTG):DTS:=fun D ρ=>te ρ fun d=>g d ρ D.nx
theorem Oa{tg:Expr}{g:DTG}(he:DE X e te)(hg:DG X tg g)(hs:swapsWithSole [tg] e pos.line X.env=pure false:=by rfl)(hw:swappedStores [tg] e X.env=pure none:=by rfl)
  (h1:(assignEach [tg] X.env).map (·.2)=[assign tg X.env]:=by rfl):DS X (.Assign [tg] e pos) (Ai7 te g) where
 mono:=fun hd h=>he.mono (fun _ h=>hg.mono (fun _ h=>hd.nx _ h) h) h
 ps:=(AjX he.pe hg.pg hs hw h1).imp fun D σ H ⟨B,F,O,ρ,R,h⟩=>⟨B,F,O,ρ,R,he.mono (fun d q v H1 s1 r1=>⟨B,F,O,ρ,d,R.same s1,r1,hg.mono (fun ρ' q σ' R'=>q O σ' H1 R') q⟩) h⟩
def Aeq(c:DTT)(tb:DTS):DTS:=fun D ρ=>∃W:Nat→BW→Prop,(∃m,W m ρ)∧∀m ρ,W m ρ →
 c ρ fun k=>if k=true then tb {D with nx:=fun ρ'=>∃m',m'<m∧W m' ρ',ct:=fun ρ'=>∃m',m'<m∧W m' ρ',bk:=D.nx} ρ else D.nx ρ
theorem Ie{body:List Stmt}(hp:PassesOwn (model X.prog X.w) X.A X.env X.xe)(hc:DT X c tA)(hb:DSs X body t):DS X (.While c body [] pos) (Aeq tA t) where
 mono:=fun{ρ D D'} hd ⟨W,h0,h⟩=>⟨W,h0,fun m ρ w=>hc.mono (fun k h=>by
  cases k with
  |true=>exact hb.mono (D:={D with nx:=fun ρ'=>∃m',m'<m∧W m' ρ',ct:=fun ρ'=>∃m',m'<m∧W m' ρ',bk:=D.nx}) ⟨fun _ q=>q,hd.rt,hd.nx,fun _ q=>q⟩ h
  |false=>exact hd.nx _ h) (h m ρ w)⟩
 ps:=(AbI hp hc.pt hb.ps).imp fun D σ H ⟨B,F,O,ρ,R,W,⟨m0,w0⟩,h⟩=>by
  refine⟨fun m σ H=>∃O ρ,Rep X.K B F O H σ ρ∧W m ρ,⟨m0,O,ρ,R,w0⟩,?_⟩
  rintro m σ H ⟨O,ρ,R,w⟩
  refine⟨B,F,O,ρ,R,hc.mono (fun k h H1 s1=>?_) (h m ρ w)⟩
  cases k with
  | true =>
   refine⟨fun σ' H'=>∃m',m'<m∧∃O ρ,Rep X.K B F O H' σ' ρ∧W m' ρ,fun σ' H' ⟨m',l,q⟩=>⟨m',l,q⟩,B,F,O,ρ,R.same s1,hb.mono (D:={lD X.K B F D with nx:=fun ρ'=>∃m',m'<m∧W m' ρ',ct:=fun ρ'=>∃m',m'<m∧W m' ρ',bk:=(lD X.K B F D).nx}) ⟨?_,fun _ q=>q,fun _ q=>q,?_⟩ h⟩
   ·rintro ρ' ⟨m',l,w'⟩ O' σ' H' R'
    exact⟨m',l,O',ρ',R',w'⟩
   ·rintro ρ' ⟨m',l,w'⟩ O' σ' H' R'
    exact⟨m',l,O',ρ',R',w'⟩
  |false=>exact h O σ H1 (R.same s1)
def ItD(K:W.Frag)(M:Hp)(J:It)(items:List Dt):Prop:=∀H,Same M H →
 (∀(k:Nat) d,items[k]? = some d→J.go k H∧∀x H',J.yld k H x H'→H'=H∧Rp K M d x)∧J.stop items.length H
abbrev DTI:=BW→(List Dt→Prop)→Prop
def lI(K:W.Frag)(ti:DTI):TI:=fun σ H R=>∃B F O ρ,Rep K B F O H σ ρ∧ti ρ fun items=>∀J H',Same H H'→ItD K (mask (F++O) H') J items→R J H'
structure DI(X:Cx)(tg iter:Expr)(ti:DTI):Prop where
 mono:∀{ρ Q Q'},(∀d,Q d→Q' d)→ti ρ Q→ti ρ Q'
 pi:PI X tg iter (lI X.K ti)
theorem PI.imp{tg e:Expr}{t t':TI}(h:PI X tg e t)(i:∀σ H Q,t' σ H Q→t σ H Q):PI X tg e t':=fun pins s σ H R I q=>h pins s σ H R I (i _ _ _ q)
def Amx(ti:DTI)(g:DTG)(tb:DTS):DTS:=fun D ρ=>ti ρ fun items=>∃W:Nat→BW→Prop,W 0 ρ ∧
 (∀(k:Nat) d ρ',items[k]? = some d→W k ρ'→g d ρ' fun ρ2=>tb {D with nx:=W (k+1),ct:=W (k+1),bk:=D.nx} ρ2)∧∀ρ',W items.length ρ'→D.nx ρ'
theorem Rep.rebase{K:W.Frag}{B:Hp}{F O:List Addr}{H:Hp}{σ:St}{ρ:BW}(r:Rep K B F O H σ ρ):Rep K (mask O H) F O H σ ρ :=
 ⟨r.len,Bv,fun _ h=>DR h,r.th,r.is,r.own,r.inj,r.tab,r.wO,r.raw⟩
theorem Rep.adI{K:W.Frag}{B B':Hp}{F O O':List Addr}{H H':Hp}{σ σ':St}{ρ ρ':BW}(r:Rep K B F O H σ ρ)(r':Rep K (mask O H) F O' H' σ' ρ'):Rep K B F O' H' σ' ρ':=by
 have s:Same B (mask O H):=fun a o e=>by
  rw[Bh]
  ·exact r.base a o e
  ·intro z;rw[r.fr a z]at e;cases e
 refine⟨r'.len,s.trans r'.base,fun a h=>?_,r'.th,r'.is,r'.own,r'.inj,r'.tab,r'.wO,r'.raw⟩
 cases q:B a with
 |none=>rfl
 |some o=>have:=s a o q;rw[r'.fr a h]at this;cases this
theorem Rep.sub{K:W.Frag}{B:Hp}{F O:List Addr}{H:Hp}{σ:St}{ρ:BW}(r:Rep K B F O H σ ρ):Same B (mask O H):=fun a o e=>by
 rw[Bh]
 ·exact r.base a o e
 ·intro z;rw[r.fr a z]at e;cases e
theorem Aa3{F O:List Addr}{H:Hp}:mask F (mask O H)=mask (F++O) H:=by
 funext a
 by_cases h1:a∈F
 ·rw[DR h1,DR (List.mem_append_left _ h1)]
 ·rw[Bh h1]
  by_cases h2:a∈O
  ·rw[DR h2,DR (List.mem_append_right _ h2)]
  ·rw[Bh h2,Bh fun z=>(List.mem_append.mp z).elim h1 h2]
theorem Yn{tg iter:Expr}{body:List Stmt}{ti:DTI}{g:DTG}(hp:PassesOwn (model X.prog X.w) X.A X.env X.xe)(hc:X.calm=true)(hi:DI X tg iter ti)(hg:DG X tg g)(hb:DSs X body t)
  (hs:∀x,foldedSetIterable iter X.env x=pure x:=by intro _;rfl):DS X (.For tg iter body [] pos) (Amx ti g t) where
 mono:=fun{ρ D D'} hd h=>hi.mono (fun items ⟨W,h0,h,he⟩=>⟨W,h0,fun k d ρ' e w=>hg.mono (fun ρ2 q=>hb.mono (D:={D with nx:=W (k+1),ct:=W (k+1),bk:=D.nx}) ⟨fun _ q=>q,hd.rt,hd.nx,fun _ q=>q⟩ q) (h k d ρ' e w),fun ρ' w=>hd.nx _ (he ρ' w)⟩) h
 ps:=(Ajv hp hc hi.pi hg.pg hb.ps hs).imp fun D σ H ⟨B,F,O,ρ,R,h⟩=>by
  refine⟨B,F,O,ρ,R,hi.mono (fun items z J H1 s1 it=>?_) h⟩
  obtain⟨W,h0,h,he⟩:=z
  have R1:=R.same s1
  refine⟨fun i m σ H=>m+i=items.length∧∃O' ρ',Rep X.K (mask O H1) F O' H σ ρ'∧W i ρ',⟨items.length,by omega,O,ρ,R1.rebase,h0⟩,?_⟩
  rintro i m σ2 H2 ⟨hm,O',ρ',R2,w⟩
  have sb:Same (mask (F++O) H1) H2:=fun a o e=>R2.base a o (by
   obtain⟨q,e⟩:=Cv e
   rw[Bh fun z=>q (List.mem_append_right _ z)];exact e)
  obtain⟨go,stop⟩:=it H2 sb
  by_cases hlt:i<items.length
  ·refine .inr ⟨(go i items[i] (by simp[hlt])).1,fun σ' H'=>∃O' ρ',Rep X.K (mask O H1) F O' H' σ' ρ'∧W (i+1) ρ',fun σ' H' q=>⟨m-1,by omega,by omega,q⟩,fun x H3 y=>?_⟩
   obtain⟨e,r⟩:=(go i items[i] (by simp[hlt])).2 x H3 y
   subst e
   have r':Rp X.K (mask (F++O') H3) items[i] x:=r.mono (by rw[←Aa3];exact R2.below)
   refine⟨_,F,O',ρ',_,R2,r',hg.mono (fun ρ2 q σ3 R3=>⟨_,F,O',ρ2,R3,hb.mono (D:={lD X.K B F D with nx:=W (i+1),ct:=W (i+1),bk:=(lD X.K B F D).nx}) ⟨?_,?_,?_,?_⟩ q⟩) (h i _ ρ' (by simp[hlt]) w)⟩
   ·exact fun ρ4 w4 O4 σ4 H4 R4=>⟨O4,ρ4,R4,w4⟩
   ·exact fun d q v H4 s4 r4=>q v H4 (R1.sub.trans s4) r4
   ·exact fun ρ4 q O4 σ4 H4 R4=>q O4 σ4 H4 (R1.adI (B':=B) R4)
   ·exact fun ρ4 w4 O4 σ4 H4 R4=>⟨O4,ρ4,R4,w4⟩
  ·have e:i=items.length:=by omega
   subst e
   exact .inl ⟨stop,he ρ' w O' σ2 H2 (R1.adI (B':=B) R2)⟩
def Ahj(te:DTE):DTI:=fun ρ Q=>te ρ fun d=>match d with
 |.lst ds=>Q ds
 |_=>False
def Akm(te:DTE):DTI:=fun ρ Q=>te ρ fun d=>match d with
 |.tup ds=>Q ds
 |_=>False
theorem Mf{tg:Expr}(h:DE X e te):DI X tg e (Ahj te) where
 mono:=fun hq z=>h.mono (fun d z=>by
  split at z
  ·exact hq _ z
  ·exact z.elim) z
 pi:=(AgG h.pe).imp fun σ H Q ⟨B,F,O,ρ,R,z⟩=>⟨B,F,O,ρ,R,h.mono (fun d z v H1 s1 r1=>by
  split at z
  ·obtain⟨a,xs,rfl,hs,hl⟩:=Hw r1
   refine⟨a,rfl,⟨xs,Bv.seq hs⟩,z _ H1 s1 fun H2 s2=>⟨fun k d e=>?_,xs,s2.seq hs,by rw[hl.len];exact Nat.le_refl _⟩⟩
   obtain⟨x,e1,e2⟩:=hl.get e
   refine⟨⟨xs,x,s2.seq hs,e1⟩,fun y H3 ⟨e3,e4⟩=>⟨e3,?_⟩⟩
   have e5:=e4 xs (s2.seq hs)
   rw[e1]at e5;cases e5;exact e2
  ·exact z.elim) z⟩
def ups(lo:Int)(n:Nat):List Dt:=(List.range n).map fun i=>.int (lo+(i:Nat))
theorem Pr{lo:Int}{n:Nat}:(ups lo n).length=n:=by simp[ups]
theorem Pn{lo:Int}{n k:Nat}{d:Dt}(h:(ups lo n)[k]? = some d):k<n∧d=.int (lo+(k:Nat)):=by
 unfold ups at h
 rw[List.getElem?_map]at h
 by_cases hk:k<n
 ·rw[List.getElem?_range hk]at h
  exact⟨hk,(Option.some.inj h).symm⟩
 ·rw[List.getElem?_eq_none (by simpa using hk)]at h;cases h
theorem SJ{K:W.Frag}{M:Hp}{lo:Int}{n:Nat}:ItD K M (Itr lo n) (ups lo n):=fun H _=>by
 refine⟨fun k d e=>?_,?_⟩
 ·obtain⟨hk,rfl⟩:=Pn e
  exact⟨hk,fun x H' y=>⟨y.1,Bl.mpr y.2⟩⟩
 ·rw[Pr];exact Nat.le_refl n
def AdD(tl:DTA):DTI:=fun ρ Q=>tl ρ fun ds=>match ds with
 | [.int j]=>(-(2 ^ 62)≤j∧j<2 ^ 62)∧Q (ups 0 j.toNat)
 |_=>False
def Acu(tl:DTA):DTI:=fun ρ Q=>tl ρ fun ds=>match ds with
 | [.int i,.int j]=>(-(2 ^ 62)≤i∧i<2 ^ 62∧-(2 ^ 62)≤j∧j<2 ^ 62)∧Q (ups i (j-i).toNat)
 |_=>False
theorem AfL{tg:Expr}{p:Pos}(hg:Gl X "range")(hm:X.mg "range"=none)(ha:DA X [a] tl)(hs:starEach [a] X.env=[(false,eval a X.env)]:=by rfl):DI X tg (.Call (.Name "range" p) [a] [] pos) (AdD tl) where
 mono:=fun hq z=>ha.mono (fun d z=>by
  split at z
  ·exact⟨z.1,hq _ z.2⟩
  ·exact z.elim) z
 pi:=(AaT hg hm ha.pa hs).imp fun σ H Q ⟨B,F,O,ρ,R,z⟩=>⟨B,F,O,ρ,R,ha.mono (fun d z vs H1 s1 r1=>by
  split at z
  ·obtain⟨v,r,rfl,r2,r3⟩:=Bj.mp r1
   rw[BX.mp r3,Bl.mp r2]
   exact⟨_,rfl,z.1.1,z.1.2,z.2 _ H1 s1 SJ⟩
  ·exact z.elim) z⟩
theorem Aar{tg:Expr}{p:Pos}(hg:Gl X "range")(hm:X.mg "range"=none)(ha:DA X [a,b] tl)(hs:starEach [a,b] X.env=[(false,eval a X.env),(false,eval b X.env)]:=by rfl)(hs2:starEach [b] X.env=[(false,eval b X.env)]:=by rfl) :
  DI X tg (.Call (.Name "range" p) [a,b] [] pos) (Acu tl) where
 mono:=fun hq z=>ha.mono (fun d z=>by
  split at z
  ·exact⟨z.1,hq _ z.2⟩
  ·exact z.elim) z
 pi:=(Abe hg hm ha.pa hs hs2).imp fun σ H Q ⟨B,F,O,ρ,R,z⟩=>⟨B,F,O,ρ,R,ha.mono (fun d z vs H1 s1 r1=>by
  split at z
  ·obtain⟨v,r,rfl,r2,r3⟩:=Bj.mp r1
   obtain⟨v',r',rfl,r4,r5⟩:=Bj.mp r3
   rw[BX.mp r5,Bl.mp r2,Bl.mp r4]
   exact⟨_,_,rfl,z.1,z.2 _ H1 s1 SJ⟩
  ·exact z.elim) z⟩
end
def Fy(N:List Str)(ds:List Dt):BW:=ds.map (fun d=>some (.is d))++List.replicate (N.length-ds.length) none
theorem Tt{K:W.Frag}{F:List Addr}{H:Hp}{N:List Str}{ds:List Dt}{vs:List V}(hF:∀a∈F,H a≠none)(r:RpL K (mask F H) ds vs):Rep K H F [] H (start N vs) (Fy N ds):=by
 have hl:=r.len
 have mH:∀(i:Nat)(es:En),(∀z,es≠.is z)→(Fy N ds)[i]? = some (some es)→False:=fun i es nz e=>by
  unfold Fy at e
  by_cases hi:i<ds.length
  ·rw[List.getElem?_append_left (by simpa using hi),List.getElem?_map]at e
   cases q:ds[i]? with
   |none=>rw[q]at e;cases e
   |some d=>rw[q]at e;cases e;exact nz d rfl
  ·rw[List.getElem?_append_right (by simpa using hi),List.getElem?_replicate]at e
   split at e<;>cases e
 refine⟨?_,Same.refl H,fun a h=>(nomatch h),fun a h=>hF a (by simpa using h),fun i d e=>?_,fun i es e=>(mH i _ (fun _ z=>by cases z) e).elim,fun i j es es' a h1=>(mH i _ (fun _ z=>by cases z) h1).elim,fun i es e=>(mH i _ (fun _ z=>by cases z) e).elim,fun i j es es' a h1=>(mH i _ (fun _ z=>by cases z) h1).elim,fun i v e=>(mH i _ (fun _ z=>by cases z) e).elim⟩
 ·unfold start Fy;simp[hl]
 ·unfold Fy at e
  by_cases hi:i<ds.length
  ·rw[List.getElem?_append_left (by simpa using hi),List.getElem?_map]at e
   cases q:ds[i]? with
   |none=>rw[q]at e;cases e
   | some d' =>
    rw[q]at e;cases e
    obtain⟨v,e1,e2⟩:=r.get q
    refine⟨v,?_,by rw[List.append_nil];exact e2⟩
    unfold start
    rw[List.getElem?_append_left (by simp;omega),List.getElem?_map,e1];rfl
  ·rw[List.getElem?_append_right (by simpa using hi),List.getElem?_replicate]at e
   split at e<;>cases e
section
variable{P:Program}{w:World}{K:W.Frag}{mg:Str→Option Value}{base:Heap}
theorem Fun.okD{x qual:Str}{st:Stmt}{f:Addr}{fd:FuncData}{N ps:List Str}{k:Nat}{sp:DSp}(F:Fun K x qual st f fd)(S:Ak N ps (Ag st))(len:∀ds Q,sp ds Q→ds.length=ps.length)
  (hbody:∀(cdv:Value)(A:Around)(outer:List Env)(s:Shared)(H:Hp)(E:XK),Dd k (A.deeper (envOfC qual (Ag st) s.heap.objs.size f cdv)) →
   ∃t,DSs (RD CX0 P w K mg base N qual (Ag st) f cdv A outer s H E).nox (Cp st) t∧∀ds Q,sp ds Q→t {nx:=fun _=>Q .non,rt:=Q} (Fy N ds)):El P w K mg base CX0 (k+1) f fd ps (lSp K sp):=by
 refine F.ok S (fun vs H Q E ⟨F,ds,_,r,h⟩=>by rw[r.len];exact len _ _ h) fun cdv A outer s H vs Q E hr ⟨F',ds,hF,r,h⟩=>?_
 obtain⟨t,T,q⟩:=hbody cdv A outer s H E hr
 refine⟨_,T.ps,H,F',[],Fy N ds,Tt hF r,T.mono (D:={nx:=fun _=>∀v H',Same H H'→Rp K (mask F' H') .non v→Q v H',rt:=fun d=>∀v H',Same H H'→Rp K (mask F' H') d v→Q v H'}) ⟨?_,?_,fun _ z=>False.elim z,fun _ z=>False.elim z⟩ (q ds _ h)⟩
 ·exact fun ρ z O' σ' H' R'=>z .non H' R'.base (QG.mpr rfl)
 ·exact fun d z v H' s' r'=>z v H' s' r'
end
end L2
namespace L2
open PySem Spec PyProof.Rows SeqAt
structure FnT(K:W.Frag)(mg:Str→Option Value)(x:Str)(st:Stmt)(ps:List Str)(f:Addr)(fd:FuncData):Prop where
 fn:Fun K x x st f fd
 mg:mg x=some (.ref f)
 bd:Binds K fd ps []
def Pm(P:Program)(w:World)(K:W.Frag)(mg:Str→Option Value)(base:Heap)(k:Nat)(x:Str)(st:Stmt)(ps:List Str)(sp:DSp):Prop :=
 ∃f fd,FnT K mg x st ps f fd∧El P w K mg base CX0 k f fd ps (lSp K sp)
theorem Fun.uniq{K:W.Frag}{x q:Str}{st:Stmt}{f:Addr}{fd fd':FuncData}(a:Fun K x q st f fd)(b:Fun K x q st f fd'):fd=fd':=by
 obtain⟨oc,od,kV,doc,pm,an,cdv,ct,osl,_,h1,_⟩:=a.ex
 obtain⟨oc',od',kV',agz,pm',an',agA,ct',agB,_,h2,_⟩:=b.ex
 rw[h1]at h2
 injection h2 with h2
 injection h2 with _ _ h2 _
 injection h2
def spec{τ:Type}(args:τ→List Dt)(pre:τ→Prop)(post:τ→Dt→Prop):DSp:=fun ds Q=>∃p,ds=args p∧pre p∧∀d,post p d→Q d
theorem Af{τ:Type}{args:τ→List Dt}{pre:τ→Prop}{post:τ→Dt→Prop}:Ij (spec args pre post):=fun _ _ _ hq ⟨p,e,h,q⟩=>⟨p,e,h,fun d z=>hq _ (q d z)⟩
abbrev CV{τ:Type}(args:τ→List Dt)(pre:τ→Prop)(val:τ→Dt):DSp:=spec args pre fun p d=>d=val p
abbrev T2(a b:Int):Dt:=.tup [.int a,.int b]
abbrev T3(a b c:Int):Dt:=.tup [.int a,.int b,.int c]
abbrev T4(a b c d:Int):Dt:=.tup [.int a,.int b,.int c,.int d]
def Ag0:DSp:=spec (fun ns:List Int=>[.lst (ns.map Dt.int)]) (fun ns=>ns.length≤63) fun _ d=>d=.bl true
theorem Ac0{H:Hp}:mask [] H=H:=by funext a;exact Bh (by simp)
theorem Abg{K:W.Frag}{H:Hp}{a:Addr}{ns:List Int}{E:XK}(hl:ns.length≤63)(hS:SqL K H a (ns.map V.int)):lSp K Ag0 [.ref a] H (fun v _=>v=.bl true) E :=
 ⟨[],[.lst (ns.map Dt.int)],fun _ h=>(nomatch h),RpL.cons (Agj (by rw[Ac0];exact hS) (RpL.ints ns)) RpL.nil,ns,rfl,hl,fun d e v H' s r=>by subst e;exact Fw.mp r⟩
section
variable{X:Cx}{a b c e:Expr}{es:List Expr}{ta tb tc te:DTE}{tA tB:DTT}{tl:DTA}{pos:Pos}
theorem Ah{k:Nat}{ps:List Str}{sp:DSp}{x:Str}{stx:Stmt}{p:Pos}(m:Ij sp)(G:Pm X.prog X.w X.K X.mg X.base k x stx ps sp)(hr:Dd k X.A)(hg:Gl X x)
  (ha:DA X (e::es) tl) (hdb:(x==("__debug__":Str))=false:=by decide)
  (he:starEach (e::es) X.env=(false,eval e X.env)::starEach es X.env:=by rfl) (hpl:(backTo pos (starEach es X.env)).any (·.1)=false:=by rfl):DE X (.Call (.Name x p) (e::es) [] pos) (dCall sp tl):=by
 obtain⟨f,fd,F,G⟩:=G
 exact Agc (CX:=CX0) m G hr hg F.mg F.fn.kp F.bd ha hdb he hpl
theorem Ao(i:Nat){x:Str}{pos':Pos}(hN:X.N.Nodup)(he:DE X e te)(hi:X.N[i]? = some x:=by rfl)(hx:Loc X.env.scope x:=by first | exact Or.inl rfl | exact Or.inr rfl)(hs:swapsWith e (some (.Name x pos')) pos.line X.env=pure false:=by rfl)
  (hf:X.fn x=true∨X.env.scope.names.lookup x=some .local:=by first|exact .inl rfl|exact .inr rfl|assumption):DS X (.Assign [.Name x pos'] e pos) (Ai7 te (U6 i)) where
 mono:=fun hd h=>he.mono (fun _ h=>hd.nx _ h) h
 ps:=(Xy hN hi hx he.pe hs hf).imp fun D σ H ⟨B,F,O,ρ,R,h⟩=>⟨B,F,O,ρ,R,he.mono (fun d q v H1 s1 r1=>q O _ H1 ((R.same s1).set i r1)) h⟩
def Al4(i j:Nat)(tl:DTA):DTS:=fun D ρ=>tl ρ fun ds=>match ds with
 | [d,e]=>D.nx ((ρ.set i (some (.is d))).set j (some (.is e)))
 |_=>False
mutual
def Dt.py:Dt→PyData
 |.non=>.none
 |.bl b=>.bool b
 |.int i=>.int i
 |.str x=>.str x
 |.tup ds=>.tuple (Dt.pys ds)
 |.lst ds=>.list (Dt.pys ds)
 |.fn _=>.dict []
 |.exc _ _ _=>.dict []
 |.obj _ _ _=>.dict []
def Dt.pys:List Dt→List PyData
 | []=>[]
 |d::ds=>d.py::Dt.pys ds
end
mutual
theorem Ii{X:Cx}{pins:List (Addr×Obj)}{σ:St}{H:Hp}{s:Shared}(I:Inv X pins σ H s):∀{d:Dt} {v:V} {u:Value},d.py.canLay0=true→Rp X.K H d v→RelV v u→∃as,Reads s.heap u d.py as
 |.non,v,u,_,h,r=>by rw[QG.mp h]at r;cases(show u=.none from r);exact⟨_,by rw[Dt.py];exact .none⟩
 |.bl b,v,u,_,h,r=>by rw[Fw.mp h]at r;cases(show u=.bool b from r);exact⟨_,by rw[Dt.py];exact .bool b⟩
 |.int i,v,u,_,h,r=>by rw[Bl.mp h]at r;obtain⟨t,rfl⟩:=r;exact⟨_,by rw[Dt.py];exact .int i t⟩
 |.str x,v,u,_,h,r=>by rw[Xq.mp h]at r;obtain⟨t,rfl⟩:=r;exact⟨_,by rw[Dt.py];exact .str x t⟩
 |.fn a,v,u,c,h,r=>by rw[Dt.py]at c;exact(nomatch c)
 |.exc _ _ _,v,u,c,h,r=>by rw[Dt.py]at c;exact(nomatch c)
 |.obj _ _ _,v,u,c,h,r=>by rw[Dt.py]at c;exact(nomatch c)
 | .tup ds,v,u,c,h,r=>by
  obtain⟨a,xs,rfl,hs,hl⟩:=Em.mp h
  cases(show u=.ref a from r)
  obtain⟨its,rv,⟨o,h1,h2,n,h3⟩,_⟩:=I.tuple hs
  rw[Dt.py]at c
  obtain⟨as,ra⟩:=N7 I (ds:=ds) (by simpa [PyData.canLay0] using c) hl rv
  exact⟨_,by rw[Dt.py];exact .tuple h1 h2 h3 (by simpa using ra)⟩
 | .lst ds,v,u,c,h,r=>by
  obtain⟨a,xs,rfl,hs,hl⟩:=Hw h
  cases(show u=.ref a from r)
  obtain⟨its,rv,⟨o,n,h1,h2,_,h3⟩,_⟩:=I.list hs
  rw[Dt.py]at c
  obtain⟨as,ra⟩:=N7 I (ds:=ds) (by simpa [PyData.canLay0] using c) hl rv
  exact⟨_,by rw[Dt.py];exact .list h1 h2 h3 (by simpa using ra)⟩
theorem N7{X:Cx}{pins:List (Addr×Obj)}{σ:St}{H:Hp}{s:Shared}(I:Inv X pins σ H s):∀{ds:List Dt} {vs:List V} {us:List Value},PyData.canLayAll0 (Dt.pys ds)=true→RpL X.K H ds vs→Vals vs us→∃as,ReadsAll s.heap us (Dt.pys ds) as
 | [],vs,us,_,h,r=>by rw[BX.mp h]at r;cases r;exact⟨_,by rw[Dt.pys];exact .nil⟩
 | d::ds,vs,us,c,h,r=>by
  obtain⟨v,vr,rfl,h1,h2⟩:=Bj.mp h
  rw[Dt.pys]at c
  have c':d.py.canLay0=true∧PyData.canLayAll0 (Dt.pys ds)=true:=by simpa [PyData.canLayAll0] using c
  cases r with
  | cons r1 r2 =>
   obtain⟨as,ra⟩:=Ii I c'.1 h1 r1
   obtain⟨bs,rb⟩:=N7 I c'.2 h2 r2
   exact⟨_,by rw[Dt.pys];exact .cons ra rb⟩
end
mutual
def Dt.eq:Dt→Dt→Bool
 |.non,.non=>true
 |.bl a,.bl b=>a==b
 |.bl a,.int j=>(if a then 1 else 0)==j
 |.int i,.bl b=>i==(if b then 1 else 0)
 |.int i,.int j=>decide (i=j)
 |.str x,.str y=>x==y
 |.tup xs,.tup ys=>Dt.eqs xs ys
 |.lst xs,.lst ys=>Dt.eqs xs ys
 |_,_=>false
def Dt.eqs:List Dt→List Dt→Bool
 | [],[]=>true
 |x::xs,y::ys=>Dt.eq x y&&Dt.eqs xs ys
 |_,_=>false
end
mutual
def Dt.flat:Nat→Dt→Bool
 |_,.fn _=>false
 |_,.exc _ _ _=>false
 |_,.obj _ _ _=>false
 |_,.str x=>(PyData.str x).canLay0
 |0,.tup _=>false
 |0,.lst _=>false
 |n+1,.tup ds=>Dt.flats n ds
 |n+1,.lst ds=>Dt.flats n ds
 |_,_=>true
def Dt.flats:Nat→List Dt→Bool
 |_,[]=>true
 |n,d::ds=>Dt.flat n d&&Dt.flats n ds
end
mutual
theorem Gq:∀(d:Dt)(n:Nat),d.flat n=true→d.py.canLay0=true∧d.py.depth≤n
 |.non,n,h=>by rw[Dt.py];exact⟨rfl,Nat.zero_le _⟩
 |.bl _,n,h=>by rw[Dt.py];exact⟨rfl,Nat.zero_le _⟩
 |.int _,n,h=>by rw[Dt.py];exact⟨rfl,Nat.zero_le _⟩
 |.str _,n,h=>by rw[Dt.py];exact⟨by simpa [Dt.flat] using h,Nat.zero_le _⟩
 |.fn _,n,h=>by simp[Dt.flat]at h
 |.exc _ _ _,n,h=>by simp[Dt.flat]at h
 |.obj _ _ _,n,h=>by simp[Dt.flat]at h
 |.tup ds,0,h=>by simp[Dt.flat]at h
 |.lst ds,0,h=>by simp[Dt.flat]at h
 | .tup ds,n+1,h=>by
  have:=Ni ds n (by simpa [Dt.flat] using h)
  rw[Dt.py]
  exact⟨by simpa [PyData.canLay0] using this.1,by simpa [PyData.depth] using this.2⟩
 | .lst ds,n+1,h=>by
  have:=Ni ds n (by simpa [Dt.flat] using h)
  rw[Dt.py]
  exact⟨by simpa [PyData.canLay0] using this.1,by simpa [PyData.depth] using this.2⟩
theorem Ni:∀(ds:List Dt)(n:Nat),Dt.flats n ds=true→PyData.canLayAll0 (Dt.pys ds)=true∧PyData.depthAll (Dt.pys ds)≤n
 | [],n,h=>by rw[Dt.pys];exact⟨rfl,Nat.zero_le _⟩
 | d::ds,n,h=>by
  have h':d.flat n=true∧Dt.flats n ds=true:=by simpa [Dt.flats] using h
  have h1:=Gq d n h'.1
  have h2:=Ni ds n h'.2
  rw[Dt.pys]
  exact⟨by simp[PyData.canLayAll0,h1.1,h2.1],by simp only[PyData.depthAll];omega⟩
end
mutual
theorem Qf:∀(a b:Dt),a.py.canLay0=true→b.py.canLay0=true→PyData.eqv a.py b.py=a.eq b
 |.fn _,b,h,_=>by rw[Dt.py]at h;exact(nomatch h)
 |.exc _ _ _,b,h,_=>by rw[Dt.py]at h;exact(nomatch h)
 |.obj _ _ _,b,h,_=>by rw[Dt.py]at h;exact(nomatch h)
 |a,.fn _,_,h=>by rw[Dt.py]at h;exact(nomatch h)
 |a,.exc _ _ _,_,h=>by rw[Dt.py]at h;exact(nomatch h)
 |a,.obj _ _ _,_,h=>by rw[Dt.py]at h;exact(nomatch h)
 |.non,.non,_,_=>by simp[Dt.py,Dt.eq,PyData.eqv]
 |.non,.bl _,_,_=>by simp[Dt.py,Dt.eq,PyData.eqv]
 |.non,.int _,_,_=>by simp[Dt.py,Dt.eq,PyData.eqv]
 |.non,.str _,_,_=>by simp[Dt.py,Dt.eq,PyData.eqv]
 |.non,.tup _,_,_=>by simp[Dt.py,Dt.eq,PyData.eqv]
 |.non,.lst _,_,_=>by simp[Dt.py,Dt.eq,PyData.eqv]
 |.bl _,.non,_,_=>by simp[Dt.py,Dt.eq,PyData.eqv]
 |.bl _,.bl _,_,_=>by simp[Dt.py,Dt.eq,PyData.eqv]
 |.bl _,.int _,_,_=>by simp[Dt.py,Dt.eq,PyData.eqv]
 |.bl _,.str _,_,_=>by simp[Dt.py,Dt.eq,PyData.eqv]
 |.bl _,.tup _,_,_=>by simp[Dt.py,Dt.eq,PyData.eqv]
 |.bl _,.lst _,_,_=>by simp[Dt.py,Dt.eq,PyData.eqv]
 |.int _,.non,_,_=>by simp[Dt.py,Dt.eq,PyData.eqv]
 |.int _,.bl _,_,_=>by simp[Dt.py,Dt.eq,PyData.eqv]
 | .int i,.int j,_,_=>by
  simp only[Dt.py,Dt.eq,PyData.eqv]
  exact Bool.beq_eq_decide_eq i j
 |.int _,.str _,_,_=>by simp[Dt.py,Dt.eq,PyData.eqv]
 |.int _,.tup _,_,_=>by simp[Dt.py,Dt.eq,PyData.eqv]
 |.int _,.lst _,_,_=>by simp[Dt.py,Dt.eq,PyData.eqv]
 |.str _,.non,_,_=>by simp[Dt.py,Dt.eq,PyData.eqv]
 |.str _,.bl _,_,_=>by simp[Dt.py,Dt.eq,PyData.eqv]
 |.str _,.int _,_,_=>by simp[Dt.py,Dt.eq,PyData.eqv]
 |.str _,.str _,_,_=>by simp[Dt.py,Dt.eq,PyData.eqv]
 |.str _,.tup _,_,_=>by simp[Dt.py,Dt.eq,PyData.eqv]
 |.str _,.lst _,_,_=>by simp[Dt.py,Dt.eq,PyData.eqv]
 |.tup _,.non,_,_=>by simp[Dt.py,Dt.eq,PyData.eqv]
 |.tup _,.bl _,_,_=>by simp[Dt.py,Dt.eq,PyData.eqv]
 |.tup _,.int _,_,_=>by simp[Dt.py,Dt.eq,PyData.eqv]
 |.tup _,.str _,_,_=>by simp[Dt.py,Dt.eq,PyData.eqv]
 | .tup xs,.tup ys,h1,h2=>by
  rw[Dt.py]at h1 h2
  rw[Dt.py,Dt.py,Dt.eq,PyData.eqv]
  exact Vb xs ys (by simpa [PyData.canLay0] using h1) (by simpa [PyData.canLay0] using h2)
 |.tup _,.lst _,_,_=>by simp[Dt.py,Dt.eq,PyData.eqv]
 |.lst _,.non,_,_=>by simp[Dt.py,Dt.eq,PyData.eqv]
 |.lst _,.bl _,_,_=>by simp[Dt.py,Dt.eq,PyData.eqv]
 |.lst _,.int _,_,_=>by simp[Dt.py,Dt.eq,PyData.eqv]
 |.lst _,.str _,_,_=>by simp[Dt.py,Dt.eq,PyData.eqv]
 |.lst _,.tup _,_,_=>by simp[Dt.py,Dt.eq,PyData.eqv]
 | .lst xs,.lst ys,h1,h2=>by
  rw[Dt.py]at h1 h2
  rw[Dt.py,Dt.py,Dt.eq,PyData.eqv]
  exact Vb xs ys (by simpa [PyData.canLay0] using h1) (by simpa [PyData.canLay0] using h2)
theorem Vb:∀(xs ys:List Dt),PyData.canLayAll0 (Dt.pys xs)=true→PyData.canLayAll0 (Dt.pys ys)=true→PyData.eqvAll (Dt.pys xs) (Dt.pys ys)=Dt.eqs xs ys
 | [],[],_,_=>by simp[Dt.pys,Dt.eqs,PyData.eqvAll]
 | [],_::_,_,_=>by simp[Dt.pys,Dt.eqs,PyData.eqvAll]
 |_::_,[],_,_=>by simp[Dt.pys,Dt.eqs,PyData.eqvAll]
 | x::xs,y::ys,h1,h2=>by
  rw[Dt.pys]at h1 h2
  have h1':x.py.canLay0=true∧PyData.canLayAll0 (Dt.pys xs)=true:=by simpa [PyData.canLayAll0] using h1
  have h2':y.py.canLay0=true∧PyData.canLayAll0 (Dt.pys ys)=true:=by simpa [PyData.canLayAll0] using h2
  rw[Dt.pys,Dt.pys,Dt.eqs,PyData.eqvAll,Qf x y h1'.1 h2'.1,Vb xs ys h1'.2 h2'.2]
end
def Afh(K:W.Frag)(neg:Bool):R2:=fun x y H Q=>∃a b,Rp K H a x∧Rp K H b y∧a.flat 8=true∧b.flat 8=true∧Q (.bl (if neg then !a.eq b else a.eq b)) H
theorem Aci(hu:X.A.units+64<cLine):OpR X (compareOp .Eq) (Afh X.K false):=by
 intro pins s σ H x y v u Q I rx ry ⟨a,b,ra,rb,fa,fb,q⟩
 obtain⟨ca,da⟩:=Gq a 8 fa
 obtain⟨cb,db⟩:=Gq b 8 fb
 obtain⟨as,r1⟩:=Ii I ca ra rx
 obtain⟨bs,r2⟩:=Ii I cb rb ry
 refine rcAt_reads r1 r2 ca cb (by omega) _ _ _ _ ?_
 rw[Qf a b ca cb]
 exact⟨.bl _,H,I,rfl,q⟩
theorem Aca(hu:X.A.units+64<cLine):OpR X (compareOp .NotEq) (Afh X.K true):=by
 intro pins s σ H x y v u Q I rx ry ⟨a,b,ra,rb,fa,fb,q⟩
 obtain⟨ca,da⟩:=Gq a 8 fa
 obtain⟨cb,db⟩:=Gq b 8 fb
 obtain⟨as,r1⟩:=Ii I ca ra rx
 obtain⟨bs,r2⟩:=Ii I cb rb ry
 refine compareNe_reads r1 r2 ca cb (by omega) ?_
 rw[Qf a b ca cb]
 exact⟨.bl _,H,I,rfl,q⟩
def dEq:D2:=fun a b Q=>(a.flat 8=true∧b.flat 8=true)∧Q (.bl (a.eq b))
def dNe:D2:=fun a b Q=>(a.flat 8=true∧b.flat 8=true)∧Q (.bl (!a.eq b))
theorem AbR{K:W.Frag}:JX K (Afh K false) dEq:=⟨fun hq h=>⟨h.1,hq _ h.2⟩,fun O H a b x y Q _ ra rb h=>⟨a,b,ra.mono Bv,rb.mono Bv,h.1.1,h.1.2,h.2 _ H (Same.refl H) (Fw.mpr rfl)⟩⟩
theorem Adu{K:W.Frag}:JX K (Afh K true) dNe:=⟨fun hq h=>⟨h.1,hq _ h.2⟩,fun O H a b x y Q _ ra rb h=>⟨a,b,ra.mono Bv,rb.mono Bv,h.1.1,h.1.2,h.2 _ H (Same.refl H) (Fw.mpr rfl)⟩⟩
theorem SN(hu:X.A.units+64<cLine)(ha:DE X a ta)(hb:DE X b tb):DE X (.Compare a [.Eq] [b] pos) (dOp dEq ta tb):=Xg (Aci hu) AbR ha hb (Lx _)
theorem Ahs(hu:X.A.units+64<cLine)(ha:DE X a ta)(hb:DE X b tb):DE X (.Compare a [.NotEq] [b] pos) (dOp dNe ta tb):=Xg (Aca hu) Adu ha hb (Lx _)
theorem BZ(hu:X.A.units+64<cLine)(ha:DE X a ta)(hb:DE X b tb):DT X (.Compare a [.Eq] [b] pos) (UG (dOp dEq ta tb)):=Uk (Aci hu) AbR ha hb (Lx _)
theorem Ih(hu:X.A.units+64<cLine)(ha:DE X a ta)(hb:DE X b tb):DT X (.Compare a [.NotEq] [b] pos) (UG (dOp dNe ta tb)):=Uk (Aca hu) Adu ha hb (Lx _)
def isB(k:Bool):Dt→Bool
 |.bl b=>b==k
 |_=>false
def isN:Dt→Bool
 |.non=>true
 |_=>false
def dIs(neg:Bool):D2:=fun a b Q=>match b with
 |.bl k=>Q (.bl (if neg then !isB k a else isB k a))
 |.non=>Q (.bl (if neg then !isN a else isN a))
 |_=>False
def Ry(t t':D2)(ta tb tc:DTE):DTE:=fun ρ Q=>ta ρ fun a=>tb ρ fun b=>t a b fun z=>match z with
 |.bl k=>if k=true then tc ρ fun c=>t' b c Q else Q (.bl false)
 |_=>False
theorem Yy{t t':D2}{ta tb tc:DTE}(m:∀{a b Q Q'},(∀d,Q d→Q' d)→t a b Q→t a b Q')(m':∀{a b Q Q'},(∀d,Q d→Q' d)→t' a b Q→t' a b Q')
  (ma:∀{ρ Q Q'},(∀d,Q d→Q' d)→ta ρ Q→ta ρ Q') (mb:∀{ρ Q Q'},(∀d,Q d→Q' d)→tb ρ Q→tb ρ Q') (mc:∀{ρ Q Q'},(∀d,Q d→Q' d)→tc ρ Q→tc ρ Q') :
  ∀{ρ Q Q'},(∀d,Q d→Q' d)→Ry t t' ta tb tc ρ Q→Ry t t' ta tb tc ρ Q':=fun hq h=>ma (fun _ h=>mb (fun _ h=>m (fun z h=>by
   split at h
   ·rename_i k
    cases k with
    |true=>exact mc (fun _ h=>m' hq h) h
    |false=>exact hq _ h
   ·exact h.elim) h) h) h
theorem AaN{K:W.Frag}{r r':R2}{t t':D2}(S:JX K r t)(S':JX K r' t'){ta tb tc:DTE}(ma:∀{ρ Q Q'},(∀d,Q d→Q' d)→ta ρ Q→ta ρ Q')(mb:∀{ρ Q Q'},(∀d,Q d→Q' d)→tb ρ Q→tb ρ Q')(mc:∀{ρ Q Q'},(∀d,Q d→Q' d)→tc ρ Q→tc ρ Q')
  (σ:St) (H:Hp) (Q:VK) (h:lE K (Ry t t' ta tb tc) σ H Q):Adq r r' (lE K ta) (lE K tb) (lE K tc) σ H Q:=by
 obtain⟨B,F,O,ρ,R,h⟩:=h
 refine⟨B,F,O,ρ,R,ma (fun a h v H1 s1 r1=>⟨B,F,O,ρ,R.same s1,mb (fun b h u H2 s2 r2=>?_) h⟩) h⟩
 refine S.ok _ H2 a b v u _ ((R.same s1).same s2).th (r1.mono s2.mask) r2 (S.mono (fun z h w H3 s3 r3=>?_) h)
 split at h
 ·rename_i k
  refine⟨k,Fw.mp r3,?_⟩
  have yR:=(s1.trans s2).trans s3
  cases k with
  |true=>exact⟨B,F,O,ρ,R.same yR,mc (fun c h y H4 s4 r4=>S'.ok _ H4 b c u y Q ((R.same yR).same s4).th ((r2.mono s3.mask).mono s4.mask) r4 (S'.mono (fun d q w' H5 s5 r5=>q w' H5 ((yR.trans s4).trans s5) r5) h)) h⟩
  |false=>exact h _ H3 yR (Fw.mpr rfl)
 ·exact h.elim
theorem Wf{op op':CmpOp}{r r':R2}{t t':D2}(ho:OpR X (compareOp op) r)(ho':OpR X (compareOp op') r')(S:JX X.K r t)(S':JX X.K r' t')(ha:DE X a ta)(hb:DE X b tb)(hc:DE X c tc)
  (hm:lastMarks [op,op'] [b,c]=false:=by with_unfolding_all rfl):DE X (.Compare a [op,op'] [b,c] pos) (Ry t t' ta tb tc) where
 mono:=Yy (t:=t) (t':=t') (ta:=ta) (tb:=tb) (tc:=tc) S.mono S'.mono ha.mono hb.mono hc.mono
 pe:=(Adb ho ho' ha.pe hb.pe hc.pe hm).imp (AaN (ta:=ta) (tb:=tb) (tc:=tc) S S' ha.mono hb.mono hc.mono)
abbrev DL:=List Dt→(Dt→Prop)→Prop
structure WR(K:W.Frag)(r:List V→Hp→VK→Prop)(t:DL):Prop where
 mono:∀{ds Q Q'},(∀d,Q d→Q' d)→t ds Q→t ds Q'
 ok:∀(O:List Addr)(H:Hp)(ds:List Dt)(xs:List V)(Q:VK),(∀p∈O,H p≠none)→RpL K (mask O H) ds xs →
  t ds (fun d=>∀v H',Same H H'→Rp K (mask O H') d v→Q v H')→r xs H Q
def dCB(t:DL)(tl:DTA):DTE:=fun ρ Q=>tl ρ fun ds=>t ds Q
theorem Ah2{K:W.Frag}{r:List V→Hp→VK→Prop}{t:DL}(S:WR K r t){tl:DTA}(m:∀{ρ Q Q'},(∀d,Q d→Q' d)→tl ρ Q→tl ρ Q')(σ:St)(H:Hp)(Q:VK)(h:lE K (dCB t tl) σ H Q):tCB r (lA K tl) σ H Q:=by
 obtain⟨B,F,O,ρ,R,h⟩:=h
 exact⟨B,F,O,ρ,R,m (fun ds h vs H1 s1 r1=>S.ok _ H1 ds vs Q (R.same s1).th r1 (S.mono (fun d q v H2 s2 r2=>q v H2 (s1.trans s2) r2) h)) h⟩
theorem Ti{id:String}{x:Str}{p:Pos}{r:List V→Hp→VK→Prop}{t:DL}(hc:J2 X (.builtin id) r)(S:WR X.K r t)(hg:Gl X x)(hm:X.mg x=none)(hv:bootBuiltins x=some (.builtin id))(ha:DA X (e::es) tl)(hn:x≠"__name__":=by decide)
  (hdb:(x==("__debug__":Str))=false:=by decide) (he:starEach (e::es) X.env=(false,eval e X.env)::starEach es X.env:=by rfl) (hpl:(backTo pos (starEach es X.env)).any (·.1)=false:=by rfl):DE X (.Call (.Name x p) (e::es) [] pos) (dCB t tl) where
 mono:=fun hq h=>ha.mono (fun _ h=>S.mono hq h) h
 pe:=(Wy hc hg hm hv ha.pa hn hdb he hpl).imp (Ah2 (tl:=tl) S ha.mono)
def AbG:DL:=fun ds Q=>match ds with
 | [.lst xs]=>Q (.int xs.length)
 | [.tup xs]=>Q (.int xs.length)
 |_=>False
def AcG:DL:=fun ds Q=>match ds with
 | [.int i]=>Q (.int (if i<0 then -i else i))
 |_=>False
def Ad1:DL:=fun ds Q=>match ds with
 | [.int i,.int j]=>Q (.int (if j>i then j else i))
 |_=>False
def AoQ:DL:=fun ds Q=>match ds with
 | [.int i,.int j]=>Q (.int (if j<i then j else i))
 |_=>False
def Alx:DL:=fun ds Q=>match ds with
 | [.int i]=>Q (.int i)
 | [.bl k]=>Q (.int (if k then 1 else 0))
 |_=>False
theorem Ae7{K:W.Frag}:WR K (fun xs H Q=>∃p ys,xs=[.ref p]∧(SqL K H p ys∨SqT K H p ys)∧Q (.int ys.length) H) AbG where
 mono:=fun hq h=>by
  unfold AbG at h ⊢
  split at h
  ·exact hq _ h
  ·exact hq _ h
  ·exact h.elim
 ok:=fun O H ds xs Q _ r h=>by
  unfold AbG at h
  split at h
  ·obtain⟨v,r',rfl,r2,r3⟩:=Bj.mp r
   obtain rfl:=BX.mp r3
   obtain⟨a,ys,rfl,hs,hl⟩:=Hw r2
   exact⟨a,ys,rfl,.inl (Bv.seq hs),by rw[hl.len];exact h _ H (Same.refl H) (Bl.mpr rfl)⟩
  ·obtain⟨v,r',rfl,r2,r3⟩:=Bj.mp r
   obtain rfl:=BX.mp r3
   obtain⟨a,ys,rfl,hs,hl⟩:=Em.mp r2
   exact⟨a,ys,rfl,.inr (Bv.mD hs),by rw[hl.len];exact h _ H (Same.refl H) (Bl.mpr rfl)⟩
  ·exact h.elim
theorem AkS{K:W.Frag}{H:Hp}{i:Int}{xs:List V}(h:RpL K H [.int i] xs):xs=[.int i]:=by
 obtain⟨v,r,rfl,r2,r3⟩:=Bj.mp h
 rw[BX.mp r3,Bl.mp r2]
theorem Aox{K:W.Frag}{H:Hp}{i j:Int}{xs:List V}(h:RpL K H [.int i,.int j] xs):xs=[.int i,.int j]:=by
 obtain⟨v,r,rfl,r2,r3⟩:=Bj.mp h
 rw[AkS r3,Bl.mp r2]
theorem AfM{K:W.Frag}:WR K (fun xs H Q=>∃i,xs=[.int i]∧Q (.int (if i<0 then -i else i)) H) AcG where
 mono:=fun hq h=>by
  unfold AcG at h ⊢
  split at h
  ·exact hq _ h
  ·exact h.elim
 ok:=fun O H ds xs Q _ r h=>by
  unfold AcG at h
  split at h
  ·exact⟨_,AkS r,h _ H (Same.refl H) (Bl.mpr rfl)⟩
  ·exact h.elim
theorem AfG{K:W.Frag}:WR K (fun xs H Q=>∃i j,xs=[.int i,.int j]∧Q (.int (if j>i then j else i)) H) Ad1 where
 mono:=fun hq h=>by
  unfold Ad1 at h ⊢
  split at h
  ·exact hq _ h
  ·exact h.elim
 ok:=fun O H ds xs Q _ r h=>by
  unfold Ad1 at h
  split at h
  ·exact⟨_,_,Aox r,h _ H (Same.refl H) (Bl.mpr rfl)⟩
  ·exact h.elim
theorem Acm{p:Pos}(hm:X.mg "len"=none)(ha:DA X [a] tl)(hg:Gl X "len":=by rfl)(he:starEach [a] X.env=(false,eval a X.env)::starEach [] X.env:=by rfl)(hpl:(backTo pos (starEach [] X.env)).any (·.1)=false:=by rfl) :
  DE X (.Call (.Name "len" p) [a] [] pos) (dCB AbG tl):=Ti U3 Ae7 hg hm PySem.boot_len ha (he:=he) (hpl:=hpl)
theorem Ru{p:Pos}(hm:X.mg "abs"=none)(ha:DA X [a] tl)(hg:Gl X "abs":=by rfl)(hv:bootBuiltins "abs"=some (.builtin "abs"):=by rfl)(he:starEach [a] X.env=(false,eval a X.env)::starEach [] X.env:=by rfl)(hpl:(backTo pos (starEach [] X.env)).any (·.1)=false:=by rfl) :
  DE X (.Call (.Name "abs" p) [a] [] pos) (dCB AcG tl):=Ti Acb AfM hg hm hv ha (he:=he) (hpl:=hpl)
theorem AiD{p:Pos}(hm:X.mg "max"=none)(ha:DA X [a,b] tl)(hc:X.calm=true:=by rfl)(hg:Gl X "max":=by rfl)(hv:bootBuiltins "max"=some (.builtin "max"):=by rfl)(he:starEach [a,b] X.env=(false,eval a X.env)::starEach [b] X.env:=by rfl)
  (hpl:(backTo pos (starEach [b] X.env)).any (·.1)=false:=by rfl):DE X (.Call (.Name "max" p) [a,b] [] pos) (dCB Ad1 tl):=Ti (Aba hc) AfG hg hm hv ha (he:=he) (hpl:=hpl)
def tyOf:Dt→String
 |.non=>"NoneType"
 |.bl _=>"bool"
 |.int _=>"int"
 |.str _=>"str"
 |.tup _=>"tuple"
 |.lst _=>"list"
 |.fn _=>"function"
 |.exc _ _ _=>"exception"
 |.obj _ _ _=>"instance"
def noFn:Dt→Bool
 |.fn _=>false
 |.exc _ _ _=>false
 |.obj _ _ _=>false
 |_=>true
def isT(T:String)(d:Dt):Bool:=tyOf d==T||(T=="int"&&tyOf d=="bool")
def Aok(T:String)(ta:DTE):DTE:=fun ρ Q=>ta ρ fun d=>noFn d=true∧Q (.bl (isT T d))
abbrev DTO:=BW→(Option Int→Prop)→Prop
def lO(K:W.Frag)(t:DTO):TO:=fun σ H Q=>∃B F O ρ,Rep K B F O H σ ρ∧t ρ fun o=>∀H',Same H H'→Q o H'
structure DO(X:Cx)(e:Option Expr)(t:DTO):Prop where
 mono:∀{ρ Q Q'},(∀d,Q d→Q' d)→t ρ Q→t ρ Q'
 po:PO X e (lO X.K t)
def Z9:DTO:=fun _ Q=>Q none
def Ahm(te:DTE):DTO:=fun ρ Q=>te ρ fun d=>match d with
 |.int i=>Q (some i)
 |_=>False
theorem PO.imp{e:Option Expr}{t t':TO}(h:PO X e t)(i:∀σ H Q,t' σ H Q→t σ H Q):PO X e t':=fun pins s σ H Q I q=>h pins s σ H Q I (i _ _ _ q)
theorem Agd:DO X none Z9:=⟨fun hq h=>hq _ h,AgI.imp fun σ H Q ⟨B,F,O,ρ,R,h⟩=>h H (Same.refl H)⟩
theorem Ae2(h:DE X e te):DO X (some e) (Ahm te) where
 mono:=fun hq z=>h.mono (fun d z=>by
  split at z
  ·exact hq _ z
  ·exact z.elim) z
 po:=(AeB h.pe).imp fun σ H Q ⟨B,F,O,ρ,R,z⟩=>⟨B,F,O,ρ,R,h.mono (fun d z v H1 s1 r1=>by
  split at z
  ·exact⟨_,Bl.mp r1,z H1 s1⟩
  ·exact z.elim) z⟩
def cutD(xs:List Dt)(lo hi:Option Int):List Dt:=(xs.drop (HT.sIx xs.length 0 lo)).take (HT.sIx xs.length xs.length hi-HT.sIx xs.length 0 lo)
theorem RpL.cut{K:W.Frag}{H:Hp}{ds:List Dt}{xs:List V}{lo hi:Option Int}(h:RpL K H ds xs):RpL K H (cutD ds lo hi) (AaP xs lo hi):=by
 unfold cutD AaP
 rw[h.len]
 exact(h.drop _).take _
def Ah4(te:DTE)(tl th:DTO):DTE:=fun ρ Q=>te ρ fun d=>tl ρ fun lo=>th ρ fun hi=>match d with
 |.lst ds=>Q (.lst (cutD ds lo hi))
 |_=>False
end
end L2
namespace L2
open PySem Spec PyProof.Rows SeqAt
theorem Ln(env:Env):∀(names:List (Str×NameKind))(cs:List (Str×Addr)),(∀y∈names,y.2=.free→∃c,env.cells.lookup y.1=some c)→(∀n c,cs.lookup n=some c→env.cells.lookup n=some c) →
  ∃cl,(forIn names cs fun(x:Str×NameKind)(r:List (Str×Addr))=>(if(x.2==NameKind.free)=true then(do let c ←cellOf env x.1;pure (ForInStep.yield ((x.1,c)::r)))else pure (ForInStep.yield r):Sem (ForInStep (List (Str×Addr)))))=pure cl ∧
   (∀n c,cl.lookup n=some c→env.cells.lookup n=some c)∧(∀n,(cs.lookup n).isSome=true→(cl.lookup n).isSome=true)∧∀n,(n,NameKind.free)∈names→(cl.lookup n).isSome=true
 | [],cs,_,h2=>⟨cs,rfl,h2,fun _ h=>h,fun n h=>(nomatch h)⟩
 | (x,k)::names,cs,h1,h2=>by
  rw[List.forIn_cons]
  by_cases hk:k=.free
  ·subst hk
   obtain⟨c,hc⟩:=h1 (x,.free) List.mem_cons_self rfl
   have e:cellOf env x=pure c:=by unfold cellOf;rw[hc]
   have h3:∀n c',((x,c)::cs).lookup n=some c'→env.cells.lookup n=some c':=fun n c' q=>by
    rw[List.lookup_cons]at q
    split at q
    ·rename_i b;cases q;rw[eq_of_beq b];exact hc
    ·exact h2 n c' q
   obtain⟨cl,g1,g2,g3,g4⟩:=Ln env names ((x,c)::cs) (fun y hy=>h1 y (List.mem_cons_of_mem _ hy)) h3
   refine⟨cl,?_,g2,fun n q=>g3 n ?_,fun n hn=>?_⟩
   ·simp only[beq_self_eq_true,if_true,e,pure_bind]
    exact g1
   ·rw[List.lookup_cons];split
    ·rfl
    ·exact q
   ·rcases List.mem_cons.mp hn with q|q
    ·cases q
     exact g3 x (by rw[List.lookup_cons];simp)
    ·exact g4 n q
  ·have hb:(k==NameKind.free)=false:=by simpa using hk
   obtain⟨cl,g1,g2,g3,g4⟩:=Ln env names cs (fun y hy=>h1 y (List.mem_cons_of_mem _ hy)) h2
   refine⟨cl,?_,g2,g3,fun n hn=>?_⟩
   ·simp only[hb,Bool.false_eq_true,if_false,pure_bind]
    exact g1
   ·rcases List.mem_cons.mp hn with q|q
    ·cases q;exact absurd rfl hk
    ·exact g4 n q
theorem Q0{env:Env}{scope:Scope}(h:∀y∈scope.names,y.2=.free→∃c,env.cells.lookup y.1=some c) :
  ∃cl,closureFor scope env=pure cl∧(∀n c,cl.lookup n=some c→env.cells.lookup n=some c)∧∀n,(n,NameKind.free)∈scope.names→∃c,cl.lookup n=some c:=by
 obtain⟨cl,g1,g2,_,g4⟩:=Ln env scope.names [] h (fun n c q=>by simp at q)
 refine⟨cl,?_,g2,fun n q=>Option.isSome_iff_exists.mp (g4 n q)⟩
 unfold closureFor
 simp only[bind_pure]
 exact g1
def BL(X:Cx)(scope:Scope)(N:List Str)(cl:List (Str×Addr))(C:Addr)(s₀:Shared)(H₀:Hp)(ex:List Addr):Cx where
 prog:=X.prog
 w:=X.w
 K:=X.K
 mg:=X.mg
 base:=X.base
 A:=X.A
 N:=N
 s₀:=s₀
 H₀:=H₀
 env:=compEnvC scope cl C X.env
 outer:=X.stack
 stack:=X.stack
 ex:=ex
 fn:=fun _=>false
 calm:=X.calm
 pn:=[]
 xe:=fun _ _=>False
def PTs(X:Cx)(ifs:List Expr)(t:TT):Prop :=
 ∀(pins:List (Addr×Obj))(s:Shared)(σ:St)(H:Hp)(Q:Bool→Hp→Prop),Inv X pins σ H s→t σ H Q →
  wpAny (model X.prog X.w) X.A (forIn ifs true fun c r=>if r=true then do let ok ←isTrue c X.env (eval c X.env);pure (ForInStep.yield ok)else pure (ForInStep.yield r)) (TP X pins σ Q) X.xe s
theorem AeC{X:Cx}:PTs X [] (fun _ H Q=>Q true H):=fun pins s σ H Q I h=>wpAny_tests_nil ⟨H,I,h⟩
theorem Ae1{X:Cx}{c:Expr}{t:TT}(h:PT X c t):PTs X [c] t:=fun pins s σ H Q I q=>wpAny_tests_one (h pins s σ H Q I q)
def Zr(sl:List Nat)(wi:TI)(tt:TT)(te:TE):TE:=fun σ H Q=>wi σ H fun J H1=>∃vs:List V,sl.map (fun j=>σ[j]?)=vs.map (fun v=>some (some v))∧∀D,H1 D=none →
 ∃W:Nat→Nat→List V→Hp→Prop,(∃m,W 0 m [] (upd H1 D (.lst [])))∧∀i m acc H,W i m acc H →
  (J.stop i H∧Q (.ref D) H) ∨
  (J.go i H∧∀x H',J.yld i H x H'→tt (some x::vs.map some) H' fun b H2 =>
   if b=true then te (some x::vs.map some) H2 fun y H3=>H3 D=some (.lst acc)∧acc.length<sizeLine∧∃m',m'<m∧W (i+1) m' (acc++[y]) (upd H3 D (.lst (acc++[y])))
   else ∃m',m'<m∧W (i+1) m' acc H2)
theorem Hj{env:Env}:∀{names:List (Str×NameKind)} {x:Str},names.lookup x=some .free→env.scope.kind=.function→env.kindOf x=some .cell →
  (names.map fun(n,k)=>if(k==NameKind.free&&env.scope.kind == .function&&env.kindOf n==some .cell)then(n,NameKind.cell)else(n,k)).lookup x=some .cell
 | [],_,h,_,_=>by simp at h
 | (n,k)::r,x,h,hk,he=>by
  have ih:=@Hj env r x
  show List.lookup x ((if(k==NameKind.free&&env.scope.kind == .function&&env.kindOf n==some .cell)=true then(n,NameKind.cell)else(n,k))::_)=_
  cases hx:x==n with
  | true =>
   simp only[List.lookup_cons,hx]at h
   cases h
   have e:=eq_of_beq hx
   subst e
   simp[List.lookup_cons,hk,he]
  | false =>
   simp only[List.lookup_cons,hx]at h
   by_cases hc:(k==NameKind.free&&env.scope.kind == .function&&env.kindOf n==some .cell)=true
   ·rw[if_pos hc];simp only[List.lookup_cons,hx];exact ih h hk he
   ·rw[if_neg hc];simp only[List.lookup_cons,hx];exact ih h hk he
theorem Mp{env:Env}:∀{names:List (Str×NameKind)} {x:Str},(∀y∈names,y.2≠.cell) →
  ((names.map fun(n,k)=>if(k==NameKind.free&&env.scope.kind == .function&&env.kindOf n==some .cell)then(n,NameKind.cell)else(n,k)).lookup x=some .cell ∨
   (names.map fun(n,k)=>if(k==NameKind.free&&env.scope.kind == .function&&env.kindOf n==some .cell)then(n,NameKind.cell)else(n,k)).lookup x=some .free)→(x,NameKind.free)∈names
 | [],_,_,h=>by simp at h
 | (n,k)::r,x,hn,h=>by
  have ih:=@Mp env r x fun y hy=>hn y (List.mem_cons_of_mem _ hy)
  have nk:k≠.cell:=hn (n,k) List.mem_cons_self
  rw[List.map_cons]at h
  by_cases hc:(k==NameKind.free&&env.scope.kind == .function&&env.kindOf n==some .cell)=true
  ·simp only[hc,if_true,List.lookup_cons]at h
   have kf:k=.free:=by simp at hc;exact hc.1.1
   subst kf
   cases hx:x==n with
   |true=>rw[eq_of_beq hx];exact List.mem_cons_self
   |false=>simp only[hx]at h;exact List.mem_cons_of_mem _ (ih h)
  ·have hc':(k==NameKind.free&&env.scope.kind == .function&&env.kindOf n==some .cell)=false:=by simpa using hc
   simp only[hc',Bool.false_eq_true,if_false,List.lookup_cons]at h
   cases hx:x==n with
   | true =>
    simp only[hx]at h
    have kf:k=.free:=by
     rcases h with h|h
     ·exact absurd (Option.some.inj h) nk
     ·exact Option.some.inj h
    subst kf
    rw[eq_of_beq hx];exact List.mem_cons_self
   |false=>simp only[hx]at h;exact List.mem_cons_of_mem _ (ih h)
section
variable{X:Cx}{elt iter:Expr}{x:Str}{px:Pos}{ifs:List Expr}{scope:Scope}{pos:Pos}{N:List Str}{sl:List Nat}{wi:TI}{tt:TT}{te:TE}
structure Gn(X:Cx)(scope:Scope)(x:Str)(N:List Str)(sl:List Nat):Prop where
 hx:scope.names.lookup x=some .local
 kind:scope.kind=.function
 cell:∀y∈scope.names,y.2≠.cell
 names:∀y∈scope.names,y.2=.local→scope.names.lookup y.1=some .local
 free:∀y∈scope.names,y.2=.free→X.env.kindOf y.1=some .cell
 nd:(x::N).Nodup
 sl:N.map some=sl.map (fun j=>X.N[j]?)
 frN:∀n∈N,scope.names.lookup n=some .free
theorem Vv(S:Gn X scope x N sl){pins:List (Addr×Obj)}{σ:St}{H:Hp}{s:Shared}{h₁:Heap}{tk:Nat}{fp:List Addr}{cl:List (Str×Addr)}{vs:List V}{o:Obj}(I:Inv X pins σ H s)
  (hfp:∀b∈fp,MJ X pins H b) (hob:∀b∈fp,∃o,s.heap.get? b=some o) (hns:h₁.Ns s.heap.objs.size (fun _=>none)) (hsb:Heap.SameBut s.heap.objs.size (s.heap.push o) h₁)
  (hcl:∀n c,cl.lookup n=some c→X.env.cells.lookup n=some c) (aaH:∀n,(n,NameKind.free)∈scope.names→∃c,cl.lookup n=some c)
  (hvs:sl.map (fun j=>σ[j]?)=vs.map (fun v=>some (some v))) :
  Inv (BL X scope (x::N) cl s.heap.objs.size s H fp) [] (none::vs.map some) H {s with heap:=h₁,toks:=tk}:=by
 have hL:=I.lt
 have keep:∀b o,s.heap.get? b=some o→h₁.get? b=some o:=fun b o e=>(hsb.2 b (Nat.ne_of_lt (Heap.lt_size e))).trans (Heap.get?_push_of_some _ e)
 have kf:X.env.scope.kind=.function:=I.ok.kind
 refine⟨⟨I.ok.mod,?_,I.ok.glob,I.ok.blt,Nat.le_refl _,fun y z c h1 h2=>I.ok.inj y z c (hcl y c h1) (hcl z c h2),fun y hy=>?_,fun y c h=>(by cases h),I.ok.hd,I.ok.frames,.inl rfl,fun b hb=>⟨?_,fun y c e=>?_⟩,fun b o e=>I.bs b o e,
  Nat.le_trans I.ok.bsz I.sz,fun b o e hb=>?_,fun b hb hz=>?_,I.stack,I.yQ⟩,rfl,I.bare,Un.kept keep,⟨_,hns,fun i y v e1 e2 e3=>?_⟩,fun y c e=>?_,I.hok.fresh (Nat.le_refl _),fun y c e=>I.ju y c (hcl y c e),
  fun p hp=>absurd (show p∈([]:List (Addr×Obj))from hp) (by simp),I.hok.kept keep,?_⟩
 ·exact S.kind
 ·exact aaH y (Mp (env:=X.env) (fun z hz=>S.cell z hz) hy)
 ·obtain⟨o',e⟩:=hob b hb
  exact Nat.ne_of_lt (Heap.lt_size e)
 ·exact(hfp b hb).2.2.2.2.1 y c (hcl y c e)
 ·rcases(hfp b hb).2.2.2.1 with z|z
  ·exact I.ok.yO b o e z
  ·exact absurd (Nat.lt_of_lt_of_le (Heap.lt_size e) (Nat.le_trans I.ok.bsz z)) (Nat.lt_irrefl _)
 ·rcases List.mem_cons.mp (I.yP b hz)with q|q
  ·exact(hfp b hb).2.1 q
  ·exact(hfp b hb).2.2.1 q
 ·cases i with
  |zero=>simp at e2
  | succ j =>
   have e1':N[j]? = some y:=by simpa [BL] using e1
   have e2':vs[j]? = some v:=by
    rw[List.getElem?_cons_succ,List.getElem?_map]at e2
    cases q:vs[j]? with
    |none=>rw[q]at e2;cases e2
    |some v'=>rw[q]at e2;cases e2;rfl
   have q1:=congrArg (fun l=>l[j]?) S.sl
   have q2:=congrArg (fun l=>l[j]?) hvs
   simp only[List.getElem?_map,e1',e2',Option.map_some]at q1 q2
   cases hk:sl[j]? with
   |none=>rw[hk]at q1;cases q1
   | some k =>
    rw[hk]at q1 q2
    have n1:X.N[k]? = some y:=(Option.some.inj q1).symm
    have n2:σ[k]? = some (some v):=Option.some.inj q2
    have hfr:=S.frN y (List.mem_of_getElem? e1')
    have hm:=PySem.mem_of_lookup hfr
    have hc:=S.free _ hm rfl
    obtain⟨m,hn,hl⟩:=I.loc
    obtain⟨u,r,lk⟩:=hl k y v n1 n2 (.inr (.inl hc))
    refine⟨u,r,.inr ⟨.inl (Hj hfr kf hc),?_⟩⟩
    rcases lk with⟨kl,_⟩|⟨_,c,ec,⟨o',ho,hd⟩⟩
    ·rw[hc]at kl;cases kl
    ·obtain⟨c',ec'⟩:=aaH y hm
     have:=hcl y c' ec'
     rw[ec]at this;cases this
     exact⟨c,ec',o',keep _ _ ho,hd⟩
 ·obtain⟨v,o',ho,hd⟩:=I.cell y c (hcl y c e)
  exact⟨v,o',keep _ _ ho,hd⟩
 ·have l1:=congrArg List.length S.sl
  have l2:=congrArg List.length hvs
  simp only[List.length_map]at l1 l2
  simp[BL];omega
theorem AfT(S:Gn X scope x N sl)(hc:X.calm=true)(hi:PI X (.Name x px) iter wi)(ht:∀cl C s₀ H₀ ex,PTs (BL X scope (x::N) cl C s₀ H₀ ex) ifs tt)(he:∀cl C s₀ H₀ ex,PE (BL X scope (x::N) cl C s₀ H₀ ex) elt te)
  (hs:∀x,foldedSetIterable iter X.env x=pure x:=by intro _;rfl):PE X (.ListComp elt [⟨.Name x px,iter,ifs,0⟩] scope pos) (Zr sl wi tt te):=by
 intro pins s σ H Q I h
 obtain⟨cl,hclos,hcl,aaH⟩:=Q0 (env:=X.env) (scope:=scope) fun y hy hf=>I.ok.has y.1 (.inl (S.free y hy hf))
 rw[eval_ListComp]
 refine wpAny_comprehension_free (use:=none) rfl hs hclos S.kind S.names (thn (hi pins s σ H _ I h) fun v s1 h1=>thn h1 fun itv s2 h2=>?_)
 obtain⟨it,fp,tn,J,H2,e,I2,T,st2,f2,vs,hvs,hW⟩:=h2
 subst e
 refine wpAny_newObj_type (wpAny_newFunctionEnv S.cell (by intro y hy;simp at hy) (fun h₁ hns₁ hsb₁=>?_) S.kind)
 have hD:H2 s2.heap.objs.size=none:=I2.fresh
 have I3:Inv X pins σ (upd H2 s2.heap.objs.size (.lst [])) {s2 with heap:=s2.heap.push {cls:=.type "list",data:=.seq ([]:List Value).toArray},toks:=s2.toks}:=I2.aeP (its:=[]) (ys:=[]) .nil (Nat.zero_le _)
 have hbD:∀b∈fp,b≠s2.heap.objs.size:=fun b hb z=>by
  obtain⟨o',e',_⟩:=T.obj _ _ st2 b hb
  exact absurd (Heap.lt_size e') (by rw[z];exact Nat.lt_irrefl _)
 have f3:∀b∈fp,MJ X pins (upd H2 s2.heap.objs.size (.lst [])) b:=fun b hb=>⟨by rw[Am (hbD b hb)];exact(f2 b hb).1,(f2 b hb).2⟩
 have ob3:∀b∈fp,∃o,(s2.heap.push {cls:=.type "list",data:=.seq ([]:List Value).toArray}).get? b=some o:=fun b hb=>by
  obtain⟨o',e',_⟩:=T.obj _ _ st2 b hb
  exact⟨o',Heap.get?_push_of_some _ e'⟩
 have IC:=Vv (tk:=s2.toks+([]:List (Str×Value)).length) S I3 f3 ob3 hns₁ hsb₁ hcl aaH hvs
 dsimp only at hsb₁ IC ⊢
 generalize hCC:(s2.heap.push {cls:=.type "list",data:=.seq ([]:List Value).toArray}).objs.size=C at hns₁ hsb₁ IC ⊢
 have old:∀b o,s2.heap.get? b=some o→h₁.get? b=some o:=fun b o e=>by
  have e1:(s2.heap.push {cls:=.type "list",data:=.seq ([]:List Value).toArray}).get? b=some o:=Heap.get?_push_of_some _ e
  exact(hsb₁.2 b (by rw[←hCC];exact Nat.ne_of_lt (Heap.lt_size e1))).trans (Heap.get?_push_of_some _ e1)
 have st₁:tn 0 h₁:=T.keep _ _ _ st2 fun b hb o e=>old b o e
 obtain⟨W,⟨m0,w0⟩,turn⟩:=hW s2.heap.objs.size hD
 have fpC:∀{H':Hp} {pl:List (Addr×Obj)},(∀b∈fp,H' b=none)→(∀p∈pl,p.1∉fp)→∀b∈fp,MJ (BL X scope (x::N) cl C {s2 with heap:=s2.heap.push {cls:=.type "list",data:=.seq ([]:List Value).toArray},toks:=s2.toks} (upd H2 s2.heap.objs.size (.lst [])) fp) pl H' b:=fun{H' pl} hn hp b hb=>by
  refine⟨hn b hb,(IC.ok.exf b hb).1,IC.ok.wN b hb,.inl hb,(IC.ok.exf b hb).2,fun p hq z=>?_⟩
  have hq':p∈pl:=by simpa [BL] using hq
  exact hp p hq' (by rw[z];exact hb)
 have done:∀{σ':St} {H':Hp} {s':Shared},Inv (BL X scope (x::N) cl C {s2 with heap:=s2.heap.push {cls:=.type "list",data:=.seq ([]:List Value).toArray},toks:=s2.toks} (upd H2 s2.heap.objs.size (.lst [])) fp) [] σ' H' s'→Q (.ref s2.heap.objs.size) H' →
   ∃m,s'.heap.Ns C m∧∀h',Heap.SameBut C s'.heap h'→EP X pins σ Q (.ref s2.heap.objs.size) {s' with heap:=h'}:=fun{σ' H' s'} J q=>by
  obtain⟨m,hn,_⟩:=id J.loc
  refine⟨m,hn,fun h' hs'=>⟨.ref s2.heap.objs.size,H',?_,rfl,q⟩⟩
  have u:Un (frs X.stack) fp H2 H' s2.heap s'.heap:=(Un.laid (fun b u e=>Heap.get?_push_of_some _ e) (Nat.le_refl _) hD).trans J.base
  have nC:∀b o,s2.heap.get? b=some o→b≠C:=fun b o e=>by
   have e1:(s2.heap.push {cls:=.type "list",data:=.seq ([]:List Value).toArray}).get? b=some o:=Heap.get?_push_of_some _ e
   rw[←hCC];exact Nat.ne_of_lt (Heap.lt_size e1)
  have u':Un (frs X.stack) fp H2 H' s2.heap h' :=
   ⟨fun b o e n hb hx=>(hs'.2 b (nC b o e)).trans (u.keep b o e n hb hx),fun b o e n hb hx=>let ⟨sl,q⟩:=u.slot b o e n hb hx;⟨sl,(hs'.2 b (nC b o e)).trans q⟩,u.free,fun b o e hx=>let ⟨o',q⟩:=u.there b o e hx;⟨o',(hs'.2 b (nC b o e)).trans q⟩,u.tups,u.oX,u.pL⟩
  have hok:HOk X.prog X.w H' h':=fun b ob e=>(J.hok b ob e).stay (fun c w' hc q=>(hs'.2 c (by
   rintro rfl
   have hf:H' c=none:=J.free
   rcases hc with rfl|hc
   ·rw[hf]at e;cases e
   ·rw[hf]at hc;cases hc)).trans q) (fun _ q=>q) fun _ _ q=>q
  have hos:s'.os=s2.os:=J.os
  exact I2.call' (s':={s' with heap:=h'}) (ch:=fp) hos u' hok J.bare fun b hb=>⟨(f2 b hb).2.2.2.1,(f2 b hb).2.1,(f2 b hb).2.2.2.2.1,(f2 b hb).2.2.2.2.2⟩
 have loop:codeAny (model X.prog X.w) X.A (.compLoop (.ListComp elt [⟨.Name x px,iter,ifs,0⟩] scope pos) 0 (.ref it) (.ref s2.heap.objs.size) (compEnvC scope cl C X.env)) (compPost (model X.prog X.w) X.A X.xe none (EP X pins σ Q) (.ref s2.heap.objs.size) C)
   {s2 with heap:=h₁,toks:=s2.toks+([]:List (Str×Value)).length}:=by
  refine codeAny_compLoop_tests (fun n s'=>∃i acc σ' H',Inv (BL X scope (x::N) cl C {s2 with heap:=s2.heap.push {cls:=.type "list",data:=.seq ([]:List Value).toArray},toks:=s2.toks} (upd H2 s2.heap.objs.size (.lst [])) fp) [] σ' H' s'∧(∃y,σ'=y::vs.map some) ∧
   tn i s'.heap∧(∀b∈fp,H' b=none)∧W i n acc H') ?_ m0 ⟨0,[],_,_,IC,⟨none,rfl⟩,st₁,fun b hb=>(f3 b hb).1,w0⟩
  rintro n s3 ⟨i,acc,σ3,H3,I4,⟨y,rfl⟩,st3,fr3,w3⟩
  rcases turn i n acc H3 w3 with⟨stop,qn⟩|⟨go,step⟩
  ·refine wpAny_mono (T.done (BL X scope (x::N) cl C {s2 with heap:=s2.heap.push {cls:=.type "list",data:=.seq ([]:List Value).toArray},toks:=s2.toks} (upd H2 s2.heap.objs.size (.lst [])) fp) rfl rfl rfl hc i [] s3 _ H3 (fun _ _=>False) I4 (fpC fr3 (by simp)) st3 stop) (fun r s4 ⟨hr,I5⟩=>?_) fun _ _ z=>False.elim z
   subst hr
   exact done I5 qn
  ·refine wpAny_mono (T.item (BL X scope (x::N) cl C {s2 with heap:=s2.heap.push {cls:=.type "list",data:=.seq ([]:List Value).toArray},toks:=s2.toks} (upd H2 s2.heap.objs.size (.lst [])) fp) rfl rfl rfl hc i [] s3 _ H3 (fun _ _=>False) I4 (fpC fr3 (by simp)) st3 go) (fun r s4 ⟨u,hr,h4⟩=>?_) fun _ _ z=>False.elim z
   subst hr
   have e0:∀(k:Unit→Sem Unit),(letOwnedTupleGo (.Name x px) (.ref it) u >>= k)=k ():=fun k=>rfl
   have hg:PG (BL X scope (x::N) cl C {s2 with heap:=s2.heap.push {cls:=.type "list",data:=.seq ([]:List Value).toArray},toks:=s2.toks} (upd H2 s2.heap.objs.size (.lst [])) fp) (.Name x px) (Aag 0):=Uv S.nd rfl (.inl (lookup_relabel_local S.hx)) (.inr (lookup_relabel_local S.hx))
   show wpAny (model X.prog X.w) X.A (assign (.Name x px) (compEnvC scope cl C X.env) u) _ _ s4
   rw[←e0 fun _=>assign (.Name x px) (compEnvC scope cl C X.env) u]
   refine wpAny_bind (wpAny_mono h4 (fun _ s5 ⟨z,H5,I5,r5,y5,st5,fr5⟩=>?_) fun _ _ z=>False.elim z)
   have I5':=I5.pinned (fpC fr5 (by simp)) (T.obj _ _ st5)
   have W5:=hg _ s5 _ H5 z u (fun σ' H'=>σ'=some z::vs.map some∧H'=H5) I5' r5 ⟨rfl,rfl⟩
   refine wpAny_mono W5 (fun _ s6 ⟨σ6,H6,I6,e6,e7⟩=>?_) fun _ _ z=>False.elim z
   subst e6 e7
   refine wpAny_mono (ht _ _ _ _ _ _ s6 _ H6 _ I6 (step z H6 y5)) (fun b s7 ⟨H7,I7,q7⟩=>?_) fun _ _ z=>False.elim z
   have again:∀{H8:Hp} {s8:Shared} {acc':List V},Inv (BL X scope (x::N) cl C {s2 with heap:=s2.heap.push {cls:=.type "list",data:=.seq ([]:List Value).toArray},toks:=s2.toks} (upd H2 s2.heap.objs.size (.lst [])) fp) ([]++Oi fp s5.heap) (some z::vs.map some) H8 s8→(∃m',m'<n∧W (i+1) m' acc' H8)→∃m,m<n∧∃i acc σ' H',Inv (BL X scope (x::N) cl C {s2 with heap:=s2.heap.push {cls:=.type "list",data:=.seq ([]:List Value).toArray},toks:=s2.toks} (upd H2 s2.heap.objs.size (.lst [])) fp) [] σ' H' s8∧(∃y,σ'=y::vs.map some)∧tn i s8.heap∧(∀b∈fp,H' b=none)∧W i m acc H':=fun{H8 s8 acc'} I8 ⟨m',hm,w8⟩=>by
    refine⟨m',hm,i+1,acc',_,H8,I8.mG,⟨_,rfl⟩,T.keep _ _ _ st5 fun b hb o e=>(I8.pin (b,o) (List.mem_append_right _ (List.mem_append_right _ (GK hb e)))).1,fun b hb=>?_,w8⟩
    obtain⟨o,e,d⟩:=T.obj _ _ st5 b hb
    exact(I8.pin (b,o) (List.mem_append_right _ (List.mem_append_right _ (GK hb e)))).2.1
   cases b with
   |false=>exact again I7 q7
   | true =>
    rw[if_pos rfl]
    refine wpAny_mono (he _ _ _ _ _ _ s7 _ H7 _ I7 q7) (fun v8 s8 ⟨x8,H8,I8,r8,hD8,hz8,q8⟩=>?_) fun _ _ z=>False.elim z
    refine wpAny_mono (Nv (X:=(BL X scope (x::N) cl C {s2 with heap:=s2.heap.push {cls:=.type "list",data:=.seq ([]:List Value).toArray},toks:=s2.toks} (upd H2 s2.heap.objs.size (.lst [])) fp)) _ s8 _ H8 (.ref s2.heap.objs.size) [x8] (.ref s2.heap.objs.size) [v8] (fun _ H9=>H9=upd H8 s2.heap.objs.size (.lst (acc++[x8]))) I8 rfl (.cons r8 .nil) ⟨_,acc,x8,rfl,rfl,hD8,hz8,rfl⟩) (fun _ s9 ⟨_,H9,I9,_,e9⟩=>?_) fun _ _ z=>False.elim z
    subst e9
    exact again I9 q8
 exact codeAny_compStart_list loop (T.self _ 0 _ _ _ st₁ loop)
def inner(sl:List Nat)(ρ:BW)(d:Dt):BW:=some (.is d)::sl.map fun j=>(ρ[j]?).join
structure DTs(X:Cx)(ifs:List Expr)(t:DTT):Prop where
 mono:∀{ρ Q Q'},(∀d,Q d→Q' d)→t ρ Q→t ρ Q'
 pts:PTs X ifs (lT X.K t)
def Ld:DTT:=fun _ Q=>Q true
theorem Z6:DTs X [] Ld:=⟨fun hq h=>hq _ h,fun pins s σ H Q I ⟨B,F,O,ρ,R,h⟩=>AeC pins s σ H Q I (h H (Same.refl H))⟩
theorem AeN{c:Expr}{t:DTT}(h:DT X c t):DTs X [c] t:=⟨h.mono,Ae1 h.pt⟩
def caught(sl:List Nat)(ρ:BW):Prop:=∀j∈sl,∃d,ρ[j]? = some (some (.is d))
def Ia(sl:List Nat)(ti:DTI)(tt:DTT)(te:DTE):DTE:=fun ρ Q=>ti ρ fun items=>items.length≤sizeLine∧caught sl ρ ∧
 ∃W:Nat→List Dt→Prop,W 0 []∧(∀(k:Nat) d acc,items[k]? = some d→W k acc→tt (inner sl ρ d) fun b=>if b=true then te (inner sl ρ d) fun e=>W (k+1) (acc++[e])else W (k+1) acc) ∧
  ∀acc,acc.length≤items.length→W items.length acc→Q (.lst acc)
theorem Kf{K:W.Frag}{B:Hp}{F O:List Addr}{H:Hp}{σ:St}{ρ:BW}(R:Rep K B F O H σ ρ):∀{sl:List Nat},caught sl ρ→∃vs ds,sl.map (fun j=>σ[j]?)=vs.map (fun v=>some (some v))∧sl.map (fun j=>(ρ[j]?).join)=ds.map (fun d=>some (En.is d))∧RpL K (mask (F++O) H) ds vs
 | [],_=>⟨[],[],rfl,rfl,RpL.nil⟩
 | j::sl,h=>by
  obtain⟨d,e⟩:=h j List.mem_cons_self
  obtain⟨v,e1,e2⟩:=R.is j d e
  obtain⟨vs,ds,h1,h2,h3⟩:=Kf R (sl:=sl) fun k hk=>h k (List.mem_cons_of_mem _ hk)
  exact⟨v::vs,d::ds,by simp[e1,h1],by simp[e,h2],RpL.cons e2 h3⟩
theorem TF{K:W.Frag}{F:List Addr}{H:Hp}{d:Dt}{v:V}{ds:List Dt}{vs:List V}(th:∀a∈F,H a≠none)(r:Rp K (mask F H) d v)(rs:RpL K (mask F H) ds vs) :
  Rep K (fun _=>none) F [] H (some v::vs.map some) (some (.is d)::ds.map fun d=>some (En.is d)):=by
 have e:mask (F++[]) H=mask F H:=by rw[List.append_nil]
 have mH:∀(i:Nat)(es:En),(∀z,es≠.is z)→(some (En.is d)::ds.map fun d=>some (En.is d))[i]? = some (some es)→False:=fun i es nz q=>by
  cases i with
  |zero=>cases q;exact nz _ rfl
  | succ j =>
   rw[List.getElem?_cons_succ,List.getElem?_map]at q
   cases z:ds[j]? with
   |none=>rw[z]at q;cases q
   |some y=>rw[z]at q;cases q;exact nz _ rfl
 refine⟨by simp[rs.len],fun a o q=>(nomatch q),fun a h=>(nomatch h),fun a h=>th a (by simpa using h),fun i y q=>?_,fun i es q=>(mH i _ (fun _ z=>by cases z) q).elim,fun i j es es' a h1=>(mH i _ (fun _ z=>by cases z) h1).elim,fun i es q=>(mH i _ (fun _ z=>by cases z) q).elim,fun i j es es' a h1=>(mH i _ (fun _ z=>by cases z) h1).elim,fun i v q=>(mH i _ (fun _ z=>by cases z) q).elim⟩
 rw[e]
 cases i with
 |zero=>cases q;exact⟨v,rfl,r⟩
 | succ j =>
  rw[List.getElem?_cons_succ,List.getElem?_map]at q
  cases z:ds[j]? with
  |none=>rw[z]at q;cases q
  | some y' =>
   rw[z]at q;cases q
   obtain⟨u,h1,h2⟩:=rs.get z
   exact⟨u,by rw[List.getElem?_cons_succ,List.getElem?_map,h1];rfl,h2⟩
theorem Acn{K:PySem.W.Frag}{sl:List Nat}{ti:DTI}{dt:DTT}{de:DTE}(mi:∀{ρ Q Q'},(∀d,Q d→Q' d)→ti ρ Q→ti ρ Q')(mt:∀{ρ Q Q'},(∀d,Q d→Q' d)→dt ρ Q→dt ρ Q')(me:∀{ρ Q Q'},(∀d,Q d→Q' d)→de ρ Q→de ρ Q')
  (σ:St) (H:Hp) (Q:VK) (h:lE K (Ia sl ti dt de) σ H Q):Zr sl (lI K ti) (lT K dt) (lE K de) σ H Q:=by
 obtain⟨B,F,O,ρ,R,h⟩:=h
 refine⟨B,F,O,ρ,R,mi (fun items ⟨h1,h2,W,w0,st,fin⟩ J H1 s1 it=>?_) h⟩
 have R1:=R.same s1
 obtain⟨vs,ds,ev,ed,rs⟩:=Kf R1 h2
 refine⟨vs,ev,fun D hD=>?_⟩
 have nD:D∉F++O:=fun z=>R1.th D z hD
 have sM:Same (mask (F++O) H1) (mask (F++O) (upd H1 D (.lst []))):=(Same.upd hD).mask
 refine⟨fun i m acc H2=>m+i=items.length∧H2 D=some (.lst acc)∧acc.length≤i∧Same H1 H2∧∃as,RpL K (mask (D::(F++O)) H2) as acc∧W i as,⟨items.length,by omega,Aw,Nat.le_refl _,Same.upd hD,[],RpL.nil,w0⟩,?_⟩
 rintro i m acc H2 ⟨hm,e2,hl,s2,as,ra,w⟩
 have sb:Same (mask (F++O) H1) H2:=fun a o e=>s2 a o (Cv e).2
 have sD:Same (mask (F++O) H1) (mask (D::(F++O)) H2):=fun a o e=>by
  obtain⟨q,e⟩:=Cv e
  rw[Bh fun z=>by
   rcases List.mem_cons.mp z with z|z
   ·rw[z,hD]at e;cases e
   ·exact q z]
  exact s2 a o e
 obtain⟨go,stop⟩:=it H2 sb
 by_cases hlt:i<items.length
 ·refine .inr ⟨(go i items[i] (by simp[hlt])).1,fun z H3 y=>?_⟩
  obtain⟨e,r⟩:=(go i items[i] (by simp[hlt])).2 z H3 y
  subst e
  have th:∀a∈D::(F++O),H3 a≠none:=fun a ha q=>by
   rcases List.mem_cons.mp ha with z|z
   ·rw[z,e2]at q;cases q
   ·have:=R1.th a z
    cases q':H1 a with
    |none=>exact this q'
    |some o=>rw[s2 a o q']at q;cases q
  have R3:=TF th (r.mono sD) (rs.mono sD)
  have ei:some (En.is items[i])::ds.map (fun d=>some (En.is d))=inner sl ρ items[i]:=by unfold inner;rw[ed]
  rw[ei]at R3
  refine⟨_,_,_,_,R3,mt (fun b q H4 s4=>?_) (st i _ as (by simp[hlt]) w)⟩
  cases b with
  | false =>
   refine⟨m-1,by omega,by omega,s4 _ _ e2,by omega,s2.trans s4,as,ra.mono s4.mask,q⟩
  | true =>
   refine⟨_,_,_,_,R3.same s4,me (fun e q v5 H5 s5 r5=>?_) q⟩
   have e5:H5 D=some (.lst acc):=s5 _ _ (s4 _ _ e2)
   have hz:acc.length<sizeLine:=by omega
   have s6:Same (mask (D::(F++O)) H5) (mask (D::(F++O)) (upd H5 D (.lst (acc++[v5])))):=fun a o q=>by
    obtain⟨n,q⟩:=Cv q
    rw[Bh n,Am fun z=>n (by rw[z];exact List.mem_cons_self)];exact q
   have em:mask (D::(F++O)++[]) H5=mask (D::(F++O)) H5:=by rw[List.append_nil]
   rw[em]at r5
   refine⟨e5,hz,m-1,by omega,by omega,Aw,by simp;omega,fun a o q=>?_,as++[e],(((ra.mono s4.mask).mono s5.mask).append (RpL.cons r5 RpL.nil)).mono s6,q⟩
   rw[Am (Ba q hD)]
   exact s5 _ _ (s4 _ _ (s2 a o q))
 ·have e:i=items.length:=by omega
  subst e
  refine .inl ⟨stop,fin as (by rw[←ra.len];exact hl) w (.ref D) H2 (s1.trans s2) (Mx ⟨D,acc,rfl,(by rw[Bh nD];exact e2),ra.mono (FN fun a h=>List.mem_cons_of_mem _ h)⟩)⟩
theorem WX{ti:DTI}{dt:DTT}{de:DTE}(S:Gn X scope x N sl)(hc:X.calm=true)(hi:DI X (.Name x px) iter ti)(ht:∀cl C s₀ H₀ ex,DTs (BL X scope (x::N) cl C s₀ H₀ ex) ifs dt)(he:∀cl C s₀ H₀ ex,DE (BL X scope (x::N) cl C s₀ H₀ ex) elt de)
  (hs:∀x,foldedSetIterable iter X.env x=pure x:=by intro _;rfl):DE X (.ListComp elt [⟨.Name x px,iter,ifs,0⟩] scope pos) (Ia sl ti dt de):=by
 have mt:∀{ρ Q Q'},(∀d,Q d→Q' d)→dt ρ Q→dt ρ Q':=(ht [] 0 X.s₀ X.H₀ []).mono
 have me:∀{ρ Q Q'},(∀d,Q d→Q' d)→de ρ Q→de ρ Q':=(he [] 0 X.s₀ X.H₀ []).mono
 refine⟨fun hq h=>hi.mono (fun items ⟨h1,h2,W,w0,st,fin⟩=>⟨h1,h2,W,w0,st,fun acc l w=>hq _ (fin acc l w)⟩) h,?_⟩
 refine(AfT (tt:=lT X.K dt) (te:=lE X.K de) S hc hi.pi (fun cl C s₀ H₀ ex=>(ht cl C s₀ H₀ ex).pts) (fun cl C s₀ H₀ ex=>(he cl C s₀ H₀ ex).pe) hs).imp (Acn (ti:=ti) (dt:=dt) (de:=de) hi.mono mt me)
theorem Mi{ti:DTI}{de:DTE}(S:Gn X scope x N sl)(hc:X.calm=true)(hi:DI X (.Name x px) iter ti)(he:∀cl C s₀ H₀ ex,DE (BL X scope (x::N) cl C s₀ H₀ ex) elt de)
  (hs:∀x,foldedSetIterable iter X.env x=pure x:=by intro _;rfl):DE X (.ListComp elt [⟨.Name x px,iter,[],0⟩] scope pos) (Ia sl ti Ld de):=WX S hc hi (fun _ _ _ _ _=>Z6) he hs
theorem W0{c:Expr}{ti:DTI}{dt:DTT}{de:DTE}(S:Gn X scope x N sl)(hc:X.calm=true)(hi:DI X (.Name x px) iter ti)(ht:∀cl C s₀ H₀ ex,DT (BL X scope (x::N) cl C s₀ H₀ ex) c dt)(he:∀cl C s₀ H₀ ex,DE (BL X scope (x::N) cl C s₀ H₀ ex) elt de)
  (hs:∀x,foldedSetIterable iter X.env x=pure x:=by intro _;rfl):DE X (.ListComp elt [⟨.Name x px,iter,[c],0⟩] scope pos) (Ia sl ti dt de):=WX S hc hi (fun _ _ _ _ _=>AeN (ht _ _ _ _ _)) he hs
end
def AgT(sc scope:Scope)(NN:List Str)(x:Str)(N:List Str)(sl:List Nat):Bool :=
 decide (scope.names.lookup x=some .local)&&decide (scope.kind=.function)&&scope.names.all (fun y=>decide (y.2≠.cell))&&scope.names.all (fun y=>decide (y.2=.local→scope.names.lookup y.1=some .local)) &&
  scope.names.all (fun y=>decide (y.2=.free→sc.names.lookup y.1=some .cell))&&decide (x::N).Nodup&&decide (N.map some=sl.map (fun j=>NN[j]?))&&N.all (fun n=>decide (scope.names.lookup n=some .free))
theorem Ga{X:Cx}{sc scope:Scope}{NN:List Str}{x:Str}{N:List Str}{sl:List Nat}(h1:X.env.scope=sc)(h2:X.N=NN)(h:AgT sc scope NN x N sl=true):Gn X scope x N sl:=by
 subst h1 h2
 unfold AgT at h
 simp only[Bool.and_eq_true,decide_eq_true_eq,List.all_eq_true]at h
 obtain⟨⟨⟨⟨⟨⟨⟨a,b⟩,c⟩,d⟩,e⟩,f⟩,g⟩,i⟩:=h
 exact⟨a,b,c,d,e,f,g,i⟩
def Bt(n:Nat)(x:Int):Prop:=x.natAbs<2 ^ n
theorem Bt.le{n m:Nat}{x:Int}(h:Bt n x)(l:n≤m):Bt m x:=Nat.lt_of_lt_of_le h (Nat.pow_le_pow_right (by decide) l)
theorem Bt.mul{n m:Nat}{x y:Int}(a:Bt n x)(b:Bt m y):Bt (n+m) (x*y):=by
 unfold Bt at *
 rw[Int.natAbs_mul,Nat.pow_add]
 exact Nat.mul_lt_mul'' a b
theorem Bt.add{n m:Nat}{x y:Int}(a:Bt n x)(b:Bt m y):Bt (max n m+1) (x+y):=by
 have a':=a.le (Nat.le_max_left n m)
 have b':=b.le (Nat.le_max_right n m)
 unfold Bt at *
 rw[Nat.pow_succ]
 have:=Int.natAbs_add_le x y
 omega
theorem Bt.neg{n:Nat}{x:Int}(a:Bt n x):Bt n (-x):=by unfold Bt at *;rw[Int.natAbs_neg];exact a
theorem Bt.sub{n m:Nat}{x y:Int}(a:Bt n x)(b:Bt m y):Bt (max n m+1) (x-y):=by rw[Int.sub_eq_add_neg];exact a.add b.neg
theorem Bt.aA{n:Nat}{x:Int}(h:x.natAbs<2 ^ n):Bt n x:=h
theorem Bt.of{n:Nat}{x:Int}(h1:-(2 ^ n)<x)(h2:x<2 ^ n):Bt n x:=by
 unfold Bt
 have:((x.natAbs:Nat):Int)<((2 ^ n:Nat):Int):=by push_cast;omega
 omega
theorem Bt.aJ{n m:Nat}{x y:Int}(a:Bt n x)(b:Bt m y)(hn:n≤1048576:=by decide)(hm:m≤1048576:=by decide):IntMulOk x y :=
 IntMulOk.of_bits (intBits_le_iff.mpr (a.le hn)) (intBits_le_iff.mpr (b.le hm))
theorem Bt.jw{n:Nat}{x y:Int}(a:Bt n y)(h:y≠0)(hn:n≤9000:=by decide):CDv x y:=⟨h,a.le hn⟩
theorem Bt.zero:Bt 0 0:=by unfold Bt;decide
theorem Bt.one:Bt 1 1:=by unfold Bt;decide
section
variable{a b c d e f:Dt}{r s:List Dt}{i j:Int}{k l:Bool}{n:Nat}{x y:Str}
theorem Aob:ixD 0 (.tup (a::r))=some a:=rfl
theorem An0:ixD 1 (.tup (a::b::r))=some b:=rfl
theorem Api:ixD 2 (.tup (a::b::c::r))=some c:=rfl
theorem AoJ:ixD 3 (.tup (a::b::c::d::r))=some d:=rfl
theorem Anu:ixD 0 (.lst (a::r))=some a:=rfl
theorem AoS:ixD 1 (.lst (a::b::r))=some b:=rfl
theorem AoF:ixD 2 (.lst (a::b::c::r))=some c:=rfl
theorem AoG:ixD 3 (.lst (a::b::c::d::r))=some d:=rfl
theorem K6:Dt.eq (.int i) (.int j)=decide (i=j):=by rw[Dt.eq]
theorem Ahy:Dt.eq (.bl k) (.bl l)=(k==l):=by rw[Dt.eq]
theorem K5:Dt.eq (.str x) (.str y)=(x==y):=by rw[Dt.eq]
theorem AhC:Dt.eq .non .non=true:=by rw[Dt.eq]
theorem Ame:Dt.eq .non (.int i)=false:=by simp[Dt.eq]
theorem AmP:Dt.eq .non (.tup r)=false:=by simp[Dt.eq]
theorem AlE:Dt.eq (.tup r) .non=false:=by simp[Dt.eq]
theorem V9:Dt.eq (.tup r) (.tup s)=Dt.eqs r s:=by rw[Dt.eq]
theorem Ag2:Dt.eq (.lst r) (.lst s)=Dt.eqs r s:=by rw[Dt.eq]
theorem Qd:Dt.eqs [] []=true:=by rw[Dt.eqs]
theorem Qs:Dt.eqs (a::r) (b::s)=(Dt.eq a b&&Dt.eqs r s):=by rw[Dt.eqs]
theorem Ah7:Dt.eqs [] (b::s)=false:=by simp[Dt.eqs]
theorem AhO:Dt.eqs (b::s) []=false:=by simp[Dt.eqs]
theorem Ig:Dt.flat n (.int i)=true:=by cases n<;>rw[Dt.flat]<;>simp
theorem Ac4:Dt.flat n (.bl k)=true:=by cases n<;>rw[Dt.flat]<;>simp
theorem AdO:Dt.flat n .non=true:=by cases n<;>rw[Dt.flat]<;>simp
theorem Yk:Dt.flat (n+1) (.tup r)=Dt.flats n r:=by rw[Dt.flat]
theorem Ael:Dt.flat (n+1) (.lst r)=Dt.flats n r:=by rw[Dt.flat]
theorem Mz:Dt.flat 8 (.tup r)=Dt.flats 7 r:=Yk
theorem Zi:Dt.flat 8 (.lst r)=Dt.flats 7 r:=Ael
theorem Afo:Dt.flat 7 (.tup r)=Dt.flats 6 r:=Yk
theorem AgM:Dt.flat 7 (.lst r)=Dt.flats 6 r:=Ael
theorem Afa:Dt.flat 6 (.tup r)=Dt.flats 5 r:=Yk
theorem Ks:Dt.flats n []=true:=by rw[Dt.flats]
theorem Kw:Dt.flats n (a::r)=(Dt.flat n a&&Dt.flats n r):=by rw[Dt.flats]
theorem Wq{N:Str}{M:List Str}:Fy (N::M) (a::r)=some (.is a)::Fy M r:=by
 unfold Fy
 simp only[List.map_cons,List.length_cons,List.cons_append,Nat.add_sub_add_right]
theorem V4{N:Str}{M:List Str}:Fy (N::M) []=none::Fy M []:=by
 unfold Fy
 simp[List.replicate_succ]
theorem Wj:Fy [] []=[]:=rfl
theorem Ay(h:n≤1000):n≤sizeLine:=Nat.le_of_lt (Oh h)
theorem Ajq:isT "tuple" (.tup r)=true:=rfl
theorem AhF:isT "list" (.lst r)=true:=rfl
theorem Aik:isT "int" (.int i)=true:=rfl
theorem AiO:isT "bool" (.int i)=false:=rfl
theorem AhD:isT "int" (.bl k)=true:=rfl
theorem AhK:isT "bool" (.bl k)=true:=rfl
theorem Ajh:isT "tuple" .non=false:=rfl
theorem Aj3:isT "int" .non=false:=rfl
theorem AjH:isT "int" (.tup r)=false:=rfl
theorem AiX:isT "bool" (.tup r)=false:=rfl
theorem Apl:noFn (.int i)=true:=rfl
theorem Aot:noFn (.bl k)=true:=rfl
theorem ApV:noFn .non=true:=rfl
theorem An1:noFn (.tup r)=true:=rfl
theorem ApQ:noFn (.lst r)=true:=rfl
theorem AnY:noFn (.str x)=true:=rfl
theorem AmH:isB true (.bl k)=k:=by cases k<;>rfl
theorem Al1:isB false (.bl k)=!k:=by cases k<;>rfl
theorem Amf:isB k (.int i)=false:=rfl
theorem Amc:isB k .non=false:=rfl
theorem Ait:isB k (.tup r)=false:=rfl
theorem Ang:isB k (.lst r)=false:=rfl
theorem Ak4:isN .non=true:=rfl
theorem Am1:isN (.int i)=false:=rfl
theorem Akc:isN (.bl k)=false:=rfl
theorem Am3:isN (.tup r)=false:=rfl
theorem AlC:isN (.lst r)=false:=rfl
end
theorem ifn{c:Bool}{A B:Prop}(h:c=true)(b:B):if(!c)=true then A else B:=by subst h;exact b
theorem ift{c:Bool}{A B:Prop}(h:c=true)(a:A):if c=true then A else B:=by subst h;exact a
theorem CP{c:Bool}{A B:Prop}(h:c=false)(b:B):if c=true then A else B:=by subst h;exact b
theorem Ar{τ:Type}{args:τ→List Dt}{pre:τ→Prop}{val:τ→Dt}{Q:Dt→Prop}(p:τ)(h:pre p)(k:Q (val p)):CV args pre val (args p) Q:=⟨p,rfl,h,fun d e=>by rw[e];exact k⟩
theorem Bs{τ:Type}{args:τ→List Dt}{pre:τ→Prop}{post:τ→Dt→Prop}{Q:Dt→Prop}(p:τ)(h:pre p)(k:∀d,post p d→Q d):spec args pre post (args p) Q:=⟨p,rfl,h,k⟩
theorem Oo{sl:List Nat}{tt:DTT}{te:DTE}{ρ:BW}{Q:Dt→Prop}{items:List Dt}(p:Dt→Bool)(f:Dt→Dt)(ht:∀d∈items,∀R:Bool→Prop,R (p d)→tt (inner sl ρ d) R)(he:∀d∈items,p d=true→∀R:Dt→Prop,R (f d)→te (inner sl ρ d) R)
  (hq:Q (.lst ((items.filter p).map f))):∃W:Nat→List Dt→Prop,W 0 []∧(∀(k:Nat) d acc,items[k]? = some d→W k acc→tt (inner sl ρ d) fun b=>if b=true then te (inner sl ρ d) fun e=>W (k+1) (acc++[e])else W (k+1) acc) ∧
   ∀acc,acc.length≤items.length→W items.length acc→Q (.lst acc):=by
 refine⟨fun k acc=>acc=((items.take k).filter p).map f,by simp,fun k d acc e w=>?_,fun acc _ w=>by rw[w,List.take_length];exact hq⟩
 have hm:=List.mem_of_getElem? e
 refine ht d hm _ ?_
 have ht:=take_succ_filter p items k d e
 by_cases hp:p d=true
 ·rw[if_pos hp]
  refine he d hm hp _ ?_
  show acc++[f d]=_
  rw[w,ht,if_pos hp];simp
 ·rw[if_neg hp]
  show acc=_
  rw[w,ht,if_neg hp];simp
theorem comp_map{sl:List Nat}{te:DTE}{ρ:BW}{Q:Dt→Prop}{items:List Dt}(f:Dt→Dt)(he:∀d∈items,∀R:Dt→Prop,R (f d)→te (inner sl ρ d) R)
  (hq:Q (.lst (items.map f))):∃W:Nat→List Dt→Prop,W 0 []∧(∀(k:Nat) d acc,items[k]? = some d→W k acc→Ld (inner sl ρ d) fun b=>if b=true then te (inner sl ρ d) fun e=>W (k+1) (acc++[e])else W (k+1) acc) ∧
   ∀acc,acc.length≤items.length→W items.length acc→Q (.lst acc) :=
 Oo (fun _=>true) f (fun _ _ _ h=>h) (fun d hm _ R h=>he d hm R h) (by rw[List.filter_eq_self.mpr (fun _ _=>rfl)];exact hq)
theorem Uh{sl:List Nat}{ti:DTI}{tt:DTT}{te:DTE}{ρ:BW}{Q:Dt→Prop}(items:List Dt)(p:Dt→Bool)(f:Dt→Dt)(hi:∀R:List Dt→Prop,R items→ti ρ R)(hl:items.length≤sizeLine)(hc:caught sl ρ)
  (ht:∀d∈items,∀R:Bool→Prop,R (p d)→tt (inner sl ρ d) R) (he:∀d∈items,p d=true→∀R:Dt→Prop,R (f d)→te (inner sl ρ d) R) (hq:Q (.lst ((items.filter p).map f))):Ia sl ti tt te ρ Q :=
 hi _ ⟨hl,hc,Oo p f ht he hq⟩
theorem KC{sl:List Nat}{ti:DTI}{te:DTE}{ρ:BW}{Q:Dt→Prop}(items:List Dt)(f:Dt→Dt)(hi:∀R:List Dt→Prop,R items→ti ρ R)(hl:items.length≤sizeLine)(hc:caught sl ρ)
  (he:∀d∈items,∀R:Dt→Prop,R (f d)→te (inner sl ρ d) R) (hq:Q (.lst (items.map f))):Ia sl ti Ld te ρ Q :=
 hi _ ⟨hl,hc,comp_map f he hq⟩
theorem Um{ti:DTI}{g:DTG}{tb:DTS}{D:G7}{ρ:BW}(items:List Dt)(hi:∀R:List Dt→Prop,R items→ti ρ R)(W:Nat→BW→Prop)(h0:W 0 ρ)
  (hs:∀(k:Nat) d ρ',items[k]? = some d→W k ρ'→g d ρ' fun ρ2=>tb {D with nx:=W (k+1),ct:=W (k+1),bk:=D.nx} ρ2) (he:∀ρ',W items.length ρ'→D.nx ρ'):Amx ti g tb D ρ:=hi _ ⟨W,h0,hs,he⟩
theorem Es{ρ:BW}:caught [] ρ:=fun _ h=>(nomatch h)
theorem G4{j:Nat}{sl:List Nat}{ρ:BW}{d:Dt}(h:ρ[j]? = some (some (.is d)))(r:caught sl ρ):caught (j::sl) ρ:=fun k hk=>by
 rcases List.mem_cons.mp hk with e|e
 ·subst e;exact⟨d,h⟩
 ·exact r k e
end L2
namespace L2
theorem HW{c:DTT}{tb:DTS}{D:G7}{ρ:BW}(W:Nat→BW→Prop)(m:Nat)(h0:W m ρ)(h:∀m ρ,W m ρ→c ρ fun k=>if k=true then tb {D with nx:=fun ρ'=>∃m',m'<m∧W m' ρ',ct:=fun ρ'=>∃m',m'<m∧W m' ρ',bk:=D.nx} ρ else D.nx ρ):Aeq c tb D ρ:=⟨W,⟨m,h0⟩,h⟩
end L2
namespace L2
open PySem Spec PyProof.Rows SeqAt
section
variable{X:Cx}{a b c e:Expr}{es:List Expr}{ta tb te:DTE}{tl:DTA}{pos:Pos}
def downs(hi:Int)(n:Nat):List Dt:=(List.range n).map fun i=>.int (hi-(i:Nat))
def AiH(tl:DTA):DTI:=fun ρ Q=>tl ρ fun ds=>match ds with
 | [.int i,.int j,.int k]=>k=-1∧(-(2 ^ 62)≤i∧i<2 ^ 62∧-(2 ^ 62)≤j∧j<2 ^ 62)∧Q (downs i (i-j).toNat)
 |_=>False
theorem AgL:MtR X "int.bit_length" (fun x xs H Q=>∃i,x=.int i∧xs=[]∧Q (.int (Builtin.Int.intBits i)) H):=by
 intro pins s σ H x xs v us Q I rx rs ⟨i,e,e2,q⟩
 subst e e2
 cases rs
 obtain⟨t,rfl⟩:=rx
 exact call_int_bit_length ⟨.int _,H,I.tok _,⟨_,rfl⟩,q⟩
def Ahu(ta:DTE):DTE:=fun ρ Q=>ta ρ fun d=>match d with
 |.int i=>Q (.int (Builtin.Int.intBits i))
 |_=>False
theorem Af7{apos:Pos}(ha:DE X a ta)(hbase:attributeBase a "bit_length" X.env (eval a X.env)=eval a X.env:=by rfl)(hline:(apos.endLine==pos.line)=true:=by rfl):DE X (.Call (.Attribute a "bit_length" apos) [] [] pos) (Ahu ta) where
 mono:=fun hq h=>ha.mono (fun d h=>by
  split at h
  ·exact hq _ h
  ·exact h.elim) h
 pe:=(AhG PySem.F.plainAttrs_int PySem.F.slot_int_bit_length PySem.F.type_int_bit_length AgL ha.pe hbase hline).imp fun σ H Q ⟨B,F,O,ρ,R,h⟩=>⟨B,F,O,ρ,R,ha.mono (fun d h v H1 s1 r1=>by
  split at h
  ·rw[Bl.mp r1]
   exact⟨rfl,_,rfl,rfl,h _ H1 s1 (Bl.mpr rfl)⟩
  ·exact h.elim) h⟩
def Ann(P:Program)(w:World)(K:W.Frag)(mg:Str→Option Value)(base:Heap)(k:Nat)(a:Addr)(sp:DSp):Prop :=
 ∃fd ps,El P w K mg base CX0 k a fd ps (lSp K sp)∧Binds K fd ps []∧W.keepIn K (.ref a)=true
def AiR(P:Program)(w:World)(K:W.Frag)(mg:Str→Option Value)(base:Heap)(k:Nat)(tf:DTE)(tl:DTA):DTE:=fun ρ Q=>tf ρ fun d=>match d with
 |.fn a=>W.keepIn K (.ref a)=true∧tl ρ fun ds=>∃sp,Ij sp∧Ann P w K mg base k a sp∧sp ds Q
 |_=>False
def lF(K:W.Frag)(t:DTA):TE:=fun σ H Q=>∃B F O ρ,Rep K B F O H σ ρ∧t ρ fun ds=>∀p H' vs,Same H H'→H' p=some (.lst vs)→p∉F++O→RpL K (mask (F++O) H') ds vs→Q (.ref p) H'
structure DF(X:Cx)(e:Expr)(t:DTA):Prop where
 mono:∀{ρ Q Q'},(∀d,Q d→Q' d)→t ρ Q→t ρ Q'
 pe:PE X e (lF X.K t)
def dOf(t:DTA):DTE:=fun ρ Q=>t ρ fun ds=>Q (.lst ds)
theorem DF.de{t:DTA}(h:DF X e t):DE X e (dOf t) where
 mono:=fun hq z=>h.mono (fun _ z=>hq _ z) z
 pe:=h.pe.imp fun σ H Q ⟨B,F,O,ρ,R,z⟩=>⟨B,F,O,ρ,R,h.mono (fun ds z p H' vs s e n r=>z (.ref p) H' s (Mx ⟨p,vs,rfl,(by rw[Bh n];exact e),r⟩)) z⟩
def Ag3(tl:DTA):DTA:=fun ρ Q=>tl ρ fun ds=>ds.length≤sizeLine∧Q ds
theorem AcZ(h:DA X es tl):DF X (.List es pos) (Ag3 tl) where
 mono:=fun hq z=>h.mono (fun ds q=>⟨q.1,hq _ q.2⟩) z
 pe:=(XF h.pa).imp fun σ H Q ⟨B,F,O,ρ,R,q⟩=>⟨B,F,O,ρ,R,h.mono (fun ds z vs H1 s1 r1=>⟨by rw[r1.len];exact z.1,fun p hp=>by
  have np:p∉F++O:=fun m=>(R.same s1).th p m hp
  exact z.2 p _ vs (s1.trans (Same.upd hp)) Aw np (r1.mono (Same.upd hp).mask)⟩) q⟩
def Zo(te:DTE)(tl th:DTO):DTA:=fun ρ Q=>te ρ fun d=>tl ρ fun lo=>th ρ fun hi=>match d with
 |.lst ds=>Q (cutD ds lo hi)
 |_=>False
theorem Ac3{lo hi:Option Expr}{t1 t2:DTO}{p2:Pos}(he:DE X e te)(hl:DO X lo t1)(hh:DO X hi t2):DF X (.Subscript e (.Slice lo hi none p2) pos) (Zo te t1 t2) where
 mono:=fun hq z=>he.mono (fun d z=>hl.mono (fun l z=>hh.mono (fun h z=>by
  split at z
  ·exact hq _ z
  ·exact z.elim) z) z) z
 pe:=(Acf AeS he.pe hl.po hh.po).imp fun σ H Q ⟨B,F,O,ρ,R,z⟩=>⟨B,F,O,ρ,R,he.mono (fun d z v H1 s1 r1=>⟨B,F,O,ρ,R.same s1,hl.mono (fun l z H2 s2=>⟨B,F,O,ρ,(R.same s1).same s2,hh.mono (fun h z H3 s3=>by
  split at z
  ·obtain⟨a,xs,rfl,hs,hr⟩:=Hw ((r1.mono s2.mask).mono s3.mask)
   refine⟨a,xs,rfl,Bv.seq hs,fun p hp=>?_⟩
   have R3:=((R.same s1).same s2).same s3
   have np:p∉F++O:=fun m=>R3.th p m hp
   exact z p _ _ (((s1.trans s2).trans s3).trans (Same.upd hp)) Aw np (hr.cut.mono (Same.upd hp).mask)
  ·exact z.elim) z⟩) z⟩) z⟩
def Ag1(t u:DTA):DTA:=fun ρ Q=>t ρ fun xs=>u ρ fun ys=>xs.length+ys.length≤sizeLine∧Q (xs++ys)
theorem AcF{t u:DTA}(ha:DF X a t)(hb:DF X b u):DF X (.BinOp a .Add b pos) (Ag1 t u) where
 mono:=fun hq z=>ha.mono (fun _ z=>hb.mono (fun _ z=>⟨z.1,hq _ z.2⟩) z) z
 pe:=(AgX Ai5 ha.pe hb.pe).imp fun σ H Q ⟨B,F,O,ρ,R,z⟩=>⟨B,F,O,ρ,R,ha.mono (fun xs z p H1 vs s1 e1 n1 r1=>⟨B,F,O,ρ,R.same s1,hb.mono (fun ys z p2 H2 ws s2 e2 n2 r2=>by
  refine⟨p,p2,vs,ws,rfl,rfl,s2 _ _ e1,e2,by rw[r1.len,r2.len];exact z.1,fun l hl=>?_⟩
  have np:l∉F++O:=fun m=>((R.same s1).same s2).th l m hl
  exact z.2 l _ _ ((s1.trans s2).trans (Same.upd hl)) Aw np (((r1.mono s2.mask).append r2).mono (Same.upd hl).mask)) z⟩) z⟩
end
section
variable{X:Cx}{elt iter:Expr}{x:Str}{px:Pos}{ifs:List Expr}{scope:Scope}{pos:Pos}{N:List Str}{sl:List Nat}{wi:TI}{tt:TT}{te:TE}
theorem X8{pins:List (Addr×Obj)}{σ:St}{H2:Hp}{s2:Shared}{cl:List (Str×Addr)}{it:Addr}{fp:List Addr}{tn:Nat→Heap→Prop}{J:It}{vs:List V}{PP:Value→Addr→Result→Shared→Prop}{E:Value→Shared→Prop}{QD:Hp→Prop}(S:Gn X scope x N sl)(hc:X.calm=true)
  (ht:∀cl C s₀ H₀ ex,PTs (BL X scope (x::N) cl C s₀ H₀ ex) ifs tt) (he:∀cl C s₀ H₀ ex,PE (BL X scope (x::N) cl C s₀ H₀ ex) elt te)
  (hcl:∀n c,cl.lookup n=some c→X.env.cells.lookup n=some c) (aaH:∀n,(n,NameKind.free)∈scope.names→∃c,cl.lookup n=some c)
  (I2:Inv X pins σ H2 s2) (T:Turn X.prog X.w X.K (.Name x px) J fp it tn) (st2:tn 0 s2.heap) (f2:∀b∈fp,MJ X pins H2 b) (hvs:sl.map (fun j=>σ[j]?)=vs.map (fun v=>some (some v)))
  (hW:∃W:Nat→Nat→List V→Hp→Prop,(∃m,W 0 m [] (upd H2 s2.heap.objs.size (.lst [])))∧∀i m acc H,W i m acc H →
   (J.stop i H∧QD H)∨(J.go i H∧∀x H',J.yld i H x H'→tt (some x::vs.map some) H' fun b H2' =>
    if b=true then te (some x::vs.map some) H2' fun y H3=>H3 s2.heap.objs.size=some (.lst acc)∧acc.length<sizeLine∧∃m',m'<m∧W (i+1) m' (acc++[y]) (upd H3 s2.heap.objs.size (.lst (acc++[y])))
    else ∃m',m'<m∧W (i+1) m' acc H2'))
  (fin:∀(C:Addr),(s2.heap.push {cls:=.type "list",data:=.seq ([]:List Value).toArray}).objs.size=C→∀{σ':St} {H':Hp} {s':Shared},Inv (BL X scope (x::N) cl C {s2 with heap:=s2.heap.push {cls:=.type "list",data:=.seq ([]:List Value).toArray},toks:=s2.toks} (upd H2 s2.heap.objs.size (.lst [])) fp) [] σ' H' s'→QD H'→PP (.ref s2.heap.objs.size) C (.ok .next) s') :
  wpAny (model X.prog X.w) X.A (newList []) (fun acc s₃=>wpAny (model X.prog X.w) X.A (newFunctionEnv scope X.env.globals cl [] X.env.qual none .none (some X.env)) (fun cenv s₄ =>
   codeAny (model X.prog X.w) X.A (.compStart (.ListComp elt [⟨.Name x px,iter,ifs,0⟩] scope pos) 0 (.ref it) acc {cenv with scope:=relabel scope X.env}) (PP acc cenv.locals) s₄) E s₃) E s2:=by
 refine wpAny_newObj_type (wpAny_newFunctionEnv S.cell (by intro y hy;simp at hy) (fun h₁ hns₁ hsb₁=>?_) S.kind)
 have hD:H2 s2.heap.objs.size=none:=I2.fresh
 have I3:Inv X pins σ (upd H2 s2.heap.objs.size (.lst [])) {s2 with heap:=s2.heap.push {cls:=.type "list",data:=.seq ([]:List Value).toArray},toks:=s2.toks}:=I2.aeP (its:=[]) (ys:=[]) .nil (Nat.zero_le _)
 have hbD:∀b∈fp,b≠s2.heap.objs.size:=fun b hb z=>by
  obtain⟨o',e',_⟩:=T.obj _ _ st2 b hb
  exact absurd (Heap.lt_size e') (by rw[z];exact Nat.lt_irrefl _)
 have f3:∀b∈fp,MJ X pins (upd H2 s2.heap.objs.size (.lst [])) b:=fun b hb=>⟨by rw[Am (hbD b hb)];exact(f2 b hb).1,(f2 b hb).2⟩
 have ob3:∀b∈fp,∃o,(s2.heap.push {cls:=.type "list",data:=.seq ([]:List Value).toArray}).get? b=some o:=fun b hb=>by
  obtain⟨o',e',_⟩:=T.obj _ _ st2 b hb
  exact⟨o',Heap.get?_push_of_some _ e'⟩
 have IC:=Vv (tk:=s2.toks+([]:List (Str×Value)).length) S I3 f3 ob3 hns₁ hsb₁ hcl aaH hvs
 dsimp only at hsb₁ IC ⊢
 generalize hCC:(s2.heap.push {cls:=.type "list",data:=.seq ([]:List Value).toArray}).objs.size=C at hns₁ hsb₁ IC ⊢
 have old:∀b o,s2.heap.get? b=some o→h₁.get? b=some o:=fun b o e=>by
  have e1:(s2.heap.push {cls:=.type "list",data:=.seq ([]:List Value).toArray}).get? b=some o:=Heap.get?_push_of_some _ e
  exact(hsb₁.2 b (by rw[←hCC];exact Nat.ne_of_lt (Heap.lt_size e1))).trans (Heap.get?_push_of_some _ e1)
 have st₁:tn 0 h₁:=T.keep _ _ _ st2 fun b hb o e=>old b o e
 obtain⟨W,⟨m0,w0⟩,turn⟩:=hW
 have fpC:∀{H':Hp} {pl:List (Addr×Obj)},(∀b∈fp,H' b=none)→(∀p∈pl,p.1∉fp)→∀b∈fp,MJ (BL X scope (x::N) cl C {s2 with heap:=s2.heap.push {cls:=.type "list",data:=.seq ([]:List Value).toArray},toks:=s2.toks} (upd H2 s2.heap.objs.size (.lst [])) fp) pl H' b:=fun{H' pl} hn hp b hb=>by
  refine⟨hn b hb,(IC.ok.exf b hb).1,IC.ok.wN b hb,.inl hb,(IC.ok.exf b hb).2,fun p hq z=>?_⟩
  have hq':p∈pl:=by simpa [BL] using hq
  exact hp p hq' (by rw[z];exact hb)
 have loop:codeAny (model X.prog X.w) X.A (.compLoop (.ListComp elt [⟨.Name x px,iter,ifs,0⟩] scope pos) 0 (.ref it) (.ref s2.heap.objs.size) (compEnvC scope cl C X.env)) (PP (.ref s2.heap.objs.size) C)
   {s2 with heap:=h₁,toks:=s2.toks+([]:List (Str×Value)).length}:=by
  refine codeAny_compLoop_tests (fun n s'=>∃i acc σ' H',Inv (BL X scope (x::N) cl C {s2 with heap:=s2.heap.push {cls:=.type "list",data:=.seq ([]:List Value).toArray},toks:=s2.toks} (upd H2 s2.heap.objs.size (.lst [])) fp) [] σ' H' s'∧(∃y,σ'=y::vs.map some) ∧
   tn i s'.heap∧(∀b∈fp,H' b=none)∧W i n acc H') ?_ m0 ⟨0,[],_,_,IC,⟨none,rfl⟩,st₁,fun b hb=>(f3 b hb).1,w0⟩
  rintro n s3 ⟨i,acc,σ3,H3,I4,⟨y,rfl⟩,st3,fr3,w3⟩
  rcases turn i n acc H3 w3 with⟨stop,qn⟩|⟨go,step⟩
  ·refine wpAny_mono (T.done (BL X scope (x::N) cl C {s2 with heap:=s2.heap.push {cls:=.type "list",data:=.seq ([]:List Value).toArray},toks:=s2.toks} (upd H2 s2.heap.objs.size (.lst [])) fp) rfl rfl rfl hc i [] s3 _ H3 (fun _ _=>False) I4 (fpC fr3 (by simp)) st3 stop) (fun r s4 ⟨hr,I5⟩=>?_) fun _ _ z=>False.elim z
   subst hr
   exact fin C hCC I5 qn
  ·refine wpAny_mono (T.item (BL X scope (x::N) cl C {s2 with heap:=s2.heap.push {cls:=.type "list",data:=.seq ([]:List Value).toArray},toks:=s2.toks} (upd H2 s2.heap.objs.size (.lst [])) fp) rfl rfl rfl hc i [] s3 _ H3 (fun _ _=>False) I4 (fpC fr3 (by simp)) st3 go) (fun r s4 ⟨u,hr,h4⟩=>?_) fun _ _ z=>False.elim z
   subst hr
   have e0:∀(k:Unit→Sem Unit),(letOwnedTupleGo (.Name x px) (.ref it) u >>= k)=k ():=fun k=>rfl
   have hg:PG (BL X scope (x::N) cl C {s2 with heap:=s2.heap.push {cls:=.type "list",data:=.seq ([]:List Value).toArray},toks:=s2.toks} (upd H2 s2.heap.objs.size (.lst [])) fp) (.Name x px) (Aag 0):=Uv S.nd rfl (.inl (lookup_relabel_local S.hx)) (.inr (lookup_relabel_local S.hx))
   show wpAny (model X.prog X.w) X.A (assign (.Name x px) (compEnvC scope cl C X.env) u) _ _ s4
   rw[←e0 fun _=>assign (.Name x px) (compEnvC scope cl C X.env) u]
   refine wpAny_bind (wpAny_mono h4 (fun _ s5 ⟨z,H5,I5,r5,y5,st5,fr5⟩=>?_) fun _ _ z=>False.elim z)
   have I5':=I5.pinned (fpC fr5 (by simp)) (T.obj _ _ st5)
   have W5:=hg _ s5 _ H5 z u (fun σ' H'=>σ'=some z::vs.map some∧H'=H5) I5' r5 ⟨rfl,rfl⟩
   refine wpAny_mono W5 (fun _ s6 ⟨σ6,H6,I6,e6,e7⟩=>?_) fun _ _ z=>False.elim z
   subst e6 e7
   refine wpAny_mono (ht _ _ _ _ _ _ s6 _ H6 _ I6 (step z H6 y5)) (fun b s7 ⟨H7,I7,q7⟩=>?_) fun _ _ z=>False.elim z
   have again:∀{H8:Hp} {s8:Shared} {acc':List V},Inv (BL X scope (x::N) cl C {s2 with heap:=s2.heap.push {cls:=.type "list",data:=.seq ([]:List Value).toArray},toks:=s2.toks} (upd H2 s2.heap.objs.size (.lst [])) fp) ([]++Oi fp s5.heap) (some z::vs.map some) H8 s8→(∃m',m'<n∧W (i+1) m' acc' H8)→∃m,m<n∧∃i acc σ' H',Inv (BL X scope (x::N) cl C {s2 with heap:=s2.heap.push {cls:=.type "list",data:=.seq ([]:List Value).toArray},toks:=s2.toks} (upd H2 s2.heap.objs.size (.lst [])) fp) [] σ' H' s8∧(∃y,σ'=y::vs.map some)∧tn i s8.heap∧(∀b∈fp,H' b=none)∧W i m acc H':=fun{H8 s8 acc'} I8 ⟨m',hm,w8⟩=>by
    refine⟨m',hm,i+1,acc',_,H8,I8.mG,⟨_,rfl⟩,T.keep _ _ _ st5 fun b hb o e=>(I8.pin (b,o) (List.mem_append_right _ (List.mem_append_right _ (GK hb e)))).1,fun b hb=>?_,w8⟩
    obtain⟨o,e,d⟩:=T.obj _ _ st5 b hb
    exact(I8.pin (b,o) (List.mem_append_right _ (List.mem_append_right _ (GK hb e)))).2.1
   cases b with
   |false=>exact again I7 q7
   | true =>
    rw[if_pos rfl]
    refine wpAny_mono (he _ _ _ _ _ _ s7 _ H7 _ I7 q7) (fun v8 s8 ⟨x8,H8,I8,r8,hD8,hz8,q8⟩=>?_) fun _ _ z=>False.elim z
    refine wpAny_mono (Nv (X:=(BL X scope (x::N) cl C {s2 with heap:=s2.heap.push {cls:=.type "list",data:=.seq ([]:List Value).toArray},toks:=s2.toks} (upd H2 s2.heap.objs.size (.lst [])) fp)) _ s8 _ H8 (.ref s2.heap.objs.size) [x8] (.ref s2.heap.objs.size) [v8] (fun _ H9=>H9=upd H8 s2.heap.objs.size (.lst (acc++[x8]))) I8 rfl (.cons r8 .nil) ⟨_,acc,x8,rfl,rfl,hD8,hz8,rfl⟩) (fun _ s9 ⟨_,H9,I9,_,e9⟩=>?_) fun _ _ z=>False.elim z
    subst e9
    exact again I9 q8
 exact codeAny_compStart_list loop (T.self _ 0 _ _ _ st₁ loop)
def Ak9(i:Nat)(sl:List Nat)(wi:TI)(tt:TT)(te:TE):TS:=fun D σ H=>Zr sl wi tt te σ H fun v H'=>D.nx (σ.set i (some v)) H'
theorem Afr{i:Nat}{y:Str}{py spos:Pos}(S:Gn X scope x N sl)(hc:X.calm=true)(hN:X.N.Nodup)(hyi:X.N[i]? = some y)(hy:X.env.scope.names.lookup y=some .local)(hi:PI X (.Name x px) iter wi)
  (ht:∀cl C s₀ H₀ ex,PTs (BL X scope (x::N) cl C s₀ H₀ ex) ifs tt) (he:∀cl C s₀ H₀ ex,PE (BL X scope (x::N) cl C s₀ H₀ ex) elt te)
  (hsw:swapsWith (.ListComp elt [⟨.Name x px,iter,ifs,0⟩] scope pos) (some (.Name y py)) spos.line X.env=pure true) (hs:∀x,foldedSetIterable iter X.env x=pure x:=by intro _;rfl) :
  PS X (.Assign [.Name y py] (.ListComp elt [⟨.Name x px,iter,ifs,0⟩] scope pos) spos) (Ak9 i sl wi tt te):=by
 intro pins s σ H DD I h
 obtain⟨cl,hclos,hcl,aaH⟩:=Q0 (env:=X.env) (scope:=scope) fun y hy hf=>I.ok.has y.1 (.inl (S.free y hy hf))
 rw[exec_Assign_Name_used _ _ _ _ hsw]
 refine wpAny_bind (wpAny_standAt (wpAny_bind ?_))
 show wpAny _ X.A (do let _ ←comprehension (.ListComp elt [⟨.Name x px,iter,ifs,0⟩] scope pos) scope X.env _ (newList []) false (eval iter X.env) (some (assign (.Name y py) X.env))) _ _ s
 refine wpAny_bind (wpAny_mono (wpAny_comprehension_free (use:=some (assign (.Name y py) X.env)) (Q:=fun _ s'=>SP X pins DD .next s') rfl hs hclos S.kind S.names
  (thn (hi pins s σ H _ I h) fun v s1 h1=>thn h1 fun itv s2 h2=>?_)) (fun _ s' hq=>wpAny_pure (wpAny_pure hq)) fun _ _ e=>e)
 obtain⟨it,fp,tn,J,H2,e,I2,T,st2,f2,vs,hvs,hW⟩:=h2
 subst e
 refine X8 (QD:=fun H'=>DD.nx (σ.set i (some (.ref s2.heap.objs.size))) H') (PP:=fun acc C=>compPost (model X.prog X.w) X.A X.xe (some (assign (.Name y py) X.env)) (fun _ s'=>SP X pins DD .next s') acc C) S hc ht he hcl aaH I2 T st2 f2 hvs (hW s2.heap.objs.size I2.fresh) fun C hCC {σ' H' s'} J q=>?_
 have hD:H2 s2.heap.objs.size=none:=I2.fresh
 have nC:∀b o,s2.heap.get? b=some o→b≠C:=fun b o e=>by
  have e1:(s2.heap.push {cls:=.type "list",data:=.seq ([]:List Value).toArray}).get? b=some o:=Heap.get?_push_of_some _ e
  rw[←hCC];exact Nat.ne_of_lt (Heap.lt_size e1)
 have u:Un (frs X.stack) fp H2 H' s2.heap s'.heap:=(Un.laid (fun b u e=>Heap.get?_push_of_some _ e) (Nat.le_refl _) hD).trans J.base
 have hos:s'.os=s2.os:=J.os
 have IX:Inv X pins σ H' s':=I2.call' (ch:=fp) hos u J.hok J.bare fun b hb=>⟨(f2 b hb).2.2.2.1,(f2 b hb).2.1,(f2 b hb).2.2.2.2.1,(f2 b hb).2.2.2.2.2⟩
 have hLC:X.env.locals≠C:=by
  obtain⟨m,⟨o,_,_,ho,_⟩,_⟩:=I2.loc
  exact nC _ o ho
 have hcC:∀y c,X.env.cells.lookup y=some c→c≠C:=fun y c e=>by
  obtain⟨v,o,ho,_⟩:=I2.cell y c e
  exact nC _ o ho
 show wpAny _ X.A (assign (.Name y py) X.env (.ref s2.heap.objs.size)) _ _ _
 refine wpAny_assign_Name (Tf IX hN hyi (.inl hy) (v:=.ref s2.heap.objs.size) rfl (fun s'' I'' ⟨a,hs2,ha⟩=>?_) (.inr hy))
 obtain⟨m,hn,_⟩:=id J.loc
 have haC:C≠a:=by
  rcases ha with z|z
  ·rw[z];exact Ne.symm hLC
  ·exact Ne.symm (hcC y a z)
 refine⟨m,hn.sameBut hs2 haC,fun h' hs'=>⟨_,H',?_,q⟩⟩
 refine I''.turned (t':=s''.toks) (it:=C) (fun b o hb e=>(hs'.2 b hb).trans e) J.free (Ne.symm hLC) (.inr ?_) hcC (fun p hp z=>?_)
 ·rw[←hCC]
  exact Nat.le_trans I2.sz (by rw[Heap.size_push];exact Nat.le_succ _)
 ·obtain⟨e,_⟩:=I2.pin p hp
  exact nC _ _ e z
theorem Tr{sl:List Nat}{ti:DTI}{dt:DTT}{de:DTE}(mi:∀{ρ Q Q'},(∀d,Q d→Q' d)→ti ρ Q→ti ρ Q'):∀{ρ Q Q'},(∀d,Q d→Q' d)→Ia sl ti dt de ρ Q→Ia sl ti dt de ρ Q' :=
 fun hq h=>mi (fun items ⟨h1,h2,W,w0,st,fin⟩=>⟨h1,h2,W,w0,st,fun acc l w=>hq _ (fin acc l w)⟩) h
def AhA(i:Nat)(sl:List Nat)(ti:DTI)(tt:DTT)(te:DTE):DTS:=fun D ρ=>Ia sl ti tt te ρ fun d=>D.nx (ρ.set i (some (.is d)))
end
section
variable{prog:Program}{w:World}{A:Around}{E:Value→Shared→Prop}{s:Shared}
theorem Sy{it t:Addr}{items:Array Value}(hne:t≠it):∀(n i:Nat)(s:Shared)(Q:List Value→Shared→Prop),s.heap.IsListIter it t i→s.heap.IsList t items→i+n≤items.size →
  (∀h',h'.IsListIter it t (i+n)→Heap.SameBut it s.heap h'→Q ((items.toList.drop i).take n) {s with heap:=h'})→wpAny (model prog w) A (draw (.ref it) n) Q E s
 | 0,i,s,Q,hit,_,_,hQ=>by
  show wpAny _ _ (pure []) Q E s
  exact wpAny_pure (by simpa using hQ s.heap hit (Heap.SameBut.refl ..))
 | n+1,i,s,Q,hit,ht,hle,hQ=>by
  have hlt:i<items.size:=by omega
  show wpAny _ _ (pyNext (.ref it) >>= _) Q E s
  refine wpAny_bind (wpAny_pyNext_list_item hit ht (x:=items[i]) (by simp[hlt]) fun h₁ hit₁ hs₁=>?_)
  refine wpAny_bind (wpAny_holding (Sy hne n (i+1) _ _ hit₁ (ht.extBut hs₁.extBut hne) (by omega) fun h₂ hit₂ hs₂=>wpAny_pure ?_))
  have hd:items.toList.drop i=items[i]::items.toList.drop (i+1):=by simp[List.drop_eq_getElem_cons,hlt]
  have:=hQ h₂ (by rw[show i+(n+1)=i+1+n by omega];exact hit₂) (hs₁.trans hs₂)
  rw[hd,List.take_succ_cons]at this
  exact this
theorem Nr{t:Addr}{items:Array Value}{Q:List Value→Shared→Prop}(hh:A.handled=none)(ht:s.heap.IsList t items)
  (hQ:∀h',Heap.ExtBut s.heap.objs.size s.heap h'→Q items.toList {s with heap:=h'}):wpAny (model prog w) A (unpackItems (.ref t) items.size none) Q E s:=by
 have hlt:t≠s.heap.objs.size:=by obtain⟨o,ho,_⟩:=ht;exact Nat.ne_of_lt (Heap.lt_size ho)
 unfold unpackItems
 refine wpAny_bind ?_
 ·unfold notIterableAtAll
  refine wpAny_bind (wpAny_specialOf ht.typeIs slot_list_iter.lookup ?_)
  refine wpAny_pure ?_
  simp only[Bool.false_eq_true,if_false]
  refine wpAny_bind (wpAny_holding (wpAny_pyIter_list ht ?_))
  have ht':(s.heap.push {cls:=.type "list_iterator",data:=.fields #[.ref t,.int 0 0]}).IsList t items:=by
   obtain⟨o,ho,r⟩:=ht
   exact⟨o,Heap.get?_push_of_some _ ho,r⟩
  refine wpAny_bind (wpAny_holding (Sy hlt items.size 0 _ _ ⟨_,Heap.get?_push_size _ rfl,rfl,rfl⟩ ht' (by omega) fun h₁ hit₁ hs₁=>?_))
  have hall:List.take items.size (List.drop 0 items.toList)=items.toList:=by
   rw[List.drop_zero];exact List.take_of_length_le (by simp)
  rw[hall]
  rw[if_neg (by simp)]
  have ht₁:h₁.IsList t items:=ht'.extBut hs₁.extBut hlt
  refine wpAny_bind (wpAny_holding (wpAny_pyNext_list_end hh hit₁ ht₁ (by simp) fun h₂ he₂=>?_))
  simp only[Option.isSome_none,Bool.false_eq_true,if_false]
  refine wpAny_pure (hQ h₂ fun b o hb e=>he₂ b o hb (hs₁.extBut b o hb (Heap.get?_push_of_some _ e)))
end
section
variable{X:Cx}{es:List Expr}{pos:Pos}
def Apc(K:W.Frag)(n:Nat)(t:TGs):TG:=fun v σ H Q=>∃a xs,v=.ref a∧SqL K H a xs∧xs.length=n∧t xs σ H Q
theorem AiS{k:Nat}{t:TGs}{n:Nat}(hc:X.calm=true)(h:PGs X es t)(hn:(assignEach es X.env).length=n:=by rfl)(hst:(assignEach es X.env).findIdx? (·.1)=none:=by rfl):PG X (.Tuple es k pos) (Apc X.K n t):=by
 intro pins s σ H v u Q I r hw
 obtain⟨a,xs,e1,hq,hl,hw⟩:=hw
 subst e1
 cases r
 obtain⟨its,rv,ht,hz⟩:=I.list hq
 rw[assign_Tuple]
 refine wpAny_bind (wpAny_standAt ?_)
 unfold unpack
 have e2:(assignEach es X.env).length=its.toArray.size:=by simp[hn,←hl,rv.length]
 rw[e2,hst]
 refine wpAny_bind (wpAny_holding (Nr (I.ok.hd hc) ht.isList fun h' hx=>?_))
 have I1:Inv X pins σ H {s with heap:=h'}:=I.kept (t':=s.toks) fun b o e=>hx b o (Nat.ne_of_lt (Heap.lt_size e)) e
 exact h pins _ σ H xs _ Q I1 (by simpa using rv) hw
def Aao(n:Nat)(gs:Uq):DTG:=fun d ρ Q=>match d with
 |.lst ds=>ds.length=n∧gs ds ρ Q
 |_=>False
theorem Oe{k:Nat}{gs:Uq}{n:Nat}(hc:X.calm=true)(h:DGs X es gs)(hn:(assignEach es X.env).length=n:=by rfl)(hst:(assignEach es X.env).findIdx? (·.1)=none:=by rfl):DG X (.Tuple es k pos) (Aao n gs) where
 mono:=fun hq z=>by
  unfold Aao at z ⊢
  split at z
  ·exact⟨z.1,h.mono hq z.2⟩
  ·exact z.elim
 pg:=(AiS hc h.pg hn hst).imp fun v σ H Q ⟨B,F,O,ρ,d,R,r,z⟩=>by
  unfold Aao at z
  split at z
  ·obtain⟨a,xs,rfl,hs,hl⟩:=Hw r
   exact⟨a,xs,rfl,Bv.seq hs,by rw[hl.len];exact z.1,B,F,O,ρ,_,R,hl,z.2⟩
  ·exact z.elim
end
end L2
namespace L2
theorem NQ{sl:List Nat}{ti:DTI}{te:DTE}{ρ:BW}{Q:Dt→Prop}(items:List Dt)(P:Dt→Prop)(hi:∀R:List Dt→Prop,R items→ti ρ R)(hl:items.length≤PySem.sizeLine)(hc:caught sl ρ)
  (he:∀d∈items,∀R:Dt→Prop,(∀e,P e→R e)→te (inner sl ρ d) R) (hq:∀acc:List Dt,acc.length=items.length→(∀e∈acc,P e)→Q (.lst acc)):Ia sl ti Ld te ρ Q:=by
 refine hi _ ⟨hl,hc,fun k acc=>acc.length=k∧∀e∈acc,P e,⟨rfl,fun _ h=>(nomatch h)⟩,fun k d acc e w=>?_,fun acc _ w=>hq acc w.1 w.2⟩
 refine he d (List.mem_of_getElem? e) _ fun x hx=>⟨?_,fun y hy=>?_⟩
 ·rw[List.length_append,w.1];rfl
 ·rcases List.mem_append.mp hy with z|z
  ·exact w.2 y z
  ·rw[List.mem_singleton.mp z];exact hx
end L2
namespace L2
theorem LK{n:Nat}{x:PySem.Str}:Dt.flat n (.str x)=(PySem.PyData.str x).canLay0:=by cases n<;>rw[Dt.flat]
end L2
namespace L2
open PySem Spec PyProof.Rows SeqAt
def exN(a C:Addr)(h:Heap):Prop:=∃vs sl,h.get? a=some ⟨.ref C,none,.fields vs,sl⟩∧vs[1]? = some .none
def exF(a C dx:Addr)(h:Heap):Prop:=∃vs sl,h.get? a=some ⟨.ref C,some dx,.fields vs,sl⟩∧vs[1]? = some .none∧dx≠a
theorem VB{a C:Addr}(h1 h2:Heap)(x:exN a C h1)(k:∀o,h1.get? a=some o→h2.get? a=some o):exN a C h2:=let ⟨vs,sl,e,r⟩:=x;⟨vs,sl,k _ e,r⟩
theorem AcA{a C dx:Addr}(h1 h2:Heap)(x:exF a C dx h1)(k:∀o,h1.get? a=some o→h2.get? a=some o):exF a C dx h2:=let ⟨vs,sl,e,r⟩:=x;⟨vs,sl,k _ e,r⟩
theorem exN.ex{a C:Addr}{h:Heap}(x:exN a C h):exO a C a h:=let ⟨vs,sl,e,_⟩:=x;⟨_,vs,e,rfl,(if_pos rfl).symm,rfl⟩
theorem exF.ex{a C dx:Addr}{h:Heap}(x:exF a C dx h):exO a C dx h:=let ⟨vs,sl,e,_,r⟩:=x;⟨_,vs,e,rfl,(if_neg r).symm,rfl⟩
section
variable{X:Cx}{pins:List (Addr×Obj)}{σ:St}{H:Hp}{s:Shared}{h':Heap}{a dx C U f fI:Addr}{φ ψ:Heap→Prop}
theorem Inv.put2{od:HO}{t':Nat}(I:Inv X pins σ H s)(Ha:H a=some (.ext φ))(hd:s.heap.objs.size≤dx)(k:∀b u,b≠a→s.heap.get? b=some u→h'.get? b=some u)(ha:∃u,h'.get? a=some u)
  (n1:Et X.prog X.w (upd (upd H dx od) a (.ext ψ)) h' a (.ext ψ)) (n2:Et X.prog X.w (upd (upd H dx od) a (.ext ψ)) h' dx od):Inv X pins σ (upd (upd H dx od) a (.ext ψ)) {s with heap:=h',toks:=t'}:=by
 have nd:H dx=none:=I.hok.fresh hd
 have na:a≠dx:=Ba Ha nd
 have mJ:∀b u,H b=some u→b≠a→upd (upd H dx od) a (.ext ψ) b=some u:=fun b u e n=>by rw[Am n,Am (Ba e nd)];exact e
 have nt:∀b u,H b=none→s.heap.get? b=some u→b≠a:=fun b u n _ z=>by rw[z,Ha]at n;cases n
 refine I.un ⟨fun b u e n _ _=>k b u (nt b u n e) e,fun b u e n _ _=>⟨u.slots,k b u (nt b u n e) e⟩,fun b u e n _=>?_,fun b u e _=>?_,fun b xs e=>mJ b _ e fun z=>(by rw[z,Ha]at e;cases e),fun b o u e=>mJ b _ e fun z=>(by rw[z,Ha]at e;cases e),fun b ps e=>⟨#[],by rw[mJ b _ e fun z=>by rw[z,Ha]at e;cases e];simp⟩⟩ ?_
 ·rw[Am (nt b u n e),Am (Nat.ne_of_lt (Nat.lt_of_lt_of_le (Heap.lt_size e) hd))];exact n
 ·by_cases z:b=a
  ·rw[z];exact ha
  ·exact⟨u,k b u z e⟩
 ·intro b u e
  by_cases z:b=a
  ·subst z;rw[Aw]at e;cases e;exact n1
  ·rw[Am z]at e
   by_cases z':b=dx
   ·subst z';rw[Aw]at e;cases e;exact n2
   ·rw[Am z']at e
    refine(I.hok b u e).stay (fun c v hc q=>k c v ?_ q) (fun c q=>mJ c _ q fun w=>by rw[w,Ha]at q;cases q) fun c xs q=>mJ c _ q fun w=>by rw[w,Ha]at q;cases q
    rcases hc with rfl|hc
    ·exact z
    ·rintro rfl;rw[Ha]at hc;cases hc
theorem Inv.again(I:Inv X pins σ H s)(Ha:H a=some (.ext φ))(n:ψ s.heap)(st:∀h1 h2:Heap,ψ h1→(∀o,h1.get? a=some o→h2.get? a=some o)→ψ h2):Inv X pins σ (upd H a (.ext ψ)) s:=by
 obtain⟨_,th,_⟩:=I.hok a _ Ha
 exact I.write (t':=s.toks) (h':=s.heap) (by rw[Ha];exact True.intro) (.inl rfl) (fun _ _ _ e=>e) th ⟨n,th,st⟩
def sX1(C:Addr)(ta tv:TE)(f:Str):TS:=fun D σ H=>tv σ H fun y H1=>ta σ H1 fun x H2=>∃a,x=.ref a∧H2 a=some (.ext (exN a C))∧∀dx,H2 dx=none→dx≠a→D.nx σ (upd (upd H2 dx (.xd [(f,y)])) a (.ext (exF a C dx)))
theorem Z4{o value:Expr}{f:Str}{pos pos':Pos}{ta tv:TE}(c:XC X.K C U)(ht:W.takerIn X.K C f=some none)(ha:PE X o ta)(hv:PE X value tv)(hs:swapsWith value (some (.Attribute o f pos')) pos.line X.env=pure false:=by rfl) :
  PS X (.Assign [.Attribute o f pos'] value pos) (sX1 C ta tv f):=by
 intro pins s σ H D I h
 refine plainObj_wpAny_Assign_Attribute (thn (hv pins s σ H _ I h) fun u s1 ⟨y,H1,I1,ry,q⟩=>thn (ha pins s1 σ H1 _ I1 q) fun ov s2 ⟨x,H2,I2,rx,a,ex,ea,q2⟩=>?_) hs
 subst ex
 obtain rfl:ov=Value.ref a:=rx
 obtain⟨⟨vs,sl,hx,h1⟩,_,_⟩:=I2.hok a _ ea
 have nx:s2.heap.objs.size≠a:=Nat.ne_of_gt (Heap.lt_size hx)
 refine Ak8 I2.kIn c ht hx fun h' tk' x1 x2 x3=>⟨σ,_,I2.put2 (dx:=s2.heap.objs.size) (od:=.xd [(f,y)]) (ψ:=exF a C s2.heap.objs.size) (t':=tk') ea (Nat.le_refl _) x3 ⟨_,x1⟩ ⟨⟨vs,sl,x1,h1,nx⟩,⟨_,x1⟩,AcA⟩ ⟨_,x2,fun g=>?_⟩,q2 _ (I2.hok.fresh (Nat.le_refl _)) nx⟩
 show Mv (List.lookup g [(f,y)]) (if g=f then some u else none)
 by_cases q:g=f
 ·rw[if_pos q,show List.lookup g [(f,y)]=some y by simp[List.lookup,beq_iff_eq.mpr q]];exact ry
 ·rw[if_neg q,show List.lookup g [(f,y)]=none by simp[List.lookup,beq_eq_false_iff_ne.mpr q]];trivial
def Ag4(C:Addr)(ns:List Str):Sp:=fun vs H Q _=>∃a ys,vs=.ref a::ys∧ys.length=ns.length∧H a=some (.ext (exN a C))∧∀dx,H dx=none→dx≠a→Q .non (upd (upd H dx (.xd (ns.zip ys))) a (.ext (exF a C dx)))
structure XR(P:Program)(w:World)(K:W.Frag)(mg:Str→Option Value)(base:Heap)(k:Nat)(c:Str)(ns:List Str)(C U fI:Addr)(fd:FuncData)(ps:List Str):Prop where
 at_:W.nsIn K mainGlobals c=some (some (.ref C))
 gl:mg c=some (.ref C)
 kp:W.keepIn K (.ref C)=true
 xc:XC K C U
 hi:W.findIn K (.ref C) "__init__"=some (some (.ref fI))
 hf:W.typeIn K (.ref fI)=some (.type "function")
 bd:Binds K fd ps []
 ln:ps.length=ns.length+1
 ok:El P w K mg base CX0 k fI fd ps (Ag4 C ns)
def Aih(C:Addr)(ns:List Str)(t:TA):TE:=fun σ H Q=>t σ H fun vs H1=>vs.length=ns.length∧vs.length≤1000∧∀a dx,H1 a=none→H1 dx=none→dx≠a→Q (.ref a) (upd (upd (upd H1 a (.ext (exN a C))) dx (.xd (ns.zip vs))) a (.ext (exF a C dx)))
theorem Aep{k:Nat}{c:Str}{ns ps:List Str}{fd:FuncData}{e:Expr}{es:List Expr}{p pos:Pos}{t:TA}(G:XR X.prog X.w X.K X.mg X.base k c ns C U fI fd ps)(hr:Dd (k+1) X.A)(hg:Gl X c)(ha:PA X (e::es) t)
  (hdb:(c==("__debug__":Str))=false:=by decide) (he:starEach (e::es) X.env=(false,eval e X.env)::starEach es X.env:=by rfl) (hpl:(backTo pos (starEach es X.env)).any (·.1)=false:=by rfl) :
  PE X (.Call (.Name c p) (e::es) [] pos) (Aih C ns t):=by
 intro pins s σ H Q I h
 refine wpAny_Call_Name_kw (Hr I hg G.gl ?_ hdb)
 refine W.callWith_K (h₀:=X.base) I.ok.mod.kin G.kp (thn (ha pos pins s σ H _ I h) fun us s1 ⟨vs,H1,I1,r,l1,l2,q⟩=>⟨I1.kIn,?_⟩) he hpl
 have nz:H1 (s1.heap.objs.size+1)=none:=I1.hok.fresh (Nat.le_succ _)
 have lu:us.length=vs.length:=r.length.symm
 have I2:Inv X pins σ (upd H1 (s1.heap.objs.size+1) (.ext (exN (s1.heap.objs.size+1) C))) {s1 with heap:=withExc s1.heap C us} :=
  I1.laid (t':=s1.toks) (fun _ _=>Ng) (Nat.le_succ _) ⟨⟨_,_,Mg,rfl⟩,⟨_,Mg⟩,VB⟩
 refine AdB I1.kIn G.xc G.hi G.hf (by rw[List.nil_append,lu];exact Nat.le_of_lt (Oh l2)) ?_
 have hb:=G.bd {s1 with heap:=withExc s1.heap C us} (.ref (s1.heap.objs.size+1)::us) I2.kIn (by rw[List.append_nil,List.length_cons,lu,l1,G.ln])
 rw[List.append_nil]at hb
 refine wpAny_call (codeAny_mono (G.ok.run _ X.stack {s1 with heap:=withExc s1.heap C us} _ ⟨.ref (s1.heap.objs.size+1)::us,[]⟩ _ (.ref (s1.heap.objs.size+1)::vs) (fun v H2=>v=.non∧Q (.ref (s1.heap.objs.size+1)) H2) E0 (hr.make C us []) (I2.env0.make C us []) hb (.cons rfl r)
  ⟨_,vs,rfl,l1,Aw,fun dx h1 h2=>⟨rfl,?_⟩⟩) fun r' s' hq=>?_)
 ·rw[Am h2]at h1
  exact q _ dx nz h1 h2
 ·cases r' with
  |error e=>exact False.elim hq
  | ok fl =>
   cases fl with
   | ret u =>
    obtain⟨v,H',I3,ru,e1,q3⟩:=I2.after hq
    rw[e1]at ru
    exact⟨ru,.ref _,H',I3,rfl,q3⟩
   |next=>exact False.elim hq
   |brk=>exact False.elim hq
   |cont=>exact False.elim hq
def AiU(X:Cx)(C:Addr)(te:TE):TS:=fun _ σ H=>te σ H fun v H2=>∃a dx,v=.ref a∧H2 a=some (.ext (exF a C dx))∧QC X σ a (upd H2 a (.ext (exO a C dx)))
theorem AdE{e:Expr}{pos:Pos}{te:TE}(c:XC X.K C U)(hc:X.calm=true)(he:PE X e te):PS X (.Raise (some e) none pos) (AiU X C te):=by
 intro pins s σ H D I h
 rw[arm_exec_Raise]
 have key:wpAny (model X.prog X.w) X.A (eval e X.env) (fun v s₁=>X.K.In s₁.heap∧∃b od vs sl,v=.ref b∧s₁.heap.get? b=some ⟨.ref C,od,.fields vs,sl⟩∧vs[1]? = some .none∧X.xe (.ref b) s₁) X.xe s:=by
  refine thn (he pins s σ H _ I h) fun u s1 ⟨v,H2,I2,rv,a,dx,e1,e2,wi⟩=>⟨I2.kIn,?_⟩
  subst e1
  obtain rfl:u=Value.ref a:=rv
  obtain⟨⟨vs,sl,hx,h1,nd⟩,_,_⟩:=I2.hok a _ e2
  refine⟨a,_,vs,sl,rfl,hx,h1,wi pins s1 (I2.again e2 (exF.ex ⟨vs,sl,hx,h1,nd⟩) VH) ⟨_,vs,hx,rfl,.inl h1⟩ ⟨C,dx,Aw⟩⟩
 refine wpAny_bind (wpAny_standAt (S6 c (I.ok.hd hc) ?_))
 first
  |exact wpAny_bind (thn key fun v s₃ h₃=>wpAny_bind (wpAny_standAt (wpAny_pure h₃)))
  |exact key
end
structure Ol where
 d:G7
 ex:BW→Dt→Prop
abbrev Jq:=Ol→BW→Prop
abbrev JZ:=BW→(Dt→Prop)→(Dt→Prop)→Prop
structure Ol.le(D D':Ol):Prop where
 d:G7.le D.d D'.d
 ex:∀ρ x,D.ex ρ x→D'.ex ρ x
def lDX(X:Cx)(B:Hp)(F:List Addr)(D:Ends):Ol:=⟨lD X.K B F D,fun ρ' x=>∀O' σ' a H',Rep X.K B F O' H' σ' ρ'→Rp X.K (mask (F++O') H') x (.ref a)→QC X σ' a H'⟩
def lSX(X:Cx)(t:Jq):TS:=fun D σ H=>∃B F O ρ,Rep X.K B F O H σ ρ∧t (lDX X B F D) ρ
def lEX(X:Cx)(t:JZ):TE:=fun σ H Q=>∃B F O ρ,Rep X.K B F O H σ ρ∧t ρ (fun d=>∀v H',Same H H'→Rp X.K (mask (F++O) H') d v→Q v H') (fun x=>∀a H',Same H H'→Rp X.K (mask (F++O) H') x (.ref a)→QC X σ a H')
structure DSX(X:Cx)(st:Stmt)(t:Jq):Prop where
 mono:∀{ρ D D'},Ol.le D D'→t D ρ→t D' ρ
 ps:PS X st (lSX X t)
structure VJ(X:Cx)(st:List Stmt)(t:Jq):Prop where
 mono:∀{ρ D D'},Ol.le D D'→t D ρ→t D' ρ
 ps:PSs X st (lSX X t)
structure DEX(X:Cx)(e:Expr)(t:JZ):Prop where
 mono:∀{ρ Q Q' E E'},(∀d,Q d→Q' d)→(∀d,E d→E' d)→t ρ Q E→t ρ Q' E'
 pe:PE X e (lEX X t)
section
variable{X:Cx}{a b c e:Expr}{es:List Expr}{st:Stmt}{sts sa sb:List Stmt}{t u:Jq}{ts us:DTS}{te:JZ}{tA:DTT}{tl:DTA}{pos:Pos}
theorem PS.nox{st:Stmt}{t:TS}(h:PS X.nox st t):PS X st t:=fun pins s σ H D I hw =>
 wpAny_mono (h pins s σ H D (I.wish _) hw) (fun _ _ q=>q.kj) fun _ _ z=>False.elim z
def Acs(t:DTS):Jq:=fun D ρ=>t D.d ρ
theorem Ek(h:DS X.nox st ts):DSX X st (Acs ts) where
 mono:=fun hd z=>h.mono hd.d z
 ps:=(PS.nox h.ps).imp fun D σ H ⟨B,F,O,ρ,R,z⟩=>⟨B,F,O,ρ,R,z⟩
def Aer:Jq:=fun D ρ=>D.d.nx ρ
def Ahl(t u:Jq):Jq:=fun D ρ=>t ⟨{D.d with nx:=u D},D.ex⟩ ρ
theorem Eu:VJ X [] Aer:=⟨fun hd h=>hd.d.nx _ h,AaF.imp fun D σ H ⟨B,F,O,ρ,R,h⟩=>h O σ H R⟩
theorem Az(h1:DSX X st t)(h2:VJ X sts u):VJ X (st::sts) (Ahl t u) where
 mono:=fun{ρ D D'} hd h=>h1.mono (D:=⟨{D.d with nx:=u D},D.ex⟩) ⟨⟨fun ρ q=>h2.mono hd q,hd.d.rt,hd.d.bk,hd.d.ct⟩,hd.ex⟩ h
 ps:=(J1 h1.ps h2.ps).imp fun D σ H ⟨B,F,O,ρ,R,h⟩=>⟨B,F,O,ρ,R,h1.mono (D:=⟨{ (lDX X B F D).d with nx:=u (lDX X B F D)},(lDX X B F D).ex⟩) ⟨⟨fun ρ' q O' σ' H' R'=>⟨B,F,O',ρ',R',q⟩,fun _ q=>q,fun _ q=>q,fun _ q=>q⟩,fun _ _ q=>q⟩ h⟩
theorem Bu(h1:DSX X st t):VJ X [st] t:=⟨h1.mono,Hs h1.ps⟩
def Aml(c:DTT)(t u:Jq):Jq:=fun D ρ=>c ρ fun k=>if k=true then t D ρ else u D ρ
theorem Il(hc:DT X c tA)(ha:VJ X sa t)(hb:VJ X sb u):DSX X (.If c sa sb pos) (Aml tA t u) where
 mono:=fun hd h=>hc.mono (fun k h=>by
  cases k with
  |true=>exact ha.mono hd h
  |false=>exact hb.mono hd h) h
 ps:=(Ahp hc.pt ha.ps hb.ps).imp fun D σ H ⟨B,F,O,ρ,R,h⟩=>⟨B,F,O,ρ,R,hc.mono (fun k h H1 s1=>by
  cases k with
  |true=>exact⟨B,F,O,ρ,R.same s1,h⟩
  |false=>exact⟨B,F,O,ρ,R.same s1,h⟩) h⟩
def Ady(te:JZ):Jq:=fun D ρ=>te ρ (fun _=>D.d.nx ρ) (D.ex ρ)
theorem CZ(he:DEX X e te)(hs:swapsWith e none pos.line X.env=pure false:=by rfl):DSX X (.Expr e pos) (Ady te) where
 mono:=fun hd h=>he.mono (fun _ h=>hd.d.nx _ h) (fun _ h=>hd.ex _ _ h) h
 ps:=(Mq he.pe hs).imp fun D σ H ⟨B,F,O,ρ,R,h⟩=>⟨B,F,O,ρ,R,he.mono (fun d q v H1 s1 _=>q O σ H1 (R.same s1)) (fun x q a H1 s1 r1=>q O σ a H1 (R.same s1) r1) h⟩
def AgV(te:JZ):Jq:=fun D ρ=>te ρ D.d.rt (D.ex ρ)
theorem JG(he:DEX X e te):DSX X (.Return (some e) pos) (AgV te) where
 mono:=fun hd h=>he.mono (fun _ h=>hd.d.rt _ h) (fun _ h=>hd.ex _ _ h) h
 ps:=(Acg he.pe).imp fun D σ H ⟨B,F,O,ρ,R,h⟩=>⟨B,F,O,ρ,R,he.mono (fun d q v H1 s1 r1=>q v H1 (R.base.trans s1) (r1.mono Rj)) (fun x q a H1 s1 r1=>q O σ a H1 (R.same s1) r1) h⟩
def Ahi(te:JZ)(g:DTG):Jq:=fun D ρ=>te ρ (fun d=>g d ρ D.d.nx) (D.ex ρ)
theorem KJ(i:Nat){x:Str}{pos':Pos}(hN:X.N.Nodup)(he:DEX X e te)(hi:X.N[i]? = some x:=by rfl)(hx:Loc X.env.scope x:=by first | exact Or.inl rfl | exact Or.inr rfl)(hs:swapsWith e (some (.Name x pos')) pos.line X.env=pure false:=by rfl)
  (hf:X.fn x=true∨X.env.scope.names.lookup x=some .local:=by first|exact .inl rfl|exact .inr rfl|assumption):DSX X (.Assign [.Name x pos'] e pos) (Ahi te (U6 i)) where
 mono:=fun hd h=>he.mono (fun _ h=>hd.d.nx _ h) (fun _ h=>hd.ex _ _ h) h
 ps:=(Xy hN hi hx he.pe hs hf).imp fun D σ H ⟨B,F,O,ρ,R,h⟩=>⟨B,F,O,ρ,R,he.mono (fun d q v H1 s1 r1=>q O _ H1 ((R.same s1).set i r1)) (fun x q a H1 s1 r1=>q O σ a H1 (R.same s1) r1) h⟩
abbrev HS:=List Dt→(Dt→Prop)→(Dt→Prop)→Prop
def AkC(K:W.Frag)(sp:HS):Sp:=fun vs H Q E=>∃F ds,(∀a∈F,H a≠none)∧RpL K (mask F H) ds vs∧sp ds (fun d=>∀v H',Same H H'→Rp K (mask F H') d v→Q v H') (fun x=>∀a H',Same H H'→Rp K (mask F H') x (.ref a)→E (.ref a) none H')
def Ab9(sp:HS):Prop:=∀ds Q Q' E E',(∀d,Q d→Q' d)→(∀d,E d→E' d)→sp ds Q E→sp ds Q' E'
def AbE(sp:HS)(tl:DTA):JZ:=fun ρ Q E=>tl ρ fun ds=>sp ds Q E
def PmX(P:Program)(w:World)(K:W.Frag)(mg:Str→Option Value)(base:Heap)(k:Nat)(x:Str)(st:Stmt)(ps:List Str)(sp:HS):Prop :=
 ∃f fd,FnT K mg x st ps f fd∧El P w K mg base (CXe P w) k f fd ps (AkC K sp)
theorem Bp{k:Nat}{ps:List Str}{sp:HS}{x:Str}{stx:Stmt}{p:Pos}(m:Ab9 sp)(G:PmX X.prog X.w X.K X.mg X.base k x stx ps sp)(hr:Dd k X.A)(hg:Gl X x)
  (ha:DA X (e::es) tl) (hdb:(x==("__debug__":Str))=false:=by decide)
  (he:starEach (e::es) X.env=(false,eval e X.env)::starEach es X.env:=by rfl) (hpl:(backTo pos (starEach es X.env)).any (·.1)=false:=by rfl):DEX X (.Call (.Name x p) (e::es) [] pos) (AbE sp tl):=by
 obtain⟨f,fd,F,G⟩:=G
 refine⟨fun hq hx h=>ha.mono (fun ds h=>m ds _ _ _ _ hq hx h) h,(AcP G hr hg F.mg F.fn.kp F.bd ha.pa hdb he hpl).imp fun σ H Q ⟨B,F,O,ρ,R,h⟩=>⟨B,F,O,ρ,R,ha.mono (fun ds q vs H1 s1 r1=>⟨F++O,ds,(R.same s1).th,r1,m ds _ _ _ _ (fun d z v H2 s2 r2=>z v H2 (s1.trans s2) r2) (fun x z a H2 s2 r2=>⟨a,rfl,z a H2 (s1.trans s2) r2⟩) q⟩) h⟩⟩
theorem PmX.pm{P:Program}{w:World}{K:W.Frag}{mg:Str→Option Value}{base:Heap}{k:Nat}{x:Str}{st:Stmt}{ps:List Str}{sp:HS}{sp':DSp}(G:PmX P w K mg base k x st ps sp)(m:Ab9 sp)
  (h:∀ds Q,sp' ds Q→sp ds Q fun _=>False):Pm P w K mg base k x st ps sp':=by
 obtain⟨f,fd,F,G⟩:=G
 exact⟨f,fd,F,G.calm fun vs H Q E ⟨F',ds,h1,r,q⟩=>⟨F',ds,h1,r,m ds _ _ _ _ (fun _ z=>z) (fun _ z=>z.elim) (h ds _ q)⟩⟩
def AdC(c:Str)(ns:List Str)(tl:DTA):Jq:=fun D ρ=>tl ρ fun ds=>ds.length=ns.length∧ds.length≤1000∧D.ex ρ (.exc c ns ds)
theorem Jm{k:Nat}{c:Str}{ns ps:List Str}{fd:FuncData}{C U fI:Addr}{p cp:Pos}(G:XR X.prog X.w X.K X.mg X.base k c ns C U fI fd ps)(hr:Dd (k+1) X.A)(hc:X.calm=true)(hg:Gl X c)(ha:DA X (e::es) tl)
  (hdb:(c==("__debug__":Str))=false:=by decide) (he:starEach (e::es) X.env=(false,eval e X.env)::starEach es X.env:=by rfl) (hpl:(backTo cp (starEach es X.env)).any (·.1)=false:=by rfl) :
  DSX X (.Raise (some (.Call (.Name c p) (e::es) [] cp)) none pos) (AdC c ns tl) where
 mono:=fun hd h=>ha.mono (fun ds ⟨h1,h2,h3⟩=>⟨h1,h2,hd.ex _ _ h3⟩) h
 ps:=(AdE G.xc hc (Aep G hr hg ha.pa hdb he hpl)).imp fun D σ H ⟨B,F,O,ρ,R,h⟩=>⟨B,F,O,ρ,R,ha.mono (fun ds ⟨h1,h2,h3⟩ vs H1 s1 r1=>by
  refine⟨by rw[r1.len];exact h1,by rw[r1.len];exact h2,fun a dx na nd ne=>⟨a,dx,rfl,Aw,?_⟩⟩
  have R1:=R.same s1
  have oa:a∉F++O:=fun z=>R1.th a z na
  have od:dx∉F++O:=fun z=>R1.th dx z nd
  have s2:Same H1 (upd (upd (upd (upd H1 a (.ext (exN a C))) dx (.xd (ns.zip vs))) a (.ext (exF a C dx))) a (.ext (exO a C dx))):=fun b o q=>by
   rw[Am (Ba q na),Am (Ba q na),Am (Ba q nd),Am (Ba q na)];exact q
  refine h3 O σ a _ (R1.same s2) (Lg.mpr ⟨a,C,U,dx,vs,rfl,G.at_,G.xc,?_,?_,h1.symm,r1.mono s2.mask⟩)
  ·rw[Bh oa];exact Aw
  ·refine .inl ?_
   rw[Bh od,Am ne,Am ne];exact Aw) h⟩
end
section
variable{P:Program}{w:World}{K:W.Frag}{mg:Str→Option Value}{base:Heap}
theorem Fun.okX{x qual:Str}{st:Stmt}{f:Addr}{fd:FuncData}{N ps:List Str}{k:Nat}{sp:HS}(F:Fun K x qual st f fd)(S:Ak N ps (Ag st))(len:∀ds Q E,sp ds Q E→ds.length=ps.length)
  (hbody:∀(cdv:Value)(A:Around)(outer:List Env)(s:Shared)(H:Hp)(E:XK),Dd k (A.deeper (envOfC qual (Ag st) s.heap.objs.size f cdv)) →
   ∃t,VJ (RD (CXe P w) P w K mg base N qual (Ag st) f cdv A outer s H E) (Cp st) t∧∀ds Q Ex,sp ds Q Ex→t ⟨{nx:=fun _=>Q .non,rt:=Q},fun _=>Ex⟩ (Fy N ds)):El P w K mg base (CXe P w) (k+1) f fd ps (AkC K sp):=by
 obtain⟨oc,od,kV,doc,pm,an,cdv,ct,osl,rfl,lk,hcd⟩:=F.ex
 refine Acp lk hcd S (fun vs H Q E ⟨F,ds,_,r,h⟩=>by rw[r.len];exact len _ _ _ h) fun A outer s H vs Q E hr ⟨F',ds,hF,r,h⟩=>?_
 obtain⟨t,T,q⟩:=hbody cdv A outer s H E hr
 refine⟨_,T.ps,H,F',[],Fy N ds,Tt hF r,T.mono (D:=⟨{nx:=fun _=>∀v H',Same H H'→Rp K (mask F' H') .non v→Q v H',rt:=fun d=>∀v H',Same H H'→Rp K (mask F' H') d v→Q v H'},fun _ x=>∀a H',Same H H'→Rp K (mask F' H') x (.ref a)→E (.ref a) none H'⟩) ⟨⟨?_,?_,fun _ z=>False.elim z,fun _ z=>False.elim z⟩,?_⟩ (q ds _ _ h)⟩
 ·exact fun ρ z O' σ' H' R'=>z .non H' R'.base (QG.mpr rfl)
 ·exact fun d z v H' s' r'=>z v H' s' r'
 ·exact fun ρ x z O' σ' a H' R' r'=>Y7 fun H2 s2=>z a H2 (R'.base.trans s2) ((r'.mono Rj).mono s2.mask)
end
def G6{τ:Type}(args:τ→List Dt)(pre:τ→Prop)(good:τ→Prop)(post:τ→Dt→Prop)(exc:τ→Dt):HS:=fun ds Q E=>∃p,ds=args p∧pre p∧(good p→∀d,post p d→Q d)∧(¬good p→E (exc p))
theorem Av{τ:Type}{args:τ→List Dt}{pre good:τ→Prop}{post:τ→Dt→Prop}{exc:τ→Dt}:Ab9 (G6 args pre good post exc):=fun _ _ _ _ _ hq hx ⟨p,e,h,q,x⟩=>⟨p,e,h,fun g d z=>hq _ (q g d z),fun g=>hx _ (x g)⟩
theorem Bq{τ:Type}{args:τ→List Dt}{pre good:τ→Prop}{post:τ→Dt→Prop}{exc:τ→Dt}{Q E:Dt→Prop}(p:τ)(h:pre p)(k:good p→∀d,post p d→Q d)(x:¬good p→E (exc p)):G6 args pre good post exc (args p) Q E:=⟨p,rfl,h,k,x⟩
section
variable{X:Cx}{pins:List (Addr×Obj)}{σ:St}{H:Hp}{s:Shared}
theorem Inv.forget{j:Nat}{n:Str}{m:Str→Option Value}{u:Option Value}{h':Heap}(I:Inv X pins σ H s)(hN:X.N.Nodup)(hj:X.N[j]? = some n)(hl:∀(i:Nat)(x:Str)(v:V),X.N[i]? = some x→σ[i]? = some (some v)→Vis X.env.scope x→∃u,RelV v u∧Look X.env s.heap m x u)
  (hn:h'.Ns X.env.locals (fun x=>if x=n then u else m x)) (sb:Heap.SameBut X.env.locals s.heap h'):Inv X pins (σ.set j none) H {s with heap:=h'}:=by
 have ne:∀b o,X.s₀.heap.get? b=some o→b≠X.env.locals:=fun b o e=>Nat.ne_of_lt (Nat.lt_of_lt_of_le (Heap.lt_size e) I.ok.above)
 refine⟨I.ok,I.os,I.bare,⟨fun b o e n hb hx=>(sb.2 b (ne b o e)).trans (I.base.keep b o e n hb hx),fun b o e n hb hx=>?_,I.base.free,fun b o e hx=>?_,I.base.tups,I.base.oX,I.base.pL⟩,⟨_,hn,fun i y v e1 e2 e3=>?_⟩,fun y c e=>?_,I.free,I.ju,fun p hp=>?_,fun b ob e=>?_,by simpa using I.len⟩
 ·obtain⟨sl,e1⟩:=I.base.slot b o e n hb hx
  exact⟨sl,(sb.2 b (ne b o e)).trans e1⟩
 ·obtain⟨o',e1⟩:=I.base.there b o e hx
  exact⟨o',(sb.2 b (ne b o e)).trans e1⟩
 ·have hij:i≠j:=fun z=>by
   subst z
   by_cases hk:i<σ.length
   ·rw[List.getElem?_set_self hk]at e2;cases e2
   ·rw[List.getElem?_eq_none (by simpa using hk)]at e2;cases e2
  rw[List.getElem?_set_ne (Ne.symm hij)]at e2
  obtain⟨u',r',q⟩:=hl i y v e1 e2 e3
  refine⟨u',r',?_⟩
  rcases q with⟨k,e⟩|⟨k,c,e,z⟩
  ·have:y≠n:=fun e=>hij (Qw hN e1 (e ▸ hj))
   exact .inl ⟨k,by simp[this,e]⟩
  ·exact .inr ⟨k,c,e,z.sameBut sb (I.cne y c e)⟩
 ·obtain⟨w',z⟩:=I.cell y c e
  exact⟨w',z.sameBut sb (I.cne y c e)⟩
 ·obtain⟨e,n,ne,nf,d⟩:=I.pin p hp
  exact⟨(sb.2 p.1 ne).trans e,n,ne,nf,d⟩
 ·refine(I.hok b ob e).stay (fun c w' hc q=>(sb.2 c ?_).trans q) (fun _ q=>q) fun _ _ q=>q
  rintro rfl
  rcases hc with hc|hc
  ·rw[←hc,I.free]at e;cases e
  ·rw[I.free]at hc;cases hc
theorem AaS{M:Model}{A:Around}{E:Value→Shared→Prop}{j:Nat}{n:Str}{pos:Pos}{Q:Unit→Shared→Prop}(I:Inv X pins σ H s)(hN:X.N.Nodup)(hj:X.N[j]? = some n)(hk:X.env.scope.names.lookup n=some .local)
  (h:∀s',Inv X pins (σ.set j none) H s'→Q () s'):wpAny M A (bindName X.env n .none >>= fun _=>unbindBehindTheSuite X.env n pos) Q E s:=by
 refine wpAny_bind (wpAny_bindName (J6 (v:=.non) I hN hj (.inl hk) rfl (fun s1 I1=>?_) (.inr hk)))
 obtain⟨m,hn,hl⟩:=id I1.loc
 have hjσ:j<σ.length:=by rw[I.len];exact(List.getElem?_eq_some_iff.mp hj).1
 obtain⟨u,r,q⟩:=hl j n .non hj (List.getElem?_set_self hjσ) (.inl hk)
 have hm:m n=some u:=by
  rcases q with⟨_,e⟩|⟨k,_⟩
  ·exact e
  ·rcases k with k|k
   ·have k:X.env.scope.names.lookup n=some .cell:=k
    rw[hk]at k;cases k
   ·have k:X.env.scope.names.lookup n=some .free:=k
    rw[hk]at k;cases k
 have hp:(X.env.scope.kind == .class||(X.env.scope.kind == .module&&X.env.locals != X.env.globals))=false:=by rw[I.ok.kind];rfl
 unfold unbindBehindTheSuite
 refine wpAny_onRaise (wpAny_mono (wpAny_unbindName_local (E:=fun _ _=>False) hk hn hm hp fun h' u' hn' sb=>?_) (fun _ _ z=>z) fun _ _ z=>z.elim)
 refine h _ ?_
 have:=I1.forget hN hj hl hn' sb
 rwa [List.set_set]at this
abbrev Cx.body(X:Cx)(W:Value→Shared→Prop)(pn:List (Addr×Obj)):Cx:={X with xe:=W,pn:=pn}
abbrev Cx.suite(X:Cx)(a:Addr):Cx:={X with A:=X.A.mark (some (.ref a)),calm:=false,xe:=fun _ _=>False}
theorem Inv.body(I:Inv X pins σ H s)(W:Value→Shared→Prop):Inv (X.body W (X.pn++pins)) [] σ H s :=
 ⟨⟨I.ok.mod,I.ok.kind,I.ok.glob,I.ok.blt,I.ok.above,I.ok.inj,I.ok.has,I.ok.cab,I.ok.hd,I.ok.frames,I.ok.stk,I.ok.exf,I.ok.bs,I.ok.bsz,I.ok.yO,I.ok.wN,I.ok.oY,I.ok.frf⟩,I.os,I.bare,I.base,I.loc,I.cell,I.free,I.ju,fun p hp=>I.pin p (by simpa using hp),I.hok,I.len⟩
theorem Inv.uP{W:Value→Shared→Prop}{aaG:List (Addr×Obj)}(I:Inv (X.body W (X.pn++pins)) aaG σ H s):Inv X pins σ H s :=
 ⟨⟨I.ok.mod,I.ok.kind,I.ok.glob,I.ok.blt,I.ok.above,I.ok.inj,I.ok.has,I.ok.cab,I.ok.hd,I.ok.frames,I.ok.stk,I.ok.exf,I.ok.bs,I.ok.bsz,I.ok.yO,I.ok.wN,I.ok.oY,I.ok.frf⟩,I.os,I.bare,I.base,I.loc,I.cell,I.free,I.ju,fun p hp=>I.pin p (List.mem_append_left _ hp),I.hok,I.len⟩
theorem Inv.suite(I:Inv X pins σ H s)(a:Addr):Inv (X.suite a) pins σ H s :=
 ⟨⟨I.ok.mod,I.ok.kind,I.ok.glob,I.ok.blt,I.ok.above,I.ok.inj,I.ok.has,I.ok.cab,fun z=>(by cases z),I.ok.frames,I.ok.stk,I.ok.exf,I.ok.bs,I.ok.bsz,I.ok.yO,I.ok.wN,I.ok.oY,I.ok.frf⟩,I.os,I.bare,I.base,I.loc,I.cell,I.free,I.ju,I.pin,I.hok,I.len⟩
theorem Inv.aeo{a:Addr}(I:Inv (X.suite a) pins σ H s)(hd:X.calm=true→X.A.handled=none):Inv X pins σ H s :=
 ⟨⟨I.ok.mod,I.ok.kind,I.ok.glob,I.ok.blt,I.ok.above,I.ok.inj,I.ok.has,I.ok.cab,hd,I.ok.frames,I.ok.stk,I.ok.exf,I.ok.bs,I.ok.bsz,I.ok.yO,I.ok.wN,I.ok.oY,I.ok.frf⟩,I.os,I.bare,I.base,I.loc,I.cell,I.free,I.ju,I.pin,I.hok,I.len⟩
end
structure XU(K:W.Frag)(mg:Str→Option Value)(c:Str)(U:Addr):Prop where
 gl:mg c=some (.ref U)
 obj:∃nm q N bs hd sn sub ab col dd k0 k1 k2 k3 k5 id,K.lookup U=some (excClassObj nm q U N bs bmV hd sn sub ab col dd k0 k1 k2 k3 k5 id)
theorem Aic{M:Model}{A:Around}{E:Value→Shared→Prop}{s:Shared}{K:W.Frag}{mg:Str→Option Value}{C U e:Addr}{oe:Obj}{c:Str}{Q:Bool→Shared→Prop}(X:K.In s.heap)(x:XC K C U)(u:XU K mg c U)(he:s.heap.get? e=some oe)(hc:oe.cls=.ref C)(q:Q true s) :
  wpAny M A (excMatches (.ref e) (.ref U)) Q E s:=by
 obtain⟨nm,q1,N,bs,sn,sub,ab,col,dd,k0,k1,k2,k3,k5,lk⟩:=x.obj
 obtain⟨nm',q1',N',bs',hd',sn',sub',ab',col',dd',k0',k1',k2',k3',k5',id',lk'⟩:=u.obj
 obtain⟨h,g,d,t,os⟩:=s
 have oC:h.get? C=some _:=X _ _ lk
 have oU:h.get? U=some _:=X _ _ lk'
 have c1:(Value.ref U::bmV).contains (.type "BaseException")=true:=by simp
 have c2:(Value.ref C::(.ref U::bmV)).contains (.ref U)=true:=by simp
 have nt:=tc_notTuple
 unfold excMatches
 repeat (first|(with_reducible refine wpAny_loadPart_at he ?_;rw[hc])|with_reducible refine wpAny_loadPart_at oU ?_|(with_reducible refine wpAny_isSubtype_exc oU ?_;rw[c1])|(with_reducible refine wpAny_isSubtype_exc oC ?_;rw[c2])|wp_step)
 exact q
theorem XC.uniq{K:W.Frag}{C U U':Addr}(x:XC K C U)(y:XC K C U'):U=U':=by
 obtain⟨nm,q1,N,bs,sn,sub,ab,col,dd,k0,k1,k2,k3,k5,lk⟩:=x.obj
 obtain⟨nm',q1',N',bs',sn',sub',ab',col',dd',k0',k1',k2',k3',k5',lk'⟩:=y.obj
 rw[lk]at lk'
 injection lk' with e
 injection e with _ _ e _
 injection e with e
 injection e with _ _ e
 injection e with _ e
 injection e with e _
 injection e
def Under(K:W.Frag)(mg:Str→Option Value)(c T:Str):Prop:=∀C U,W.nsIn K mainGlobals c=some (some (.ref C))→XC K C U→mg T=some (.ref U)
theorem Rep.unset{K:W.Frag}{B:Hp}{F O:List Addr}{H:Hp}{σ:St}{ρ:BW}(r:Rep K B F O H σ ρ)(j:Nat):Rep K B F O H (σ.set j none) (ρ.set j none):=by
 have back:∀(i:Nat)(x:En),(ρ.set j none)[i]? = some (some x)→i≠j∧ρ[i]? = some (some x):=fun i x e=>by
  by_cases hi:i=j
  ·subst hi
   by_cases hk:i<ρ.length
   ·rw[List.getElem?_set_self hk]at e;cases e
   ·rw[List.getElem?_eq_none (by simpa using hk)]at e;cases e
  ·rw[List.getElem?_set_ne (Ne.symm hi)]at e;exact⟨hi,e⟩
 refine⟨by simpa using r.len,r.base,r.fr,r.th,fun i d e=>?_,fun i ds e=>?_,fun i k ds es a h1 h2 h3 h4=>?_,fun i ks e=>?_,fun i k ds es a h1 h2 h3 h4=>?_,r.adH fun _ z=>by cases z⟩
 ·obtain⟨n,e⟩:=back i _ e
  rw[List.getElem?_set_ne (Ne.symm n)];exact r.is i d e
 ·obtain⟨n,e⟩:=back i _ e
  rw[List.getElem?_set_ne (Ne.symm n)];exact r.own i ds e
 ·obtain⟨n1,e1⟩:=back i _ h1
  obtain⟨n2,e2⟩:=back k _ h2
  rw[List.getElem?_set_ne (Ne.symm n1)]at h3
  rw[List.getElem?_set_ne (Ne.symm n2)]at h4
  exact r.inj i k ds es a e1 e2 h3 h4
 ·obtain⟨n,e⟩:=back i _ e
  rw[List.getElem?_set_ne (Ne.symm n)];exact r.tab i ks e
 ·obtain⟨n1,e1⟩:=back i _ h1
  obtain⟨n2,e2⟩:=back k _ h2
  rw[List.getElem?_set_ne (Ne.symm n1)]at h3
  rw[List.getElem?_set_ne (Ne.symm n2)]at h4
  exact r.wO i k ds es a e1 e2 h3 h4
theorem AhQ{X:Cx}{pins:List (Addr×Obj)}{σ:St}{H:Hp}{s:Shared}{a:Addr}{M:Model}{A:Around}{E:Value→Shared→Prop}{Q:Unit→Shared→Prop}(I:Inv X pins σ H s)(fl:Ji s.heap H a)(q:∀s',Inv X pins σ H s'→Q () s'):wpAny M A (setFlight (.ref a) none) Q E s:=by
 obtain⟨o,vs,e1,e2,e3⟩:=fl
 unfold setFlight
 rcases e3 with e3|⟨T,e3,e4,e5⟩
 ·refine wpAny_bind (wpAny_field e1 e2 e3 ?_)
  rw[if_neg (by simp)]
  exact wpAny_pure (q s I)
 ·refine wpAny_bind (wpAny_field e1 e2 e3 ?_)
  rw[if_pos (by simp)]
  obtain⟨⟨oT,ts,t1,t2,t3⟩,_,_⟩:=I.hok T _ e5
  have tz:3<ts.size:=(Array.getElem?_eq_some_iff.mp t3).1
  have d':=Obj.data_mapFields t2 (·.setIfInBounds 3 Value.none)
  have t':=Heap.get?_update_self (Obj.mapFields (·.setIfInBounds 3 Value.none)) t1 (Obj.isFreed_of_fields d')
  refine wpAny_setField t1 t2 tz (q _ ?_)
  have J:=I.write (x:=T) (e:=T) (o:=.ext (tbO T)) (t':=s.toks) (h':=s.heap.update T (Obj.mapFields (·.setIfInBounds 3 Value.none))) (by rw[e5];exact True.intro) (.inl rfl) (fun b u n e=>(Heap.get?_update_other _ _ (Ne.symm n)).trans e) ⟨_,t'⟩ ⟨⟨_,_,t',d',by simp[tz]⟩,⟨_,t'⟩,Rk⟩
  have eH:upd H T (.ext (tbO T))=H:=by
   funext b
   by_cases z:b=T
   ·rw[z,Aw,e5]
   ·rw[Am z]
  rw[eH]at J
  exact J
section
variable{X:Cx}{tb:Jq}{ts:DTS}{pos tp hp:Pos}{T n:Str}{U:Addr}{body suite:List Stmt}{b₀:Stmt}
def Om(K:W.Frag)(mg:Str→Option Value)(T:Str)(j:Nat)(ts:DTS)(D:G7)(ρ:BW)(x:Dt):Prop:=match x with
 |.exc c ns ds=>Under K mg c T∧ts {nx:=fun ρ2=>D.nx (ρ2.set j none),rt:=fun _=>False} (ρ.set j (some (.is (.exc c ns ds))))
 |_=>False
def Alr(K:W.Frag)(mg:Str→Option Value)(T:Str)(j:Nat)(tb:Jq)(ts:DTS):Jq:=fun D ρ=>tb ⟨D.d,Om K mg T j ts D.d⟩ ρ
theorem Agx(j:Nat)(u:XU X.K X.mg T U)(hN:X.N.Nodup)(hb:∀W pn,VJ (X.body W pn) body tb)(hs:∀a,DSs (X.suite a) (b₀::suite) ts)(hst:X.stack=X.env::X.outer:=by rfl)(hfr:X.env.frame=some X.env.locals:=by rfl)(hj:X.N[j]? = some n:=by rfl)(hk:X.env.scope.names.lookup n=some .local:=by rfl)(hg:Gl X T:=by rfl)
  (hd:(T==("__debug__":Str))=false:=by decide):DSX X (.Try body [.ExceptHandler (some (.Name T tp)) (some n) (b₀::suite) hp] [] [] pos) (Alr X.K X.mg T j tb ts) where
 mono:=fun{ρ D D'} hd h=>(hb X.xe X.pn).mono (D:=⟨D.d,Om X.K X.mg T j ts D.d⟩) ⟨hd.d,fun ρ' x z=>by
  revert z
  dsimp only
  unfold Om
  split
  ·exact fun z=>⟨z.1,(hs 0).mono (D:={nx:=fun ρ2=>D.d.nx (ρ2.set j none),rt:=fun _=>False}) ⟨fun _ q=>hd.d.nx _ q,fun _ q=>q,fun _ q=>q,fun _ q=>q⟩ z.2⟩
  ·exact fun z=>z⟩ h
 ps:=by
  rintro pins s σ H D I ⟨B,F,O,ρ,R,h⟩
  refine wpAny_Try_except ?_
  refine wpAny_mono ((hb (fun e s₁=>wpAny (model X.prog X.w) X.A (noteFrame e X.env) (fun _ s₂=>wpAny (model X.prog X.w) X.A (setFlight e none) (fun _ s₃=>wpAny (model X.prog X.w) X.A (handleBy e X.env [.ExceptHandler (some (.Name T tp)) (some n) (b₀::suite) hp]) (SP X pins D) X.xe s₃) X.xe s₂) X.xe s₁) (X.pn++pins)).ps [] s σ H D (I.body _) ⟨B,F,O,ρ,R,(hb X.xe X.pn).mono (D:=⟨(lDX X B F D).d,Om X.K X.mg T j ts (lDX X B F D).d⟩) ⟨⟨fun _ q=>q,fun _ q=>q,fun _ q=>q,fun _ q=>q⟩,fun ρ' x z=>?_⟩ h⟩) (fun f s1 q=>?_) fun e s1 q=>q
  ·revert z
   dsimp only
   unfold Om
   split
   ·rintro⟨un,z⟩ O' σ' a H' R' rp aaG s1 I1 fl ex
    have I2:Inv X pins σ' H' s1:=I1.uP
    obtain⟨a',C,U',dx,vs,ea,h1,xc,h2,h3,h4,h5⟩:=Lg.mp rp
    obtain rfl:a=a':=V.ref.inj ea
    refine lands I2 hst hfr fl ex fun H2 s2 sm I3 fl2=>?_
    refine wpAny_handleBy_cons (codeAny_handlers_test (Hr (X:=X.suite a) (E:=fun x s₁=>_) (I3.suite a) hg u.gl ?_ hd)) (by intro q;cases q)
    have eU:U'=U:=by
     have:=(un C U' h1 xc).symm.trans u.gl
     injection this with this
     injection this
    subst eU
    have h2':=I3.hok a _ (sm _ _ (Bv _ _ h2))
    obtain⟨⟨oe,_,k1,k2,_⟩,_,_⟩:=h2'
    refine Aic I3.kIn xc u k1 k2 ?_
    refine codeAny_handlers_suite_as (AhQ I3 fl2 fun s3 I4=>?_)
    refine J6 (X:=X.suite a) (v:=.ref a) (I4.suite a) hN hj (.inl hk) rfl (fun s4 I5=>?_) (.inr hk)
    have R2:=(R'.same sm).set j (rp.mono sm.mask)
    refine wpAny_mono ((hs a).ps pins s4 _ H2 {nx:=fun σ5 H5=>D.nx (σ5.set j none) H5,rt:=fun _ _=>False} I5 ⟨B,F,O',_,R2,(hs a).mono (D:={nx:=fun ρ2=>(lDX X B F D).d.nx (ρ2.set j none),rt:=fun _=>False}) ⟨fun ρ5 q O5 σ5 H5 R5=>q O5 _ H5 (R5.unset j),fun _ q=>q.elim,fun _ q=>q.elim,fun _ q=>q.elim⟩ z⟩) (fun f s5 q=>?_) fun _ _ z=>z.elim
    cases f with
    | next =>
     obtain⟨σ5,H5,I6,q⟩:=q
     exact AaS (I6.aeo I.ok.hd) hN hj hk fun s6 I7=>⟨_,H5,I7,q⟩
    |brk=>obtain⟨_,_,_,q⟩:=q;exact q.elim
    |cont=>obtain⟨_,_,_,q⟩:=q;exact q.elim
    |ret u=>obtain⟨_,_,_,_,_,q⟩:=q;exact q.elim
   ·exact fun z=>z.elim
  ·cases f with
   | next =>
    obtain⟨σ',H',I',q⟩:=q
    exact wpAny_execs_nil ⟨σ',H',I'.uP,q⟩
   |brk=>obtain⟨σ',H',I',q⟩:=q;exact⟨σ',H',I'.uP,q⟩
   |cont=>obtain⟨σ',H',I',q⟩:=q;exact⟨σ',H',I'.uP,q⟩
   |ret u=>obtain⟨v,σ',H',I',r,q⟩:=q;exact⟨v,σ',H',I'.uP,r,q⟩
end
def Bd(K:W.Frag)(c:Str)(A:Addr)(b:Bool):Prop:=∀C,W.nsIn K mainGlobals c=some (some (.ref C))→W.kitOne K (.ref C) (.ref A)=some b
def Hl(K:W.Frag)(c:Str)(As:List Addr)(b:Bool):Prop:=∀C,W.nsIn K mainGlobals c=some (some (.ref C))→W.kitAny K (.ref C) (As.map .ref)=some b
def HY(K:W.Frag)(c f:Str):Prop:=∀C,W.nsIn K mainGlobals c=some (some (.ref C))→W.findIn K (.ref C) f=some none
theorem Hl.nil{K:W.Frag}{c:Str}:Hl K c [] false:=fun _ _=>rfl
theorem Hl.cons{K:W.Frag}{c:Str}{A:Addr}{As:List Addr}(h:Bd K c A false)(r:Hl K c As false):Hl K c (A::As) false:=fun C e=>by
 show W.kitAny K (.ref C) (.ref A::As.map .ref)=some false
 unfold W.kitAny
 rw[h C e]
 exact r C e
theorem Zd:∀{As:List Addr} {its:List Value},Vals (As.map V.ref) its→its=As.map .ref
 | [],_,rv=>by cases rv;rfl
 | A::As,_,rv=>by
  cases rv with
  |cons z1 z2=>rw[Zd z2];rw[show _=Value.ref A from z1];rfl
theorem XC.inst{X:Cx}{pins:List (Addr×Obj)}{σ:St}{H:Hp}{s:Shared}{a C dx:Addr}{fs:List (Str×V)}(I:Inv X pins σ H s)(h1:H a=some (.ext (exO a C dx)))(h2:H dx=some (.xd fs)) :
  ∃(ox od:Obj)(mA:Str→Option Value),W.InstAt s.heap a ox C (some od)∧(∀name,W.lookIn name od=some (mA name))∧∀f,Mv (fs.lookup f) (mA f):=by
 obtain⟨⟨o,vs,e1,e2,e3,e4⟩,_,_⟩:=I.hok a _ h1
 obtain⟨mA,n,r⟩:=(show Et X.prog X.w H s.heap dx (.xd fs)from I.hok dx _ h2)
 obtain⟨od,e5,e6⟩:=Tj n
 have ne:dx≠a:=fun z=>by rw[z,h1]at h2;cases h2
 rw[if_neg ne]at e3
 exact⟨o,od,mA,⟨e1,e2,by unfold W.notCls;rw[e4],by rw[e3];exact e5⟩,e6,r⟩
theorem XC.instN{X:Cx}{pins:List (Addr×Obj)}{σ:St}{H:Hp}{s:Shared}{a C dx:Addr}{ns:List Str}{vs:List V}(I:Inv X pins σ H s)(h1:H a=some (.ext (exO a C dx)))(h2:H dx=some (.xd (ns.zip vs))∨dx=a∧ns=[]) :
  ∃(ox:Obj)(od:Option Obj),W.InstAt s.heap a ox C od:=by
 rcases h2 with h2|⟨h2,_⟩
 ·obtain⟨ox,od,_,J,_⟩:=XC.inst I h1 h2
  exact⟨ox,_,J⟩
 ·obtain⟨⟨o,vs,e1,e2,e3,e4⟩,_,_⟩:=I.hok a _ h1
  rw[if_pos h2]at e3
  exact⟨o,none,e1,e2,by unfold W.notCls;rw[e4],by rw[e3];trivial⟩
section
variable{X:Cx}{a b c e:Expr}{es:List Expr}{ta tb te:DTE}{tl:DTA}{pos:Pos}
theorem AdF:J2 X (.builtin "isinstance") (fun xs H Q=>∃c ns ds x A v,xs=[x,.ref A]∧Rp X.K H (.exc c ns ds) x∧Bd X.K c A v∧Q (.bl v) H):=by
 intro pins s σ H xs us Q I r ⟨c,ns,ds,x,A,v,e,rp,sx,q⟩
 subst e
 obtain⟨u,u2,rfl,r1,r2⟩:=vals2 r
 cases(show u2=.ref A from r2)
 obtain⟨a,C,U,dx,vs,rfl,h1,xc,h2,h3,_,_⟩:=Lg.mp rp
 cases(show u=.ref a from r1)
 obtain⟨ox,od,J⟩:=XC.instN I h2 h3
 exact W.kia_one (AiZ xc.xb) I.kIn ⟨ox,od,J⟩ (sx C h1) (fun z=>nomatch z) fun tk=>⟨.bl _,H,I.tok tk,rfl,q⟩
theorem Aa6:J2 X (.builtin "isinstance") (fun xs H Q=>∃c ns ds x t As v,xs=[x,.ref t]∧Rp X.K H (.exc c ns ds) x∧SqT X.K H t (As.map .ref)∧Hl X.K c As v∧Q (.bl v) H):=by
 intro pins s σ H xs us Q I r ⟨c,ns,ds,x,t,As,v,e,rp,ht,sx,q⟩
 subst e
 obtain⟨u,u2,rfl,r1,r2⟩:=vals2 r
 cases(show u2=.ref t from r2)
 obtain⟨a,C,U,dx,vs,rfl,h1,xc,h2,h3,_,_⟩:=Lg.mp rp
 cases(show u=.ref a from r1)
 obtain⟨ox,od,J⟩:=XC.instN I h2 h3
 obtain⟨its,rv,⟨o,k1,k2,n,k3⟩,_⟩:=I.tuple ht
 have ei:its=As.map .ref:=Zd rv
 subst ei
 obtain⟨oc,odd,dt,osl⟩:=o
 cases k2
 cases k3
 exact W.kia_tup (AiZ xc.xb) I.kIn ⟨ox,od,J⟩ k1 (by simpa using sx C h1) (fun z=>nomatch z) fun tk=>⟨.bl _,H,I.tok tk,rfl,q⟩
def Ac9(K:W.Frag):DL:=fun ds Q=>match ds with
 | [.exc c _ _,.fn A]=>∃v,Bd K c A v∧Q (.bl v)
 |_=>False
theorem Afj{K:W.Frag}:WR K (fun xs H Q=>∃c ns ds x A v,xs=[x,.ref A]∧Rp K H (.exc c ns ds) x∧Bd K c A v∧Q (.bl v) H) (Ac9 K) where
 mono:=fun hq h=>by
  unfold Ac9 at h ⊢
  split at h
  ·exact let ⟨v,h1,h2⟩:=h;⟨v,h1,hq _ h2⟩
  ·exact h.elim
 ok:=fun O H ds xs Q _ r h=>by
  unfold Ac9 at h
  split at h
  ·obtain⟨v,h1,h2⟩:=h
   obtain⟨x,xr,rfl,r1,r2⟩:=Bj.mp r
   obtain⟨y,yr,rfl,r3,r4⟩:=Bj.mp r2
   rw[BX.mp r4,AcD.mp r3]
   exact⟨_,_,_,x,_,v,rfl,r1.mono Bv,h1,h2 _ H (Same.refl H) (Fw.mpr rfl)⟩
  ·exact h.elim
def Wm(K:W.Frag):DL:=fun ds Q=>match ds with
 | [.exc c _ _,.tup es]=>∃As v,es=As.map .fn∧Hl K c As v∧Q (.bl v)
 |_=>False
theorem AdR{K:W.Frag}{H:Hp}:∀{As:List Addr} {vs:List V},RpL K H (As.map Dt.fn) vs→vs=As.map .ref
 | [],_,h=>BX.mp h
 | A::As,_,h=>by
  obtain⟨v,r,rfl,h1,h2⟩:=Bj.mp h
  rw[AdR h2,AcD.mp h1];rfl
theorem AcN{K:W.Frag}:WR K (fun xs H Q=>∃c ns ds x t As v,xs=[x,.ref t]∧Rp K H (.exc c ns ds) x∧SqT K H t (As.map .ref)∧Hl K c As v∧Q (.bl v) H) (Wm K) where
 mono:=fun hq h=>by
  unfold Wm at h ⊢
  split at h
  ·exact let ⟨As,v,h0,h1,h2⟩:=h;⟨As,v,h0,h1,hq _ h2⟩
  ·exact h.elim
 ok:=fun O H ds xs Q _ r h=>by
  unfold Wm at h
  split at h
  ·obtain⟨As,v,rfl,h1,h2⟩:=h
   obtain⟨x,xr,rfl,r1,r2⟩:=Bj.mp r
   obtain⟨y,yr,rfl,r3,r4⟩:=Bj.mp r2
   obtain⟨t,ys,rfl,q1,q2⟩:=Em.mp r3
   rw[BX.mp r4]
   rw[AdR q2]at q1
   exact⟨_,_,_,x,t,As,v,rfl,r1.mono Bv,Bv.mD q1,h1,h2 _ H (Same.refl H) (Fw.mpr rfl)⟩
  ·exact h.elim
theorem Lw{p:Pos}(hm:X.mg "isinstance"=none)(ha:DA X [a,b] tl)(hg:Gl X "isinstance":=by rfl)(hv:bootBuiltins "isinstance"=some (.builtin "isinstance"):=by rfl)(he:starEach [a,b] X.env=(false,eval a X.env)::starEach [b] X.env:=by rfl)
  (hpl:(backTo pos (starEach [b] X.env)).any (·.1)=false:=by rfl):DE X (.Call (.Name "isinstance" p) [a,b] [] pos) (dCB (Ac9 X.K) tl):=Ti AdF Afj hg hm hv ha (he:=he) (hpl:=hpl)
theorem Z1{p:Pos}(hm:X.mg "isinstance"=none)(ha:DA X [a,b] tl)(hg:Gl X "isinstance":=by rfl)(hv:bootBuiltins "isinstance"=some (.builtin "isinstance"):=by rfl)(he:starEach [a,b] X.env=(false,eval a X.env)::starEach [b] X.env:=by rfl)
  (hpl:(backTo pos (starEach [b] X.env)).any (·.1)=false:=by rfl):DE X (.Call (.Name "isinstance" p) [a,b] [] pos) (dCB (Wm X.K) tl):=Ti Aa6 AcN hg hm hv ha (he:=he) (hpl:=hpl)
theorem CW{x:Str}{A:Addr}{pos:Pos}(hm:X.mg x=some (.ref A))(hg:Gl X x:=by rfl)(hd:(x==("__debug__":Str))=false:=by decide):DE X (.Name x pos) (dC (.fn A)):=Ip (v:=.ref A) hg hm rfl (fun _=>AcD.mpr rfl) hd
theorem XC.value{K:W.Frag}{C U:Addr}(c:XC K C U):W.kitOne K (.ref C) (.type "ValueError")=some true:=by
 unfold W.kitOne
 rw[if_neg (by simp)]
 show(if W.kitMeta "ValueError"=true then W.mroIn K C (.type "ValueError")else none)=some true
 rw[if_pos (by decide +kernel),c.sub]
 simp
theorem AbS:J2 X (.builtin "isinstance") (fun xs H Q=>∃c ns ds x,xs=[x,.ty "ValueError"]∧Rp X.K H (.exc c ns ds) x∧Q (.bl true) H):=by
 intro pins s σ H xs us Q I r ⟨c,ns,ds,x,e,rp,q⟩
 subst e
 obtain⟨u,u2,rfl,r1,r2⟩:=vals2 r
 cases(show u2=.type "ValueError" from r2)
 obtain⟨a,C,U,dx,vs,rfl,h1,xc,h2,h3,_,_⟩:=Lg.mp rp
 cases(show u=.ref a from r1)
 obtain⟨ox,od,J⟩:=XC.instN I h2 h3
 exact W.kia_one (AiZ xc.xb) I.kIn ⟨ox,od,J⟩ xc.value (fun z=>nomatch z) fun tk=>⟨.bl _,H,I.tok tk,rfl,q⟩
def AmU(ta:DTE):DTE:=fun ρ Q=>ta ρ fun d=>match d with
 |.exc _ _ _=>Q (.bl true)
 |_=>False
theorem AiJ{p p2:Pos}(hm:X.mg "isinstance"=none)(hmT:X.mg "ValueError"=none)(ha:DE X a ta)(hg:Gl X "isinstance":=by rfl)(hgT:Gl X "ValueError":=by rfl)(hv:bootBuiltins "isinstance"=some (.builtin "isinstance"):=by rfl)
  (hvT:bootBuiltins "ValueError"=some (.type "ValueError"):=by rfl)
  (hs1:starEach [a,.Name "ValueError" p2] X.env=(false,eval a X.env)::starEach [.Name "ValueError" p2] X.env:=by rfl) (hs2:starEach [.Name "ValueError" p2] X.env=(false,eval (.Name "ValueError" p2) X.env)::starEach [] X.env:=by rfl)
  (hpl:(backTo pos (starEach [.Name "ValueError" p2] X.env)).any (·.1)=false:=by rfl):DE X (.Call (.Name "isinstance" p) [a,.Name "ValueError" p2] [] pos) (AmU ta) where
 mono:=fun hq h=>ha.mono (fun d h=>by
  split at h
  ·exact hq _ h
  ·exact h.elim) h
 pe:=(Wy AbS hg hm hv (Hu ha.pe (Hu (AgC (v:=.ty "ValueError") hgT hmT hvT rfl (by decide) (by decide)) T5 hs2) hs1) (he:=hs1) (hpl:=hpl)).imp fun σ H Q ⟨B,F,O,ρ,R,h⟩ =>
  ⟨B,F,O,ρ,R,ha.mono (fun d h v H1 s1 r1=>by
   split at h
   ·exact⟨_,_,_,v,rfl,r1.mono Bv,h _ H1 s1 (Fw.mpr rfl)⟩
   ·exact h.elim) h⟩
def AlT(K:W.Frag)(ta:TE)(f:Str):TE:=fun σ H Q=>ta σ H fun x H1=>∃a C U dx fs v,x=.ref a∧XC K C U∧W.findIn K (.ref C) f=some none∧H1 a=some (.ext (exO a C dx))∧H1 dx=some (.xd fs)∧fs.lookup f=some v∧Q v H1
theorem Af4{f:Str}{ta:TE}(he:PE X e ta)(hb:attributeBase e f X.env (eval e X.env)=eval e X.env:=by rfl):PE X (.Attribute e f pos) (AlT X.K ta f):=by
 intro pins s σ H Q I h
 refine YS hb (thn (he pins s σ H _ I h) fun u s1 ⟨x,H1,I1,rx,a,C,U,dx,fs,v,ex,xc,nf,h1,h2,l,q⟩=>?_)
 subst ex
 obtain rfl:u=Value.ref a:=rx
 obtain⟨ox,od,mA,J,lk,r⟩:=XC.inst I1 h1 h2
 obtain⟨cd,hc,_,hd⟩:=xc.cls
 have rf:=r f
 rw[l]at rf
 obtain⟨y,e1,e2⟩:=Mv.some_of rf
 exact AnR I1.kIn xc.xb J (W.findObj_own (by unfold W.hasDictIn;rw[hc];exact hd) nf rfl (by rw[lk,e1])) (Tq e2) ⟨v,H1,I1.tok _,e2,q⟩
theorem zip_get{K:W.Frag}{H:Hp}{f:Str}{d:Dt}:∀{ns:List Str} {ds:List Dt} {vs:List V},RpL K H ds vs→(ns.zip ds).lookup f=some d→∃v,(ns.zip vs).lookup f=some v∧Rp K H d v
 | [],_,_,_,h=>by simp at h
 |_::_,[],_,_,h=>by simp at h
 | n::ns,x::ds,_,r,h=>by
  obtain⟨v,vr,rfl,r1,r2⟩:=Bj.mp r
  rw[List.zip_cons_cons]at h ⊢
  by_cases q:f=n
  ·have hb:(f==n)=true:=beq_iff_eq.mpr q
   simp only[List.lookup,hb]at h ⊢
   cases h;exact⟨v,rfl,r1⟩
  ·have hb:(f==n)=false:=beq_eq_false_iff_ne.mpr q
   simp only[List.lookup,hb]at h ⊢
   exact zip_get r2 h
def AgP(K:W.Frag)(te:DTE)(f:Str):DTE:=fun ρ Q=>te ρ fun d=>match d with
 |.exc c ns ds=>HY K c f∧∃v,(ns.zip ds).lookup f=some v∧Q v
 |_=>False
theorem PJ{f:Str}(h:DE X e te)(hb:attributeBase e f X.env (eval e X.env)=eval e X.env:=by rfl):DE X (.Attribute e f pos) (AgP X.K te f) where
 mono:=fun hq z=>h.mono (fun d z=>by
  split at z
  ·exact let ⟨a,v,b,c⟩:=z;⟨a,v,b,hq _ c⟩
  ·exact z.elim) z
 pe:=(Af4 h.pe hb).imp fun σ H Q ⟨B,F,O,ρ,R,z⟩=>⟨B,F,O,ρ,R,h.mono (fun d z v H1 s1 r1=>by
  split at z
  ·obtain⟨na,y,ly,q⟩:=z
   obtain⟨a,C,U,dx,vs,rfl,h1,xc,h2,h3,_,h5⟩:=Lg.mp r1
   obtain⟨v,lv,rv⟩:=zip_get h5 ly
   have h3:=h3.resolve_right fun z=>by rw[z.2]at ly;cases ly
   exact⟨a,C,U,dx,_,v,rfl,xc,na C h1,Bv _ _ h2,Bv _ _ h3,lv,q v H1 s1 rv⟩
  ·exact z.elim) z⟩
def Ag5(t:Jq):DTS:=fun D ρ=>t ⟨D,fun _ _=>False⟩ ρ
theorem AfI{st:Stmt}{t:Jq}(h:DSX X st t):DS X st (Ag5 t) where
 mono:=fun{ρ D D'} hd z=>h.mono (D:=⟨D,fun _ _=>False⟩) ⟨hd,fun _ _ q=>q⟩ z
 ps:=h.ps.imp fun D σ H ⟨B,F,O,ρ,R,z⟩=>⟨B,F,O,ρ,R,h.mono (D:=⟨lD X.K B F D,fun _ _=>False⟩) ⟨⟨fun _ q=>q,fun _ q=>q,fun _ q=>q,fun _ q=>q⟩,fun _ _ q=>q.elim⟩ z⟩
end
structure XRT(K:W.Frag)(mg:Str→Option Value)(c:Str)(ns:List Str)(qual:Str)(st:Stmt)(C U fI:Addr)(fd:FuncData)(ps:List Str):Prop where
 at_:W.nsIn K mainGlobals c=some (some (.ref C))
 gl:mg c=some (.ref C)
 kp:W.keepIn K (.ref C)=true
 xc:XC K C U
 hi:W.findIn K (.ref C) "__init__"=some (some (.ref fI))
 hf:W.typeIn K (.ref fI)=some (.type "function")
 bd:Binds K fd ps []
 ln:ps.length=ns.length+1
 fn:Fun K "__init__" qual st fI fd
 tk:∀f∈ns,W.takerIn K C f=some none
theorem XRT.mk1{P:Program}{w:World}{K:W.Frag}{mg:Str→Option Value}{base:Heap}{k:Nat}{c qual:Str}{ns:List Str}{st:Stmt}{C U fI:Addr}{fd:FuncData}{ps:List Str}(R:XRT K mg c ns qual st C U fI fd ps)
  (h:El P w K mg base CX0 k fI fd ps (Ag4 C ns)):XR P w K mg base k c ns C U fI fd ps:=⟨R.at_,R.gl,R.kp,R.xc,R.hi,R.hf,R.bd,R.ln,h⟩
section
variable{K:W.Frag}{mg:Str→Option Value}{c T f:Str}{C U A:Addr}{cd:ClassData}
theorem Bd.self(h:W.nsIn K mainGlobals c=some (some (.ref C))):Bd K c C true:=fun C' e=>by
 rw[h]at e;cases e
 unfold W.kitOne
 rw[if_pos (by simp)]
theorem Bd.no(h:W.nsIn K mainGlobals c=some (some (.ref C)))(x:XC K C U)(z:W.clsIn K A=some cd)(t:W.typeIn K (.ref A)=some (.type "type"))(m:W.mroIn K C (.ref A)=some false):Bd K c A false:=fun C' e=>by
 rw[h]at e;cases e
 have ne:C≠A:=fun q=>by
  subst q
  rw[x.sub]at m
  simp at m
 unfold W.kitOne
 rw[if_neg (by simp[ne])]
 show(if((W.clsIn K A).isSome&&W.typeIn K (.ref A)==some (.type "type"))=true then W.mroIn K C (.ref A)else none)=some false
 rw[if_pos (by rw[z,t];simp),m]
theorem Under.mk(h:W.nsIn K mainGlobals c=some (some (.ref C)))(x:XC K C U)(m:mg T=some (.ref U)):Under K mg c T:=fun C' U' e y=>by
 rw[h]at e;cases e
 rw[x.uniq y]at m
 exact m
theorem HY.mk(h:W.nsIn K mainGlobals c=some (some (.ref C)))(n:W.findIn K (.ref C) f=some none):HY K c f:=fun C' e=>by
 rw[h]at e;cases e
 exact n
end
theorem Lz{O:List Addr}{H:Hp}{a:Addr}{o:HO}(h:a∈O):mask O (upd H a o)=mask O H:=by
 funext b
 by_cases q:b∈O
 ·rw[DR q,DR q]
 ·rw[Bh q,Bh q,Am (a:=a) (fun z=>q (by rw[z];exact h))]
theorem AcW{F O:List Addr}{H:Hp}{p:Addr}{o:HO}(h:H p=none):mask (F++(p::O)) (upd H p o)=mask (F++O) H:=by
 funext b
 by_cases e:b=p
 ·subst e
  rw[DR (List.mem_append_right _ List.mem_cons_self)]
  by_cases q:b∈F++O
  ·rw[DR q]
  ·rw[Bh q,h]
 ·by_cases q:b∈F++O
  ·rw[DR q,DR]
   rcases List.mem_append.mp q with q|q
   ·exact List.mem_append_left _ q
   ·exact List.mem_append_right _ (List.mem_cons_of_mem _ q)
  ·rw[Bh q,Bh,Am e]
   intro z
   rcases List.mem_append.mp z with z|z
   ·exact q (List.mem_append_left _ z)
   ·rcases List.mem_cons.mp z with z|z
    ·exact e z
    ·exact q (List.mem_append_right _ z)
section
variable{K:W.Frag}{B:Hp}{F O:List Addr}{H:Hp}{σ:St}{ρ:BW}
theorem Rep.aeQ(r:Rep K B F O H σ ρ)(i:Nat){p:Addr}{ds:List Dt}{xs:List V}(hp:H p=none)(h:RpL K (mask (F++O) H) ds xs):Rep K B F (p::O) (upd H p (.lst xs)) (σ.set i (some (.ref p))) (ρ.set i (some (.own ds))):=by
 have hl:=r.len
 have nF:p∉F:=fun z=>r.th p (List.mem_append_left _ z) hp
 have nO:p∉O:=fun z=>r.th p (List.mem_append_right _ z) hp
 have em:=AcW (F:=F) (O:=O) (o:=.lst xs) hp
 refine⟨by simpa using hl,r.base.trans (Same.upd hp),fun a h=>?_,fun a h e=>?_,fun j d q=>?_,fun j es q=>?_,fun j k es es' a h1 h2 h3 h4=>?_,fun j ks q=>?_,fun j k es es' a h1 h2 h3 h4=>?_,r.adH fun _ z=>by cases z⟩
 ·rcases List.mem_cons.mp h with rfl|h
  ·cases q:B a with
   |none=>rfl
   |some o=>rw[r.base a o q]at hp;cases hp
  ·exact r.fr a h
 ·by_cases z:a=p
  ·rw[z,Aw]at e;cases e
  ·rw[Am z]at e
   refine r.th a ?_ e
   rcases List.mem_append.mp h with h|h
   ·exact List.mem_append_left _ h
   ·exact List.mem_append_right _ ((List.mem_cons.mp h).resolve_left z)
 ·by_cases hj:j=i
  ·subst hj
   by_cases hk:j<ρ.length
   ·rw[List.getElem?_set_self hk]at q;cases q
   ·rw[List.getElem?_eq_none (by simpa using hk)]at q;cases q
  ·rw[List.getElem?_set_ne (Ne.symm hj)]at q ⊢
   rw[em];exact r.is j d q
 ·by_cases hj:j=i
  ·subst hj
   by_cases hk:j<ρ.length
   ·rw[List.getElem?_set_self hk]at q;cases q
    exact⟨p,xs,List.getElem?_set_self (by omega),List.mem_cons_self,nF,Aw,by rw[em];exact h⟩
   ·rw[List.getElem?_eq_none (by simpa using hk)]at q;cases q
  ·rw[List.getElem?_set_ne (Ne.symm hj)]at q ⊢
   obtain⟨a,ys,h1,h2,h3,h4,h5⟩:=r.own j es q
   exact⟨a,ys,h1,List.mem_cons_of_mem _ h2,h3,by rw[Am (a:=p) (fun z=>nO (by rw[←z];exact h2))];exact h4,by rw[em];exact h5⟩
 ·have other:∀(m:Nat) es,m≠i→(ρ.set i (some (.own ds)))[m]? = some (some (.own es))→(σ.set i (some (.ref p)))[m]? = some (some (.ref p))→False:=fun m es hm q1 q2=>by
   rw[List.getElem?_set_ne (Ne.symm hm)]at q1 q2
   obtain⟨b,_,e1,e2,_⟩:=r.own m es q1
   rw[e1]at q2
   cases q2
   exact nO e2
  by_cases hj:j=i
  ·by_cases hk:k=i
   ·rw[hj,hk]
   ·subst hj
    have:a=p:=by
     rw[List.getElem?_set_self (by
      have:=(List.getElem?_eq_some_iff.mp h1).1
      simp at this;omega)]at h3
     cases h3;rfl
    subst this
    exact(other k es' hk h2 h4).elim
  ·by_cases hk:k=i
   ·subst hk
    have:a=p:=by
     rw[List.getElem?_set_self (by
      have:=(List.getElem?_eq_some_iff.mp h2).1
      simp at this;omega)]at h4
     cases h4;rfl
    subst this
    exact(other j es hj h1 h3).elim
   ·rw[List.getElem?_set_ne (Ne.symm hj)]at h1 h3
    rw[List.getElem?_set_ne (Ne.symm hk)]at h2 h4
    exact r.inj j k es es' a h1 h2 h3 h4
 ·have hj:j≠i:=fun z=>by
   subst z
   by_cases hk:j<ρ.length
   ·rw[List.getElem?_set_self hk]at q;cases q
   ·rw[List.getElem?_eq_none (by simpa using hk)]at q;cases q
  rw[List.getElem?_set_ne (Ne.symm hj)]at q ⊢
  obtain⟨a,ys,h1,h2,h3,h4,h5⟩:=r.tab j ks q
  exact⟨a,ys,h1,List.mem_cons_of_mem _ h2,h3,by rw[Am (a:=p) (fun z=>nO (by rw[←z];exact h2))];exact h4,by rw[em];exact h5⟩
 ·have back:∀(m:Nat) ks,(ρ.set i (some (.own ds)))[m]? = some (some (.tab ks))→m≠i∧ρ[m]? = some (some (.tab ks)):=fun m ks q=>by
   have hm:m≠i:=fun z=>by
    subst z
    by_cases hk:m<ρ.length
    ·rw[List.getElem?_set_self hk]at q;cases q
    ·rw[List.getElem?_eq_none (by simpa using hk)]at q;cases q
   rw[List.getElem?_set_ne (Ne.symm hm)]at q;exact⟨hm,q⟩
  obtain⟨n1,q1⟩:=back j _ h1
  obtain⟨n2,q2⟩:=back k _ h2
  rw[List.getElem?_set_ne (Ne.symm n1)]at h3
  rw[List.getElem?_set_ne (Ne.symm n2)]at h4
  exact r.wO j k es es' a q1 q2 h3 h4
theorem Rep.aeR(r:Rep K B F O H σ ρ){i:Nat}{a:Addr}{ds es:List Dt}{xs ys:List V}(hi:ρ[i]? = some (some (.own ds)))(hs:σ[i]? = some (some (.ref a)))(ha:a∈O)(hH:H a=some (.lst xs))(h:RpL K (mask (F++O) H) es ys) :
  Rep K B F O (upd H a (.lst ys)) σ (ρ.set i (some (.own es))):=by
 have em:mask (F++O) (upd H a (.lst ys))=mask (F++O) H:=Lz (List.mem_append_right _ ha)
 have hk:i<ρ.length:=(List.getElem?_eq_some_iff.mp hi).1
 refine⟨by simpa using r.len,fun b o e=>?_,r.fr,fun b hb e=>?_,fun j d q=>?_,fun j ks q=>?_,fun j k es' ae9 b h1 h2 h3 h4=>?_,fun j ks q=>?_,fun j k es' ae9 b h1 h2 h3 h4=>?_,fun j v q=>r.raw j v (Ri (fun _ z=>by cases z) q).2⟩
 ·rw[Am fun z=>by rw[z,r.fr a ha]at e;cases e];exact r.base b o e
 ·by_cases z:b=a
  ·rw[z,Aw]at e;cases e
  ·rw[Am z]at e;exact r.th b hb e
 ·have hj:j≠i:=fun z=>by subst z;rw[List.getElem?_set_self hk]at q;cases q
  rw[List.getElem?_set_ne (Ne.symm hj)]at q
  rw[em];exact r.is j d q
 ·by_cases hj:j=i
  ·subst hj
   rw[List.getElem?_set_self hk]at q;cases q
   obtain⟨b,_,e1,e2,e3,_⟩:=r.own j ds hi
   rw[hs]at e1;cases e1
   exact⟨a,ys,hs,ha,e3,Aw,by rw[em];exact h⟩
  ·rw[List.getElem?_set_ne (Ne.symm hj)]at q
   obtain⟨b,zs,e1,e2,e3,e4,e5⟩:=r.own j ks q
   have nb:b≠a:=fun z=>by subst z;exact hj (r.inj j i ks ds b q hi e1 hs)
   exact⟨b,zs,e1,e2,e3,by rw[Am nb];exact e4,by rw[em];exact e5⟩
 ·have back:∀(m:Nat) ks,(ρ.set i (some (.own es)))[m]? = some (some (.own ks))→∃ks',ρ[m]? = some (some (.own ks')):=fun m ks q=>by
   by_cases hm:m=i
   ·subst hm;exact⟨ds,hi⟩
   ·rw[List.getElem?_set_ne (Ne.symm hm)]at q;exact⟨ks,q⟩
  obtain⟨_,q1⟩:=back j es' h1
  obtain⟨_,q2⟩:=back k ae9 h2
  exact r.inj j k _ _ b q1 q2 h3 h4
 ·have hj:j≠i:=fun z=>by subst z;rw[List.getElem?_set_self hk]at q;cases q
  rw[List.getElem?_set_ne (Ne.symm hj)]at q
  obtain⟨b,zs,e1,e2,e3,e4,e5⟩:=r.tab j ks q
  have nb:b≠a:=fun z=>by rw[z,hH]at e4;cases e4
  exact⟨b,zs,e1,e2,e3,by rw[Am nb];exact e4,by rw[em];exact e5⟩
 ·have back:∀(m:Nat) ks,(ρ.set i (some (.own es)))[m]? = some (some (.tab ks))→ρ[m]? = some (some (.tab ks)):=fun m ks q=>by
   have hm:m≠i:=fun z=>by subst z;rw[List.getElem?_set_self hk]at q;cases q
   rw[List.getElem?_set_ne (Ne.symm hm)]at q;exact q
  exact r.wO j k _ _ b (back j _ h1) (back k _ h2) h3 h4
theorem Rep.freeze(r:Rep K B F O H σ ρ){i:Nat}{ds:List Dt}(hi:ρ[i]? = some (some (.own ds))):∃O',Rep K B F O' H σ (ρ.set i (some (.is (.lst ds)))):=by
 obtain⟨a,xs,h1,h2,h3,h4,h5⟩:=r.own i ds hi
 have hk:i<ρ.length:=(List.getElem?_eq_some_iff.mp hi).1
 have sub:∀b∈F++O.filter (fun b=>decide (b≠a)),b∈F++O:=fun b hb=>by
  rcases List.mem_append.mp hb with hb|hb
  ·exact List.mem_append_left _ hb
  ·exact List.mem_append_right _ (List.mem_filter.mp hb).1
 have na:a∉F++O.filter (fun b=>decide (b≠a)):=fun z=>by
  rcases List.mem_append.mp z with z|z
  ·exact h3 z
  ·exact of_decide_eq_true (List.mem_filter.mp z).2 rfl
 refine⟨O.filter fun b=>decide (b≠a),by simpa using r.len,r.base,fun b hb=>r.fr b (List.mem_filter.mp hb).1,fun b hb=>r.th b (sub b hb),fun j d q=>?_,fun j es q=>?_,fun j k es es' b q1 q2 q3 q4=>?_,fun j ks q=>?_,fun j k es es' b q1 q2 q3 q4=>?_,fun j v q=>r.raw j v (Ri (fun _ z=>by cases z) q).2⟩
 ·by_cases hj:j=i
  ·subst hj
   rw[List.getElem?_set_self hk]at q;cases q
   exact⟨.ref a,h1,Mx ⟨a,xs,rfl,(by rw[Bh na];exact h4),h5.mono (FN sub)⟩⟩
  ·rw[List.getElem?_set_ne (Ne.symm hj)]at q
   obtain⟨v,e1,e2⟩:=r.is j d q
   exact⟨v,e1,e2.mono (FN sub)⟩
 ·have hj:j≠i:=fun z=>by subst z;rw[List.getElem?_set_self hk]at q;cases q
  rw[List.getElem?_set_ne (Ne.symm hj)]at q
  obtain⟨b,ys,e1,e2,e3,e4,e5⟩:=r.own j es q
  have nb:b≠a:=fun z=>by subst z;exact hj (r.inj j i es ds b q hi e1 h1)
  exact⟨b,ys,e1,List.mem_filter.mpr ⟨e2,decide_eq_true nb⟩,e3,e4,e5.mono (FN sub)⟩
 ·have nj:∀(m:Nat) ks,(ρ.set i (some (.is (.lst ds))))[m]? = some (some (.own ks))→ρ[m]? = some (some (.own ks)):=fun m ks q=>by
   have hm:m≠i:=fun z=>by subst z;rw[List.getElem?_set_self hk]at q;cases q
   rw[List.getElem?_set_ne (Ne.symm hm)]at q;exact q
  exact r.inj j k es es' b (nj j es q1) (nj k es' q2) q3 q4
 ·have hj:j≠i:=fun z=>by subst z;rw[List.getElem?_set_self hk]at q;cases q
  rw[List.getElem?_set_ne (Ne.symm hj)]at q
  obtain⟨b,ys,e1,e2,e3,e4,e5⟩:=r.tab j ks q
  have nb:b≠a:=fun z=>by rw[z,h4]at e4;cases e4
  exact⟨b,ys,e1,List.mem_filter.mpr ⟨e2,decide_eq_true nb⟩,e3,e4,e5.mono (FN sub)⟩
 ·have nj:∀(m:Nat) ks,(ρ.set i (some (.is (.lst ds))))[m]? = some (some (.tab ks))→ρ[m]? = some (some (.tab ks)):=fun m ks q=>by
   have hm:m≠i:=fun z=>by subst z;rw[List.getElem?_set_self hk]at q;cases q
   rw[List.getElem?_set_ne (Ne.symm hm)]at q;exact q
  exact r.wO j k es es' b (nj j es q1) (nj k es' q2) q3 q4
end
section
variable{X:Cx}{a b c e:Expr}{es:List Expr}{st:Stmt}{ta tb te:DTE}{tl:DTA}{t:DTS}{pos:Pos}
def Amg(i:Nat)(tl:DTA):DTS:=fun D ρ=>tl ρ fun ds=>ds.length≤sizeLine∧D.nx (ρ.set i (some (.own ds)))
theorem AdG(i:Nat){x:Str}{pos' lp:Pos}(hN:X.N.Nodup)(ha:DA X es tl)(hi:X.N[i]? = some x:=by rfl)(hx:Loc X.env.scope x:=by first | exact Or.inl rfl | exact Or.inr rfl)(hs:swapsWith (.List es lp) (some (.Name x pos')) pos.line X.env=pure false:=by rfl)
  (hf:X.fn x=true∨X.env.scope.names.lookup x=some .local:=by first|exact .inl rfl|exact .inr rfl|assumption):DS X (.Assign [.Name x pos'] (.List es lp) pos) (Amg i tl) where
 mono:=fun hd h=>ha.mono (fun ds ⟨h1,h2⟩=>⟨h1,hd.nx _ h2⟩) h
 ps:=(Xy hN hi hx (XF ha.pa) hs hf).imp fun D σ H ⟨B,F,O,ρ,R,h⟩=>⟨B,F,O,ρ,R,ha.mono (fun ds ⟨h1,h2⟩ vs H1 s1 r1=>⟨by rw[r1.len];exact h1,fun p hp=>h2 (p::O) _ _ ((R.same s1).aeQ i hp r1)⟩) h⟩
def ownAt(ρ:BW)(j:Nat)(k:List Dt→Prop):Prop:=match ρ[j]? with
 |some (some (.own ds))=>k ds
 |_=>False
theorem ownAt.mono{ρ:BW}{j:Nat}{k k':List Dt→Prop}(hk:∀ds,k ds→k' ds)(h:ownAt ρ j k):ownAt ρ j k':=by
 unfold ownAt at h ⊢
 split at h
 ·exact hk _ h
 ·exact h.elim
theorem ownAt.get{ρ:BW}{j:Nat}{k:List Dt→Prop}(h:ownAt ρ j k):∃ds,ρ[j]? = some (some (.own ds))∧k ds:=by
 unfold ownAt at h
 split at h
 ·rename_i ds e;exact⟨ds,e,h⟩
 ·exact h.elim
def AoR(j:Nat)(tb:DTE):DTE:=fun ρ Q=>ownAt ρ j fun ds=>tb ρ fun k=>match k with
 | .int i=>match ixL i ds with
  |some v=>Q v
  |none=>False
 |_=>False
def Aki(j:Nat)(te tb:DTE):DTS:=fun D ρ=>te ρ fun d=>ownAt ρ j fun ds=>tb ρ fun k=>match k with
 |.int i=>(0≤i∧i<ds.length)∧D.nx (ρ.set j (some (.own (ds.set i.toNat d))))
 |_=>False
def Ahd(j:Nat)(te:DTE):DTS:=fun D ρ=>ownAt ρ j fun ds=>te ρ fun d=>ds.length<sizeLine∧D.nx (ρ.set j (some (.own (ds++[d]))))
theorem Yu(j:Nat){x:Str}{px ap cp:Pos}(he:DE X e te)(hN:X.N[j]? = some x:=by rfl)(hv:Vis X.env.scope x:=by first | exact Or.inl rfl | exact Or.inr (Or.inl rfl) | exact Or.inr (Or.inr rfl))(hd:(x==("__debug__":Str))=false:=by decide)
  (hcd:(x==("__classdict__":Str))=false:=by decide) (hbase:attributeBase (.Name x px) "append" X.env (eval (.Name x px) X.env)=eval (.Name x px) X.env:=by rfl)
  (hfew:((backTo cp (starEach [e] X.env)).all (fun x=>!x.1)&&(backToKw cp (keywordEach [] X.env)).all (fun x=>x.1.isSome)&&decide ([e].length+([]:List Keyword).length+(if([]:List Keyword).isEmpty then 0 else 1)<30))=true:=by rfl)
  (hline:(ap.endLine==cp.line)=true:=by rfl) (hst:starEach [e] X.env=(false,eval e X.env)::starEach [] X.env:=by rfl) (hplain:(backTo cp (starEach [] X.env)).any (·.1)=false:=by rfl)
  (hs:swapsWith (.Call (.Attribute (.Name x px) "append" ap) [e] [] cp) none pos.line X.env=pure false:=by rfl):DS X (.Expr (.Call (.Attribute (.Name x px) "append" ap) [e] [] cp) pos) (Ahd j te) where
 mono:=fun hd h=>h.mono fun ds h=>he.mono (fun d h=>⟨h.1,hd.nx _ h.2⟩) h
 ps:=(Mq (Ahv PySem.F.plainAttrs_list PySem.F.slot_list_append PySem.F.type_list_append Nv (JC hN hv hd hcd) (Hu he.pe T5 hst) hbase hfew hline hst hplain) hs).imp fun D σ H ⟨B,F,O,ρ,R,h⟩=>by
  obtain⟨ds,e1,h⟩:=h.get
  obtain⟨a,xs,h1,h2,h3,h4,h5⟩:=R.own j ds e1
  refine⟨_,h1,.inl ⟨rfl,_,SqL.of h4⟩,B,F,O,ρ,R,he.mono (fun d h v H1 s1 r1=>?_) h⟩
  exact⟨a,xs,v,rfl,rfl,s1 _ _ h4,by rw[h5.len];exact h.1,h.2 O σ _ ((R.same s1).aeR e1 h1 h2 (s1 _ _ h4) ((h5.mono s1.mask).append (.cons r1 .nil)))⟩
def Al3(j:Nat)(t:DTS):DTS:=fun D ρ=>ownAt ρ j fun ds=>t D (ρ.set j (some (.is (.lst ds))))
theorem AdQ(j:Nat)(h:DS X st t):DS X st (Al3 j t) where
 mono:=fun hd z=>z.mono fun ds z=>h.mono hd z
 ps:=h.ps.imp fun D σ H ⟨B,F,O,ρ,R,z⟩=>by
  obtain⟨ds,e1,z⟩:=z.get
  obtain⟨O',R'⟩:=R.freeze e1
  exact⟨B,F,O',_,R',z⟩
def AkL(j:Nat):DTE:=fun ρ Q=>ownAt ρ j fun ds=>Q (.int ds.length)
def Ak1:D2:=fun a b Q=>match a with
 | .tup xs=>match b with
  |.tup ys=>(xs≠[]∧xs.length+ys.length≤sizeLine)∧Q (.tup (xs++ys))
  |_=>False
 |_=>False
end
section aeS
variable{X:Cx}{a b c e:Expr}{ta tb tc te:TE}{pos:Pos}
theorem AaR{op op' op2:CmpOp}{r r' r2:R2}(ho:OpR X (compareOp op) r)(ho':OpR X (compareOp op') r')(ho2:OpR X (compareOp op2) r2)(ha:PE X a ta)(hb:PE X b tb)(hc:PE X c tc)(he:PE X e te)
  (hm:lastMarks [op,op',op2] [b,c,e]=false:=by with_unfolding_all rfl):PT X (.Compare a [op,op',op2] [b,c,e] pos) (fun σ H Q=>ta σ H fun x H1=>tb σ H1 fun y H2=>r x y H2 fun z H3=>∃k,z=.bl k ∧
   (if k=true then tc σ H3 fun w' H4=>r' y w' H4 fun z H5=>∃k,z=.bl k∧(if k=true then te σ H5 fun y' H6=>r2 w' y' H6 fun z H7=>∃k,z=.bl k∧Q k H7 else Q false H5)else Q false H3)):=by
 intro pins s σ H Q I h
 refine isTrue_chain (thn (ha pins s σ H _ I h) fun v s1 ⟨x,H1,I1,r1,q1⟩=>test_link (thn (hb pins s1 σ H1 _ I1 q1) fun u s2 ⟨y,H2,I2,r2,q2⟩ =>
  thn (ho pins s2 σ H2 x y v u _ I2 r1 r2 q2) fun d s3 ⟨z,H3,I3,r3,k,e,q3⟩=>?_)) hm
 subst e
 cases r3
 refine wpAny_truthy_bool ?_
 cases k with
 |false=>exact ite_ff ⟨H3,I3,q3⟩
 | true =>
  refine ite_tt (test_link (thn (hc pins s3 σ H3 _ I3 q3) fun w' s4 ⟨z',H4,I4,r4,q4⟩=>thn (ho' pins s4 σ H4 y z' u w' _ I4 r2 r4 q4) fun d' s5 ⟨z2,H5,I5,r5,k2,e2,q5⟩=>?_))
  subst e2
  cases r5
  refine wpAny_truthy_bool ?_
  cases k2 with
  |false=>exact ite_ff ⟨H5,I5,q5⟩
  | true =>
   refine ite_tt (test_last (thn (he pins s5 σ H5 _ I5 q5) fun w2 s6 ⟨z3,H6,I6,r6,q6⟩=>thn (ho2 pins s6 σ H6 z' z3 w' w2 _ I6 r4 r6 q6) fun d' s7 ⟨z4,H7,I7,r7,k3,e3,q7⟩=>?_))
   subst e3
   cases r7
   exact wpAny_truthy_bool ⟨H7,I7,q7⟩
end aeS
def Aak(t t' t2:D2)(ta tb tc te:DTE):DTT:=fun ρ Q=>ta ρ fun a=>tb ρ fun b=>t a b fun z=>match z with
 | .bl k=>if k=true then tc ρ fun c=>t' b c fun z=>match z with
  | .bl k=>if k=true then te ρ fun e=>t2 c e fun z=>match z with
   |.bl k=>Q k
   |_=>False
   else Q false
  |_=>False
  else Q false
 |_=>False
section
variable{X:Cx}{a b c e:Expr}{ta tb tc te:DTE}{pos:Pos}
theorem Abj{op op' op2:CmpOp}{r r' r2:R2}{t t' t2:D2}(ho:OpR X (compareOp op) r)(ho':OpR X (compareOp op') r')(ho2:OpR X (compareOp op2) r2)(S:JX X.K r t)(S':JX X.K r' t')(S2:JX X.K r2 t2)(ha:DE X a ta)(hb:DE X b tb)(hc:DE X c tc)(he:DE X e te)
  (hm:lastMarks [op,op',op2] [b,c,e]=false:=by with_unfolding_all rfl):DT X (.Compare a [op,op',op2] [b,c,e] pos) (Aak t t' t2 ta tb tc te) where
 mono:=fun hq h=>ha.mono (fun _ h=>hb.mono (fun _ h=>S.mono (fun z h=>by
  split at h
  ·rename_i k
   cases k with
   | true =>
    refine hc.mono (fun _ h=>S'.mono (fun z h=>?_) h) h
    split at h
    ·rename_i k
     cases k with
     | true =>
      refine he.mono (fun _ h=>S2.mono (fun z h=>?_) h) h
      split at h
      ·exact hq _ h
      ·exact h.elim
     |false=>exact hq _ h
    ·exact h.elim
   |false=>exact hq _ h
  ·exact h.elim) h) h) h
 pt:=(AaR ho ho' ho2 ha.pe hb.pe hc.pe he.pe hm).imp fun σ H Q ⟨B,F,O,ρ,R,h⟩=>by
  refine⟨B,F,O,ρ,R,ha.mono (fun a h v H1 s1 r1=>⟨B,F,O,ρ,R.same s1,hb.mono (fun b h u H2 s2 r2=>?_) h⟩) h⟩
  refine S.ok _ H2 a b v u _ ((R.same s1).same s2).th (r1.mono s2.mask) r2 (S.mono (fun z h w H3 s3 r3=>?_) h)
  split at h
  ·rename_i k
   refine⟨k,Fw.mp r3,?_⟩
   have yR:=(s1.trans s2).trans s3
   cases k with
   |false=>exact h H3 yR
   | true =>
    refine⟨B,F,O,ρ,R.same yR,hc.mono (fun c h y H4 s4 r4=>?_) h⟩
    refine S'.ok _ H4 b c u y _ ((R.same yR).same s4).th ((r2.mono s3.mask).mono s4.mask) r4 (S'.mono (fun z h w H5 s5 r5=>?_) h)
    split at h
    ·rename_i k
     refine⟨k,Fw.mp r5,?_⟩
     have s5':=(yR.trans s4).trans s5
     cases k with
     |false=>exact h H5 s5'
     | true =>
      refine⟨B,F,O,ρ,R.same s5',he.mono (fun e h y2 H6 s6 r6=>?_) h⟩
      refine S2.ok _ H6 c e y y2 _ ((R.same s5').same s6).th ((r4.mono s5.mask).mono s6.mask) r6 (S2.mono (fun z h w H7 s7 r7=>?_) h)
      split at h
      ·exact⟨_,Fw.mp r7,h H7 ((s5'.trans s6).trans s7)⟩
      ·exact h.elim
    ·exact h.elim
  ·exact h.elim
end
end L2
namespace L2
open PySem Spec PyProof.Rows W
end L2
namespace L2
open PySem Spec PyProof.Rows
section
variable{X:Cx}{a b:Expr}{ta tb:DTE}{pos:Pos}
theorem Uo{K:W.Frag}{H:Hp}:∀{ns:List Int} {xs:List V},RpL K H (ns.map Dt.int) xs→xs=ns.map V.int
 | [],_,h=>by
  obtain rfl:=BX.mp h
  rfl
 | n::ns,_,h=>by
  obtain⟨v,r,rfl,r2,r3⟩:=Bj.mp h
  rw[Bl]at r2
  subst r2
  rw[Uo r3]
  rfl
def dIn:D2:=fun a b Q=>∃(i:Int)(ns:List Int),a=.int i∧b=.lst (ns.map Dt.int)∧Q (.bl (decide (i∈ns)))
def Zg(i:Nat)(te:DTE):DTS:=fun D ρ=>match ρ[i]? with
 | some (some (.is (.int a)))=>te ρ fun d=>match d with
  |.int b=>D.nx (ρ.set i (some (.is (.int (a+b)))))
  |_=>False
 |_=>False
theorem Af0(i:Nat){e:Expr}{te:DTE}{x:Str}{pos':Pos}(hN:X.N.Nodup)(he:DE X e te)(hi:X.N[i]? = some x:=by rfl)(hx:Loc X.env.scope x:=by first | exact Or.inl rfl | exact Or.inr rfl)
  (hf:X.fn x=true∨X.env.scope.names.lookup x=some .local:=by first|exact .inl rfl|exact .inr rfl|assumption):DS X (.AugAssign (.Name x pos') .Add e pos) (Zg i te) where
 mono:=fun{ρ D D'} hd h=>by
  unfold Zg at *
  match hq:ρ[i]?,h with
  | some (some (.is (.int a))),h =>
   refine he.mono (fun d q=>?_) h
   match d,q with
   |.int b,q=>exact hd.nx _ q
 ps:=(Ajm hN hi hx he.pe AhN hf).imp fun D σ H ⟨B,F,O,ρ,R,h⟩=>by
  unfold Zg at h
  match hq:ρ[i]?,h with
  | some (some (.is (.int a))),h =>
   obtain⟨v,e1,r⟩:=R.is i _ hq
   rw[Bl]at r
   subst r
   refine⟨_,e1,B,F,O,ρ,R,he.mono (fun d q v H1 s1 r1=>?_) h⟩
   match d,q,r1 with
   | .int b,q,r1 =>
    rw[Bl]at r1
    subst r1
    exact⟨a,b,rfl,rfl,q O _ H1 ((R.same s1).set i (Bl.mpr rfl))⟩
def Alv(i j k:Nat)(tl:DTA):DTS:=fun D ρ=>tl ρ fun ds=>match ds with
 | [d,e,f]=>D.nx (((ρ.set i (some (.is d))).set j (some (.is e))).set k (some (.is f)))
 |_=>False
end
open PySem.SeqAt
mutual
def Dt.noL:Nat→Dt→Bool
 |_,.non=>true
 |_,.bl _=>true
 |_,.int _=>true
 |_,.str _=>true
 |0,_=>false
 |n+1,.tup ds=>Dt.yS n ds
 |_,_=>false
def Dt.yS:Nat→List Dt→Bool
 |_,[]=>true
 |n,d::ds=>Dt.noL n d&&Dt.yS n ds
end
theorem Ajj{n:Nat}{d:Dt}{r:List Dt}:Dt.yS n (d::r)=(Dt.noL n d&&Dt.yS n r):=by rw[Dt.yS]
theorem Alu{n:Nat}{r:List Dt}:Dt.noL (n+1) (.tup r)=Dt.yS n r:=by rw[Dt.noL]
def Keep(M M':Hp):Prop:=∀b o,M b=some o→(∀xs,o≠.lst xs)→M' b=some o
mutual
theorem Ajk{K:W.Frag}{M M':Hp}(k:Keep M M'):∀(n:Nat)(d:Dt)(v:V),d.noL n=true→Rp K M d v→Rp K M' d v
 |_,.non,_,_,r=>by rw[QG]at r ⊢;exact r
 |_,.bl _,_,_,r=>by rw[Fw]at r ⊢;exact r
 |_,.int _,_,_,r=>by rw[Bl]at r ⊢;exact r
 |_,.str _,_,_,r=>by rw[Xq]at r ⊢;exact r
 |0,.tup _,_,h,_=>by simp[Dt.noL]at h
 | n+1,.tup ds,_,h,r=>by
  rw[Alu]at h
  obtain⟨a,xs,e,q,r⟩:=Em.mp r
  refine Em.mpr ⟨a,xs,e,?_,Aav k n ds xs h r⟩
  rcases q with(q|⟨o,q⟩)|q
  ·exact .inl (.inl (k _ _ q fun _=>by simp))
  ·exact .inl (.inr ⟨o,k _ _ q fun _=>by simp⟩)
  ·exact .inr q
 |0,.lst _,_,h,_=>by simp[Dt.noL]at h
 |_+1,.lst _,_,h,_=>by simp[Dt.noL]at h
 |0,.fn _,_,h,_=>by simp[Dt.noL]at h
 |_+1,.fn _,_,h,_=>by simp[Dt.noL]at h
 |0,.exc _ _ _,_,h,_=>by simp[Dt.noL]at h
 |_+1,.exc _ _ _,_,h,_=>by simp[Dt.noL]at h
 |0,.obj _ _ _,_,h,_=>by simp[Dt.noL]at h
 |_+1,.obj _ _ _,_,h,_=>by simp[Dt.noL]at h
theorem Aav{K:W.Frag}{M M':Hp}(k:Keep M M'):∀(n:Nat)(ds:List Dt)(vs:List V),Dt.yS n ds=true→RpL K M ds vs→RpL K M' ds vs
 |_,[],_,_,r=>by rw[BX]at r ⊢;exact r
 | n,d::ds,_,h,r=>by
  rw[Ajj,Bool.and_eq_true]at h
  obtain⟨v,w,rfl,r1,r2⟩:=Bj.mp r
  exact Bj.mpr ⟨v,w,rfl,Ajk k n d v h.1 r1,Aav k n ds w h.2 r2⟩
end
theorem RpL.aeI{K:W.Frag}{H:Hp}:∀{ds:List Dt} {vs:List V} {d:Dt},RpL K H ds vs→d∈ds→∃v∈vs,Rp K H d v
 | [],_,_,_,h=>by simp at h
 | d::ds,_,e,r,h=>by
  obtain⟨v,w,rfl,r1,r2⟩:=Bj.mp r
  rcases List.mem_cons.mp h with h|h
  ·subst h;exact⟨v,List.mem_cons_self,r1⟩
  ·obtain⟨u,h1,h2⟩:=RpL.aeI r2 h
   exact⟨u,List.mem_cons_of_mem _ h1,h2⟩
def AmE:Option HO→Bool
 |some (.lst _)=>true
 |_=>false
def lists(H:Hp)(n:Nat):List Addr:=(List.range n).filter fun a=>AmE (H a)
section
variable{X:Cx}{a b c e:Expr}{es:List Expr}{st:Stmt}{ta tb te:DTE}{tl:DTA}{tA:DTT}{t:DTS}{pos:Pos}
def AiP(i:Nat)(sp:DSp)(tl:DTA):DTS:=fun D ρ=>tl ρ fun ds=>Dt.yS 4 ds=true∧sp ds fun d=>∃ks,d=.lst ks∧(∃r,Dt.tup r∈ks)∧Dt.yS 4 ks=true∧D.nx (ρ.set i (some (.own ks)))
def AjS(j:Nat)(t:DTT):DTT:=fun ρ Q=>ownAt ρ j fun ds=>t (ρ.set j (some (.is (.lst ds)))) Q
def Ajs(j:Nat):DTE:=fun ρ Q=>ownAt ρ j fun ds=>Q (.lst ds)
end
end L2
namespace L2
open PySem Spec PyProof.Rows W Builtin Builtin.ObjectAttr
section
variable{prog:Program}{w:World}{A:Around}{E:Value→Shared→Prop}{s:Shared}{K:W.Frag}{C U x dx:Addr}{name:Str}{v:Value}
theorem AkH{Q:Unit→Shared→Prop}{vs:Array Value}{sl:Array (Option Value)}{m:Str→Option Value}{ns:List Str}(X:K.In s.heap)(c:XC K C U)(ht:takerIn K C name=some none)(hx:s.heap.get? x=some ⟨.ref C,some dx,.fields vs,sl⟩)
  (hn:s.heap.Ns1 dx m) (wi:PySem.Within m ns) (hl:ns.length≤1000)
  (h:∀h' tk',h'.Ns1 dx (fun y=>if y=name then some v else m y)→(∀b o,b≠dx→s.heap.get? b=some o→h'.get? b=some o)→Q () {s with heap:=h',toks:=tk'}) :
  wpAny (model prog w) A (setAttr (.ref x) name v) Q E s:=by
 obtain⟨oD0,es0,ep0,ho0,agx⟩:=id hn
 have I:InstAt s.heap x ⟨.ref C,some dx,.fields vs,sl⟩ C (some oD0):=⟨hx,rfl,rfl,ho0⟩
 refine set_plain X I c.sa (Acy (s:={s with toks:=s.toks+1}) X c I ht fun b=>?_)
 obtain⟨cd,hc,hm,hd⟩:=c.cls
 refine wpAny_bind (wpAny_pure (wpAny_bind ?_))
 show wpAny _ _ (instanceDict x true) _ _ _
 unfold instanceDict
 refine wpAny_bind (wpAny_loadPart hx ?_)
 dsimp only
 refine wpAny_bind ((looks_clsIn X hc).here (s:={s with toks:=s.toks+1}) ?_)
 rw[hd]
 refine wpAny_pure ?_
 show wpAny _ _ (storeInDict dx (.str name _) name v) _ _ _
 unfold storeInDict newKeyGuard
 refine wpAny_bind (wpAny_pure (wpAny_bind (wpAny_nsSet1 (s:={s with toks:=s.toks+1}) hn fun h' hn' hs=>?_)))
 obtain⟨oD,esD,epD,hoD,hdD,hcD⟩:=hn'.count (Within.cons name v wi)
 refine wpAny_bind (wpAny_lookBehind hoD (by rw[hdD];exact pastItsLine_dict (Nat.le_trans hcD (by rw[List.length_cons,sizeLine_eq];omega))) ?_)
 exact wpAny_pure (h h' _ hn' fun b o nb hb=>(hs.2 b nb).trans hb)
end
section
variable{X:Cx}{pins:List (Addr×Obj)}{σ:St}{H:Hp}{s:Shared}{h':Heap}{a dx C U f fI:Addr}
theorem Inv.afa{fs fs':List (Str×V)}{t':Nat}(I:Inv X pins σ H s)(Hd:H dx=some (.xd fs))(k:∀b u,b≠dx→s.heap.get? b=some u→h'.get? b=some u)(hd:∃u,h'.get? dx=some u)
  (n:Et X.prog X.w (upd H dx (.xd fs')) h' dx (.xd fs')):Inv X pins σ (upd H dx (.xd fs')) {s with heap:=h',toks:=t'}:=by
 have mJ:∀b u,H b=some u→b≠dx→upd H dx (.xd fs') b=some u:=fun b u e n=>by rw[Am n];exact e
 have nt:∀b u,H b=none→s.heap.get? b=some u→b≠dx:=fun b u n _ z=>by rw[z,Hd]at n;cases n
 refine I.un ⟨fun b u e n _ _=>k b u (nt b u n e) e,fun b u e n _ _=>⟨u.slots,k b u (nt b u n e) e⟩,fun b u e n _=>?_,fun b u e _=>?_,fun b xs e=>mJ b _ e fun z=>(by rw[z,Hd]at e;cases e),fun b o u e=>mJ b _ e fun z=>(by rw[z,Hd]at e;cases e),fun b ps e=>⟨#[],by rw[mJ b _ e fun z=>by rw[z,Hd]at e;cases e];simp⟩⟩ ?_
 ·rw[Am (nt b u n e)];exact n
 ·by_cases z:b=dx
  ·rw[z];exact hd
  ·exact⟨u,k b u z e⟩
 ·intro b u e
  by_cases z:b=dx
  ·subst z;rw[Aw]at e;cases e;exact n
  ·rw[Am z]at e
   refine(I.hok b u e).stay (fun c v hc q=>k c v ?_ q) (fun c q=>mJ c _ q fun w=>by rw[w,Hd]at q;cases q) fun c xs q=>mJ c _ q fun w=>by rw[w,Hd]at q;cases q
   rcases hc with rfl|hc
   ·exact z
   ·rintro rfl;rw[Hd]at hc;cases hc
def sX2(C:Addr)(ta tv:TE)(f:Str):TS:=fun D σ H=>tv σ H fun y H1=>ta σ H1 fun x H2=>∃a dx fs,x=.ref a∧H2 a=some (.ext (exF a C dx))∧H2 dx=some (.xd fs)∧fs.length≤1000∧fs.lookup f=none∧D.nx σ (upd H2 dx (.xd (fs++[(f,y)])))
theorem QS{f g:Str}{y:V}:∀{fs:List (Str×V)},fs.lookup f=none→(fs++[(f,y)]).lookup g=if g=f then some y else fs.lookup g
 | [],_=>by
  by_cases q:g=f
  ·rw[if_pos q];simp[List.lookup,q]
  ·rw[if_neg q];simp[List.lookup,beq_eq_false_iff_ne.mpr q]
 | (k,z)::fs,h=>by
  have nk:(f==k)=false:=by
   cases e:f==k with
   |false=>rfl
   |true=>simp[List.lookup,e]at h
  have h2:fs.lookup f=none:=by simpa [List.lookup,nk] using h
  have ih:=QS (g:=g) (y:=y) h2
  cases e:g==k with
  | true =>
   have:¬g=f:=fun q=>by
    rw[q,nk]at e
    cases e
   rw[if_neg this]
   simp[List.lookup,e]
  | false =>
   simp only[List.cons_append,List.lookup,e]
   exact ih
theorem lookup_mem{g:Str}:∀{fs:List (Str×V)},fs.lookup g≠none→g∈fs.map (·.1)
 | [],h=>absurd rfl h
 | (k,z)::fs,h=>by
  cases e:g==k with
  |true=>rw[List.map_cons,beq_iff_eq.mp e];exact List.mem_cons_self
  | false =>
   have:fs.lookup g≠none:=by simpa [List.lookup,e] using h
   rw[List.map_cons]
   exact List.mem_cons_of_mem _ (lookup_mem this)
theorem Amr{o value:Expr}{f:Str}{pos pos':Pos}{ta tv:TE}(c:XC X.K C U)(ht:W.takerIn X.K C f=some none)(ha:PE X o ta)(hv:PE X value tv)(hs:swapsWith value (some (.Attribute o f pos')) pos.line X.env=pure false:=by rfl) :
  PS X (.Assign [.Attribute o f pos'] value pos) (sX2 C ta tv f):=by
 intro pins s σ H D I h
 refine plainObj_wpAny_Assign_Attribute (thn (hv pins s σ H _ I h) fun u s1 ⟨y,H1,I1,ry,q⟩=>thn (ha pins s1 σ H1 _ I1 q) fun ov s2 ⟨x,H2,I2,rx,a,dx,fs,ex,ea,ed,fl,fn,q2⟩=>?_) hs
 subst ex
 obtain rfl:ov=Value.ref a:=rx
 obtain⟨⟨vs,sl,hx,h1,nx⟩,_,_⟩:=I2.hok a _ ea
 obtain⟨mA,hn,hm⟩:=(show Et X.prog X.w H2 s2.heap dx (.xd fs)from I2.hok dx _ ed)
 have wi:PySem.Within mA (fs.map (·.1)):=fun g hg=>lookup_mem fun z=>hg (by
  have:=hm g
  rw[z]at this
  cases q:mA g with
  |none=>rfl
  |some w=>rw[q]at this;exact this.elim)
 refine AkH I2.kIn c ht hx hn wi (by rw[List.length_map];exact fl) fun h' tk' x1 x2=>⟨σ,_,I2.afa (fs':=fs++[(f,y)]) (t':=tk') ed x2 (let ⟨o,_,_,e,_⟩:=x1;⟨o,e⟩) ⟨_,x1,fun g=>?_⟩,q2⟩
 rw[QS fn]
 show Mv _ (if g=f then some u else mA g)
 by_cases q:g=f
 ·rw[if_pos q,if_pos q];exact ry
 ·rw[if_neg q,if_neg q];exact hm g
theorem AbO{H:Hp}{a dx:Addr}{o u v:HO}(n:dx≠a):upd (upd (upd H dx o) a u) dx v=upd (upd H dx v) a u:=by
 funext b
 by_cases h1:b=dx
 ·subst h1;rw[Aw,Am n,Aw]
 ·by_cases h2:b=a
  ·subst h2;rw[Am h1,Aw,Aw]
  ·rw[Am h1,Am h2,Am h1,Am h2,Am h1]
end
end L2
namespace L2
open PySem Spec PyProof.Rows SeqAt
abbrev RQ:=BW→(List Dt→Prop)→(Dt→Prop)→Prop
def lAX(X:Cx)(t:RQ):TA:=fun σ H Q=>∃B F O ρ,Rep X.K B F O H σ ρ∧t ρ (fun ds=>∀vs H',Same H H'→RpL X.K (mask (F++O) H') ds vs→Q vs H') (fun x=>∀a H',Same H H'→Rp X.K (mask (F++O) H') x (.ref a)→QC X σ a H')
structure DAX(X:Cx)(es:List Expr)(t:RQ):Prop where
 mono:∀{ρ Q Q' E E'},(∀d,Q d→Q' d)→(∀d,E d→E' d)→t ρ Q E→t ρ Q' E'
 pa:PA X es (lAX X t)
section
variable{X:Cx}{e:Expr}{es:List Expr}{te:JZ}{tl:DTA}{tx:RQ}{pos:Pos}
def Ac6(te:JZ)(tl:DTA):RQ:=fun ρ Q E=>te ρ (fun d=>tl ρ fun ds=>Q (d::ds)) E
theorem Adg(ha:DEX X e te)(hr:DA X es tl)(hs:starEach (e::es) X.env=(false,eval e X.env)::starEach es X.env:=by rfl):DAX X (e::es) (Ac6 te tl) where
 mono:=fun hq hx h=>ha.mono (fun d h=>hr.mono (fun ds h=>hq _ h) h) hx h
 pa:=(Hu ha.pe hr.pa hs).imp fun σ H Q ⟨B,F,O,ρ,R,q⟩=>⟨B,F,O,ρ,R,ha.mono (fun d h v H1 s1 r1=>⟨B,F,O,ρ,R.same s1,hr.mono (fun ds h vs H2 s2 r2 =>
  h (v::vs) H2 (s1.trans s2) (RpL.cons (r1.mono s2.mask) r2)) h⟩) (fun x h=>h) q⟩
def AiN(sp:DSp)(tx:RQ):JZ:=fun ρ Q E=>tx ρ (fun ds=>sp ds Q) E
end
section
variable{prog:Program}{w:World}{A:Around}{I S:Addr}{fp wr:List Addr}{n:Nat}{P:Nat→Value→Prop}{St:Nat→Heap→Prop}{bt:Nat→Nat→Bool}{R:Result→Shared→Prop}
def Mr(wr:List Addr)(S:Addr)(h h':Heap):Prop:=∀b o,b∉wr→b≠S→h.get? b=some o→h'.get? b=some o
def YK(prog:Program)(w:World)(A:Around)(wr:List Addr)(S:Addr)(h:Heap)(P:Nat→Value→Prop)(bt:Nat→Nat→Bool):Prop :=
 ∀(i j:Nat)(x y:Value)(s:Shared)(Q:Value→Shared→Prop)(E:Value→Shared→Prop),Mr wr S h s.heap→P i x→P j y→Q (.bool (bt i j)) s→wpAny (model prog w) A (richCompare .Lt x y) Q E s
theorem Xc:(toString "min"++toString ".loop":String)="min.loop":=by decide
theorem Ys{h0:Heap}(W:Walks prog w A.in1 I fp wr n P St)(less:YK prog w A.in1 wr S h0 P bt)(off:S∉fp) :
  ∀(left at':Nat)(s:Shared)(best:Value)(c:Nat),n=at'+1+left→St (at'+1) s.heap→P (argBest bt at') best→Mr wr S h0 s.heap →
   s.heap.get? S=some ⟨.type "list",none,.seq #[best,best] c,#[]⟩ →
   (∀v h' tk,P (argBest bt (n-1)) v→Mr wr S s.heap h'→R (.ok (.ret v)) {s with heap:=h',toks:=tk}) →
   codeAny (model prog w) A (.builtin "min.loop" ⟨[.ref I,.none,.ref S],[]⟩) R s:=by
 have off':S∉wr:=fun z=>off (W.sub _ z)
 have nm:=Xc
 intro left
 induction left with
 | zero =>
  intro at' s best c hn st hb hk hS fin
  have e:at'+1=n:=by omega
  refine codeAny_builtin F.entry_min_loop ?_;rw[Around.under_plainId F.plain_min_loop _];show wpAny _ A.in1 (seqItems? (.ref S) >>= _) _ _ s
  refine wpAny_bind (wpAny_seqItems hS rfl ?_);show wpAny _ A.in1 (tryCatch (pyNext (.ref I)) _ >>= _) _ _ s
  refine wpAny_bind (wpAny_tryCatch (W.done s _ _ (e ▸ st) fun h1 tk k1=>?_))
  show wpAny _ A.in1 (updateSeq S (fun _=>#[]) >>= _) _ _ _;refine wpAny_bind (wpAny_updateSeq (k1 S _ off' hS) rfl (wpAny_bind (wpAny_letGo (wpAny_pure ?_))))
  exact fin best _ tk (by rw[←e];exact hb) fun b o nb ns eo=>(Heap.get?_update_other _ _ (Ne.symm ns)).trans (k1 b o nb eo)
 | succ left ih =>
  intro at' s best c hn st hb hk hS fin
  refine codeAny_builtin F.entry_min_loop ?_;rw[Around.under_plainId F.plain_min_loop _];show wpAny _ A.in1 (seqItems? (.ref S) >>= _) _ _ s
  refine wpAny_bind (wpAny_seqItems hS rfl ?_);show wpAny _ A.in1 (tryCatch (pyNext (.ref I)) _ >>= _) _ _ s
  refine wpAny_bind (wpAny_tryCatch (W.item (at'+1) s _ _ (by omega) st fun v h1 tk hv st1 k1=>?_))
  have hS1:=k1 S _ off' hS
  have hk1:Mr wr S h0 h1:=fun b o nb ns eo=>k1 b o nb (hk b o nb ns eo)
  show wpAny _ A.in1 (tryCatch (holding [v,v] (richCompare .Lt v best >>= _)) _ >>= _) _ _ _
  refine wpAny_bind (wpAny_tryCatch (wpAny_holding (wpAny_bind (less (at'+1) (argBest bt at') v best _ _ _ hk1 hv hb ?_))))
  refine wpAny_bind (wpAny_holding (wpAny_truthy_bool ?_));refine wpAny_bind (wpAny_letGo (wpAny_pure ?_))
  cases hbt:bt (at'+1) (argBest bt at')with
  | true =>
   simp only[if_true]
   refine wpAny_bind (wpAny_updateSeq hS1 rfl (wpAny_bind (wpAny_letGo ?_)))
   rw[nm]
   refine wpAny_pure ⟨plainId_quiet F.plain_min_loop _,ih (at'+1) _ v _ (by omega) (W.frame _ _ _ st1 fun b hbf o eo=>(Heap.get?_update_other _ _ (fun z:S=b=>off (z ▸ hbf))).trans eo) (by simp only[argBest,hbt,if_true];exact hv) (fun b o nb ns eo=>(Heap.get?_update_other _ _ (Ne.symm ns)).trans (hk1 b o nb ns eo)) (Heap.get?_update_self _ hS1 rfl) fun v' h2 tk2 hv' k2=>?_⟩
   exact fin v' h2 tk2 hv' fun b o nb ns eo=>k2 b o nb ns ((Heap.get?_update_other _ _ (Ne.symm ns)).trans (k1 b o nb eo))
  | false =>
   simp only[Bool.false_eq_true,if_false]
   refine wpAny_bind (wpAny_letGo ?_)
   rw[nm]
   refine wpAny_pure ⟨plainId_quiet F.plain_min_loop _,ih (at'+1) _ best c (by omega) st1 (by simp only[argBest,hbt,Bool.false_eq_true,if_false];exact hb) hk1 hS1 fun v' h2 tk2 hv' k2=>?_⟩
   exact fin v' h2 tk2 hv' fun b o nb ns eo=>k2 b o nb ns (k1 b o nb eo)
theorem Wu{s:Shared}{c:Nat}(W:Walks prog w A.in1 I fp wr n P St)(less:YK prog w A.in1 wr S s.heap P bt)(off:S∉fp)(n0:0<n)(st:St 0 s.heap)(hS:s.heap.get? S=some ⟨.type "list",none,.seq #[] c,#[]⟩)
  (fin:∀v h' tk,P (argBest bt (n-1)) v→Mr wr S s.heap h'→R (.ok (.ret v)) {s with heap:=h',toks:=tk}):codeAny (model prog w) A (.builtin "min.loop" ⟨[.ref I,.none,.ref S],[]⟩) R s:=by
 have off':S∉wr:=fun z=>off (W.sub _ z)
 refine codeAny_builtin F.entry_min_loop ?_;rw[Around.under_plainId F.plain_min_loop _];show wpAny _ A.in1 (seqItems? (.ref S) >>= _) _ _ s
 refine wpAny_bind (wpAny_seqItems hS rfl ?_);show wpAny _ A.in1 (tryCatch (pyNext (.ref I)) _ >>= _) _ _ s
 refine wpAny_bind (wpAny_tryCatch (W.item 0 s _ _ n0 st fun v h1 tk hv st1 k1=>?_))
 have hS1:=k1 S _ off' hS
 show wpAny _ A.in1 (updateSeq S (fun _=>#[v,v]) >>= _) _ _ _;refine wpAny_bind (wpAny_updateSeq hS1 rfl ?_);rw[Xc]
 refine wpAny_pure ⟨plainId_quiet F.plain_min_loop _,Ys (h0:=s.heap) W less off (n-1) 0 _ v _ (by omega) (W.frame _ _ _ st1 fun b hbf o eo=>(Heap.get?_update_other _ _ (fun z:S=b=>off (z ▸ hbf))).trans eo) hv (fun b o nb ns eo=>(Heap.get?_update_other _ _ (Ne.symm ns)).trans (k1 b o nb eo)) (Heap.get?_update_self _ hS1 rfl) fun v' h2 tk2 hv' k2=>?_⟩
 exact fin v' h2 tk2 hv' fun b o nb ns eo=>k2 b o nb ns ((Heap.get?_update_other _ _ (Ne.symm ns)).trans (k1 b o nb eo))
theorem Vw{E:Value→Shared→Prop}{s:Shared}{x:Value}{Q:Value→Shared→Prop}
  (h:wpAny (model prog w) A.in1 (pyIter x) (fun it s2=>∃I fp wr n P St bt,it=.ref I∧Walks prog w A.in1 I fp wr n P St∧St 0 s2.heap∧(∀b∈fp,b<s2.heap.objs.size)∧0<n ∧
   (∀h1:Heap,(∀b o,s2.heap.get? b=some o→h1.get? b=some o)→YK prog w A.in1 wr s2.heap.objs.size h1 P bt) ∧
   ∀v h' tk,P (argBest bt (n-1)) v→(∀b o,b∉wr→s2.heap.get? b=some o→h'.get? b=some o)→Q v {s2 with heap:=h',toks:=tk}) E s) :
  wpAny (model prog w) A (call (.builtin "min") [x]) Q E s:=by
 refine call_function_tree F.kind_min F.plain_min F.entry_min (F.args_min1 _) ?_;show wpAny _ A.in1 (Builtin.Builtins.bindParams "min" ["key","default"] 0 ⟨[],[]⟩ >>= _) _ _ s
 refine wpAny_bind (wpAny_of_eq (show Builtin.Builtins.bindParams "min" ["key","default"] 0 ⟨[],[]⟩=pure [none,none]from rfl) ?_);refine wpAny_bind (wpAny_pure ?_)
 refine wpAny_bind (wpAny_mono h (fun it s2 h2=>?_) fun _ _ z=>z);obtain⟨I,fp,wr,n,P,St,bt,rfl,W,st,low,n0,less,fin⟩:=h2
 refine wpAny_bind (wpAny_newObj_type ?_);rw[Xc]
 have off:s2.heap.objs.size∉fp:=fun z=>Nat.lt_irrefl _ (low _ z)
 refine wpAny_pure ⟨plainId_quiet F.plain_min_loop _,Wu W (less _ fun b o e=>Heap.get?_push_of_some _ e) off n0 (W.frame _ _ _ st fun b _ o e=>Heap.get?_push_of_some _ e) (Heap.get?_push_size _ rfl) fun v h' tk hv k=>?_⟩
 exact fin v h' tk hv fun b o nb e=>k b o nb (Nat.ne_of_lt (Heap.lt_size e)) (Heap.get?_push_of_some _ e)
end
section
variable{X:Cx}
theorem Vals.at{xs:List V}{us:List Value}(r:Vals xs us):∀(i:Nat)(u:Value),us[i]? = some u→∃x,xs[i]? = some x∧RelV x u:=by
 induction r with
 |nil=>intro i u h;cases h
 | cons h t ih =>
  intro i u e
  cases i with
  |zero=>exact⟨_,rfl,by cases e;exact h⟩
  |succ i=>exact ih i u e
theorem RpL.at'{K:W.Frag}{H:Hp}:∀{ds:List Dt} {vs:List V} (i:Nat) (v:V),RpL K H ds vs→vs[i]? = some v→∃d,ds[i]? = some d∧Rp K H d v
 | [],vs,i,v,h,e=>by
  obtain rfl:=BX.mp h
  cases e
 | d::ds,vs,i,v,h,e=>by
  obtain⟨v',r,rfl,r2,r3⟩:=Bj.mp h
  cases i with
  |zero=>exact⟨d,rfl,by cases e;exact r2⟩
  |succ i=>exact RpL.at' i v r3 e
theorem RpL.len'{K:W.Frag}{H:Hp}:∀{ds:List Dt} {vs:List V},RpL K H ds vs→vs.length=ds.length
 | [],vs,h=>by
  obtain rfl:=BX.mp h
  rfl
 | d::ds,vs,h=>by
  obtain⟨v',r,rfl,r2,r3⟩:=Bj.mp h
  rw[List.length_cons,List.length_cons,RpL.len' r3]
abbrev Iw(ns:List Int):Dt:=.tup (ns.map Dt.int)
end
section
variable{X:Cx}
theorem AbA{h:Heap}{a:Addr}{i1 i2:Array Value}(t1:IsTup h a i1)(t2:IsTup h a i2):i1=i2:=by
 obtain⟨o,e1,_,n1,d1⟩:=t1
 obtain⟨o',e2,_,n2,d2⟩:=t2
 rw[e1]at e2
 cases e2
 rw[d1]at d2
 cases d2
 rfl
def AfZ(K:W.Frag):V→List V→Hp→VK→Prop:=fun x ys H Q=>∃p vs,∃nss:Nat→List Int,∃b ns j,x=.ref p∧ys=[.ref b]∧SqL K H p vs∧SqT K H b (List.map V.int ns)∧(∀(i:Nat)(v:V),vs[i]? = some v→∃a,v=.ref a∧SqT K H a ((nss i).map V.int)) ∧
 j<vs.length∧nss j=ns∧(∀m,m<j→nss m≠ns)∧Q (.int (j:Nat)) H
theorem Ab4{K:W.Frag}{H:Hp}{a:Addr}{ns:List Int}(h:SqT K H a (ns.map V.int)):Rp K H (Iw ns) (.ref a):=Em.mpr ⟨a,_,rfl,h,RpL.ints ns⟩
theorem Ur:∀(ns ms:List Int),Dt.eqs (ns.map Dt.int) (ms.map Dt.int)=decide (ns=ms)
 | [],[]=>by simp[Dt.eqs]
 | [],m::ms=>by simp[Dt.eqs]
 |n::ns,[]=>by simp[Dt.eqs]
 | n::ns,m::ms=>by
  rw[List.map_cons,List.map_cons,Dt.eqs,Ur ns ms,K6,←Bool.decide_and]
  exact decide_eq_decide.mpr (by simp)
theorem Qz:∀(ns:List Int),Dt.flats 7 (ns.map Dt.int)=true
 | []=>rfl
 |n::ns=>by rw[List.map_cons,Dt.flats,Qz ns];rfl
theorem Aa0(hu:X.A.units+64<cLine)(hu1:X.A.in1.units+8<cLine):MtR X "list.index" (AfZ X.K):=by
 classical
 intro pins s σ H x ys v us Q I rx ry h
 obtain⟨p,vs,nss,b,ns,j,rfl,rfl,hl,hb,each,jl,ej,before,q⟩:=h
 cases rx
 obtain⟨u,rfl,r1⟩:=vals1 ry
 cases r1
 obtain⟨its,rv,pl,hz⟩:=I.list hl
 have hlen:its.length=vs.length:=rv.length.symm
 have fl:∀ns:List Int,(Iw ns).flat 8=true:=fun ns=>Qz ns
 have abL:∀(i:Nat)(y:Value),its[i]? = some y→∃a,y=.ref a∧SqT X.K H a ((nss i).map V.int):=fun i y e=>by
  obtain⟨v,e1,r2⟩:=Vals.at rv i y e
  obtain⟨a,rfl,ht⟩:=each i v e1
  cases r2
  exact⟨a,rfl,ht⟩
 have uniq:∀(i i':Nat)(y:Value),its[i]? = some y→its[i']? = some y→nss i=nss i':=fun i i' y e e'=>by
  obtain⟨a,rfl,h1⟩:=abL i y e
  obtain⟨a',ea,h2⟩:=abL i' _ e'
  cases ea
  obtain⟨i1,v1,t1,_⟩:=I.tuple h1
  obtain⟨i2,v2,t2,_⟩:=I.tuple h2
  have es:=AbA t1 t2
  have n1:IntsAre i1.toArray.toList (nss i):=intsAre_of v1
  have n2:IntsAre i2.toArray.toList (nss i'):=intsAre_of v2
  rw[←es]at n2
  rw[←n1.numsOf,←n2.numsOf]
 obtain⟨o,n,eo,ec,ed,dd⟩:=pl
 obtain⟨cl,di,da,sl⟩:=o
 dsimp only at ec ed dd
 subst ec ed dd
 have jl':j<its.toArray.size:=by rw[List.size_toArray];omega
 have at':∀(i:Nat)(hi:i<its.toArray.size),its[i]? = some its.toArray[i]:=fun i hi=>by
  rw[List.getElem_toArray]
  exact List.getElem?_eq_getElem _
 refine call_meets F.slot_list_index ⟨_,eo,rfl⟩ F.entry_list_index (F.args_list_index_2 _ _) (SeqAt.list_indexAt p its.toArray n none sl (.ref b) (fun y=>decide (∃i,its[i]? = some y∧nss i=ns)) j jl' ?_ ?_ ?_) ⟨eo,?_,?_⟩
 ·have:sizeLine<2 ^ 63-1:=by unfold sizeLine;decide
  omega
 ·exact decide_eq_true ⟨j,at' j jl',ej⟩
 ·intro m hm lt
  refine decide_eq_false ?_
  rintro⟨i,e1,e2⟩
  exact before m lt ((uniq m i _ (at' m hm) e1).trans e2)
 ·intro y hy
  obtain⟨i,hi,e⟩:=List.getElem_of_mem (show y∈its by simpa using hy)
  have e1:its[i]? = some y:=by rw[←e];exact List.getElem?_eq_getElem hi
  obtain⟨a,rfl,ht⟩:=abL i y e1
  obtain⟨ca,da⟩:=Gq _ 8 (fl (nss i))
  obtain⟨cb,db⟩:=Gq _ 8 (fl ns)
  obtain⟨as,q1⟩:=Ii I ca (Ab4 ht) (rfl:RelV (.ref a) (.ref a))
  obtain⟨bs,q2⟩:=Ii I cb (Ab4 hb) (rfl:RelV (.ref b) (.ref b))
  have:=SeqAt.eqAt_reads _ _ X.A.in1 s _ _ as bs q1 q2 ca cb (by omega)
  rw[Qf _ _ ca cb]at this
  have ee:(Iw (nss i)).eq (Iw ns)=decide (∃i,its[i]? = some (Value.ref a)∧nss i=ns):=by
   show Dt.eqs _ _=_
   rw[Ur]
   refine decide_eq_decide.mpr ⟨fun z=>⟨i,e1,z⟩,?_⟩
   rintro⟨i',e2,e3⟩
   exact(uniq i i' _ e1 e2).trans e3
  rw[ee]at this
  exact this
 ·exact⟨.int _,H,I.tok _,⟨_,rfl⟩,q⟩
def Aew(j:Nat)(te:DTE):DTE:=fun ρ Q=>∃nss:List (List Int),ρ[j]? = some (some (.is (.lst (nss.map Iw))))∧te ρ fun d=>∃ns k,d=Iw ns∧k<nss.length∧nss.getD k []=ns∧(∀m,m<k→nss.getD m []≠ns)∧Q (.int (k:Nat))
theorem AfJ{K:W.Frag}{H:Hp}{nss:List (List Int)}{vs:List V}(h:RpL K H (nss.map Iw) vs):vs.length=nss.length∧∀(i:Nat)(v:V),vs[i]? = some v→∃a,v=.ref a∧SqT K H a ((nss.getD i []).map V.int):=by
 refine⟨by rw[RpL.len' h,List.length_map],fun i v e=>?_⟩
 obtain⟨d,e1,r⟩:=RpL.at' i v h e
 rw[List.getElem?_map]at e1
 cases q:nss[i]? with
 |none=>rw[q]at e1;cases e1
 | some ns =>
  rw[q]at e1
  cases e1
  have:nss.getD i []=ns:=by simp[List.getD,q]
  rw[this]
  obtain⟨a,ys,rfl,ht,hy⟩:=Em.mp r
  obtain rfl:=Uo hy
  exact⟨a,rfl,ht⟩
theorem AaY(j:Nat){e:Expr}{te:DTE}{x:Str}{px ap cp:Pos}(hu:X.A.units+64<cLine)(hu1:X.A.in1.units+8<cLine)(he:DE X e te)(hN:X.N[j]? = some x:=by rfl)(hv:Vis X.env.scope x:=by first | exact Or.inl rfl | exact Or.inr (Or.inl rfl) | exact Or.inr (Or.inr rfl))(hd:(x==("__debug__":Str))=false:=by decide)
  (hcd:(x==("__classdict__":Str))=false:=by decide) (hbase:attributeBase (.Name x px) "index" X.env (eval (.Name x px) X.env)=eval (.Name x px) X.env:=by rfl)
  (hfew:((backTo cp (starEach [e] X.env)).all (fun x=>!x.1)&&(backToKw cp (keywordEach [] X.env)).all (fun x=>x.1.isSome)&&decide ([e].length+([]:List Keyword).length+(if([]:List Keyword).isEmpty then 0 else 1)<30))=true:=by rfl)
  (hline:(ap.endLine==cp.line)=true:=by rfl) (hst:starEach [e] X.env=(false,eval e X.env)::starEach [] X.env:=by rfl) (hplain:(backTo cp (starEach [] X.env)).any (·.1)=false:=by rfl) :
  DE X (.Call (.Attribute (.Name x px) "index" ap) [e] [] cp) (Aew j te) where
 mono:=fun hq ⟨nss,e1,h⟩=>⟨nss,e1,he.mono (fun d ⟨ns,k,a,b,c,d',h⟩=>⟨ns,k,a,b,c,d',hq _ h⟩) h⟩
 pe:=(Ahv PySem.F.plainAttrs_list PySem.F.slot_list_index PySem.F.type_list_index (Aa0 hu hu1) (JC hN hv hd hcd) (Hu he.pe T5 hst) hbase hfew hline hst hplain).imp fun σ H Q ⟨B,F,O,ρ,R,nss,e1,h⟩=>by
  obtain⟨v,h1,r⟩:=R.is j _ e1
  obtain⟨p,vs,rfl,hs,hl⟩:=Hw r
  refine⟨_,h1,.inl ⟨rfl,_,(Bv (O:=F++O) (H:=H)).seq hs⟩,B,F,O,ρ,R,he.mono (fun d h v H1 s1 r1=>?_) h⟩
  obtain⟨ns,k,rfl,kl,ek,before,q⟩:=h
  obtain⟨b,ys,rfl,hb,hy⟩:=Em.mp r1
  obtain rfl:=Uo hy
  obtain⟨ll,each⟩:=AfJ (hl.mono s1.mask)
  refine⟨p,vs,fun i=>nss.getD i [],b,ns,k,rfl,rfl,(Bv (O:=F++O) (H:=H1)).seq (s1.mask.seq hs),(Bv (O:=F++O) (H:=H1)).mD hb,fun i v e=>?_,by omega,ek,before,q _ H1 (Same.refl H1 |> fun _=>s1) (Bl.mpr rfl)⟩
  obtain⟨a,ea,ht⟩:=each i v e
  exact⟨a,ea,(Bv (O:=F++O) (H:=H1)).mD ht⟩
theorem AlF{A:Around}(h:A.units+64<cLine):A.in1.units+8<cLine:=by show A.units+1+8<cLine;omega
end
section
variable{X:Cx}{a b c e o:Expr}{es:List Expr}{ta tb te:DTE}{tl:DTA}{pos apos:Pos}
def AgQ(K:W.Frag)(te:DTE)(f:Str):DTE:=fun ρ Q=>te ρ fun d=>match d with
 |.obj c ns ds=>HY K c f∧∃v,(ns.zip ds).lookup f=some v∧Q v
 |_=>False
theorem Kv{f:Str}(h:DE X e te)(hb:attributeBase e f X.env (eval e X.env)=eval e X.env:=by rfl):DE X (.Attribute e f pos) (AgQ X.K te f) where
 mono:=fun hq z=>h.mono (fun d z=>by
  split at z
  ·exact let ⟨a,v,b,c⟩:=z;⟨a,v,b,hq _ c⟩
  ·exact z.elim) z
 pe:=(Ajb h.pe hb).imp fun σ H Q ⟨B,F,O,ρ,R,z⟩=>⟨B,F,O,ρ,R,h.mono (fun d z v H1 s1 r1=>by
  split at z
  ·obtain⟨na,y,ly,q⟩:=z
   obtain⟨a,C,dx,vs,rfl,h1,cl,h2,_,h5⟩:=Ug.mp r1
   obtain⟨v,lv,rv⟩:=zip_get h5 ly
   exact⟨a,C,dx,_,v,rfl,Bv _ _ h2,cl,na C h1,lv,q v H1 s1 rv⟩
  ·exact z.elim) z⟩
structure IsC(K:W.Frag)(c:Str):Prop where
 ha:∀C,W.nsIn K mainGlobals c=some (some (.ref C))→W.findIn K (.ref C) "__class__"=some (some (.builtin "object.__class__"))
 hn:W.specialIn K (.builtin "object.__class__") "__get__"=some (some (.builtin "getset_descriptor.__get__"))
 ht:W.takesIn K (.builtin "object.__class__")=some true
 hm:∀C,W.nsIn K mainGlobals c=some (some (.ref C))→W.mroIn K C (.type "object")=some true
def AoV(K:W.Frag):DL:=fun ds Q=>match ds with
 | [.obj c _ _,.fn A]=>∃v,IsC K c∧Bd K c A v∧Q (.bl v)
 |_=>False
def Zx(K:W.Frag)(c m:Str)(g:Addr):Prop:=∀C,W.nsIn K mainGlobals c=some (some (.ref C))→Meth K C m g
def AdK(K:W.Frag)(m:Str)(g:Addr)(sp:Sp)(ta:TE)(t:TA):TE:=fun σ H Q=>ta σ H fun x H1=>∃a C dx fs,x=.ref a∧H1 a=some (.ins C dx fs)∧Cls K C∧Meth K C m g∧fs.lookup m=none∧t σ H1 fun vs H2=>sp (x::vs) H2 Q E0
theorem Aby{pl:Sem Bool}{k:Nat}{m:Str}{g:Addr}{fd:FuncData}{ps:List Str}{sp:Sp}{ta:TE}(he:PE X o ta)(F:El X.prog X.w X.K X.mg X.base CX0 k g fd ps sp)(hr:Dd k X.A)(hb:Binds X.K fd ps [])
  (ht:eval (.Call (.Attribute o m apos) [] [] pos) X.env=(do
   let ov ←eval o X.env
   standAt apos.atName
   let (f,first) ←holding [ov] (getMethod ov m pl)
   callWith pos f first (backTo pos (starEach [] X.env)) (backToKw pos (keywordEach [] X.env))):=by rfl) :
  PE X (.Call (.Attribute o m apos) [] [] pos) (AdK X.K m g sp ta Aia):=by
 intro pins s σ H Q I h
 refine W.methodCall_KW (pl:=pl) (thn (he pins s σ H _ I h) fun u s1 ⟨x,H1,I1,rx,a,C,dx,fs,ex,ea,c,hm,l,q⟩=>?_) ht
 subst ex
 obtain rfl:u=Value.ref a:=rx
 refine X6 I1 ea c hm l ?_
 exact W.callWith_K0 (first:=[.ref a]) I1.kIn hm.kp (Ub (us:=[.ref a]) (vs:=[.ref a]) F hr hb .nil Wv I1 (.cons rfl .nil) q)
def Qv(K:W.Frag)(m:Str)(g:Addr)(sp:DSp)(te:DTE)(tl:DTA):DTE:=fun ρ Q=>te ρ fun d=>match d with
 |.obj c ns ds=>Zx K c m g∧m∉ns∧tl ρ fun es=>sp (.obj c ns ds::es) Q
 |_=>False
theorem Ww{f:Str}:∀{ns:List Str} {vs:List V},f∉ns→(ns.zip vs).lookup f=none
 | [],_,_=>by simp
 |_::_,[],_=>by simp
 | n::ns,v::vs,h=>by
  have hb:(f==n)=false:=beq_eq_false_iff_ne.mpr fun e=>h (by rw[e];exact List.mem_cons_self)
  rw[List.zip_cons_cons]
  simp only[List.lookup,hb]
  exact Ww fun z=>h (List.mem_cons_of_mem _ z)
theorem AcV{m:Str}{g:Addr}{sp:DSp}(M:Ij sp)(h:DE X o te)(ha:DA X es tl)(σ:St)(H:Hp)(Q:VK)(z:lE X.K (Qv X.K m g sp te tl) σ H Q):AdK X.K m g (lSp X.K sp) (lE X.K te) (lA X.K tl) σ H Q:=by
 obtain⟨B,F,O,ρ,R,z⟩:=z
 refine⟨B,F,O,ρ,R,h.mono (fun d z v H1 s1 r1=>?_) z⟩
 split at z
 ·obtain⟨mo,nm,z⟩:=z
  obtain⟨a,C,dx,vs,e0,h1,cl,h2,_,h5⟩:=Ug.mp r1
  subst e0
  refine⟨a,C,dx,_,rfl,Bv _ _ h2,cl,mo C h1,Ww nm,B,F,O,ρ,R.same s1,ha.mono (fun es z ws H2 s2 r2=>?_) z⟩
  exact⟨F++O,_,((R.same s1).same s2).th,RpL.cons (r1.mono s2.mask) r2,M _ _ _ (fun d q w H3 s3 r3=>q w H3 ((s1.trans s2).trans s3) r3) z⟩
 ·exact z.elim
theorem Abs{m:Str}{g:Addr}{sp:DSp}(M:Ij sp)(h:DE X o te)(ha:DA X es tl){ρ:BW}{Q Q':Dt→Prop}(hq:∀d,Q d→Q' d)(z:Qv X.K m g sp te tl ρ Q):Qv X.K m g sp te tl ρ Q':=h.mono (fun d z=>by
 split at z
 ·exact⟨z.1,z.2.1,ha.mono (fun es z=>M _ _ _ hq z) z.2.2⟩
 ·exact z.elim) z
theorem AcH{pl:Sem Bool}{k:Nat}{m:Str}{g:Addr}{fd:FuncData}{ps:List Str}{sp:DSp}(M:Ij sp)(F:El X.prog X.w X.K X.mg X.base CX0 k g fd ps (lSp X.K sp))(hb:Binds X.K fd ps [])(hr:Dd k X.A)(h:DE X o te)
  (ht:eval (.Call (.Attribute o m apos) [] [] pos) X.env=(do
   let ov ←eval o X.env
   standAt apos.atName
   let (f,first) ←holding [ov] (getMethod ov m pl)
   callWith pos f first (backTo pos (starEach [] X.env)) (backToKw pos (keywordEach [] X.env))):=by rfl):DE X (.Call (.Attribute o m apos) [] [] pos) (Qv X.K m g sp te AfA) where
 mono:=Abs (X:=X) M h Ac
 pe:=(Aby h.pe F hr hb ht).imp fun σ H Q z=>by
  have:=AcV M h Ac σ H Q z
  obtain⟨B,F,O,ρ,R,z⟩:=this
  refine⟨B,F,O,ρ,R,h.mono (fun d z v H1 s1 r1=>?_) z⟩
  obtain⟨a,C,dx,fs,e1,e2,e3,e4,e5,z⟩:=z v H1 s1 r1
  obtain⟨B',F',O',ρ',R',z⟩:=z
  exact⟨a,C,dx,fs,e1,e2,e3,e4,e5,z [] H1 (Same.refl H1) RpL.nil⟩
abbrev DIn:=List Dt→(List Dt→Prop)→Prop
def Yh(K:W.Frag)(ns:List Str)(sp:DIn):Sp:=fun vs H Q _=>∃x C dx ys F ds,vs=.ref x::ys∧H x=some (.ins C dx [])∧Cls K C∧(∀f∈ns,Hh K C f)∧x∈F∧(∀a∈F,H a≠none)∧RpL K (mask F H) ds ys ∧
 sp ds fun fds=>∀ws H',Same (mask [x] H) H'→H' x=some (.ins C dx (ns.zip ws))→ns.length=fds.length→RpL K (mask F H') fds ws→Q .non H'
def Rr(sp:DIn):Prop:=∀ds Q Q',(∀d,Q d→Q' d)→sp ds Q→sp ds Q'
structure MkC(K:W.Frag)(mg:Str→Option Value)(c:Str)(ns:List Str)(C f:Addr):Prop where
 mm:Mk K C f
 at_:W.nsIn K mainGlobals c=some (some (.ref C))
 gl:mg c=some (.ref C)
 cl:Cls K C
 no:∀f∈ns,Hh K C f
def Ab6(c:Str)(ns:List Str)(sp:DIn)(tl:DTA):DTE:=fun ρ Q=>tl ρ fun ds=>sp ds fun fds=>Q (.obj c ns fds)
theorem Afk{k:Nat}{c:Str}{ns ps:List Str}{C f:Addr}{fd:FuncData}{sp:DIn}{p:Pos}(m:Rr sp)(M:MkC X.K X.mg c ns C f)(G:El X.prog X.w X.K X.mg X.base CX0 k f fd ps (Yh X.K ns sp))(hb:Binds X.K fd ps [])(hr:Dd (k+1) X.A)(hg:Gl X c)(ha:DA X (e::es) tl)
  (hdb:(c==("__debug__":Str))=false:=by decide) (he:starEach (e::es) X.env=(false,eval e X.env)::starEach es X.env:=by rfl) (hpl:(backTo pos (starEach es X.env)).any (·.1)=false:=by rfl):DE X (.Call (.Name c p) (e::es) [] pos) (Ab6 c ns sp tl) where
 mono:=fun hq z=>ha.mono (fun ds z=>m _ _ _ (fun fds q=>hq _ q) z) z
 pe:=(AfN M.mm G hr hg M.gl hb .nil Wv ha.pa hdb he hpl).imp fun σ H Q ⟨B,F,O,ρ,R,z⟩=>⟨B,F,O,ρ,R,ha.mono (fun ds z vs H1 s1 r1 x dx nx ndx ne=>by
  have R1:=R.same s1
  have ox:x∉F++O:=fun w=>R1.th x w nx
  have s2:Same H1 (upd (upd H1 dx (.own x)) x (.ins C dx [])):=fun b o q=>by rw[Am (Ba q nx),Am (Ba q ndx)];exact q
  refine⟨x,C,dx,vs,x::(F++O),ds,by rw[List.append_nil],Aw,M.cl,M.no,List.mem_cons_self,fun b hb'=>?_,?_,m _ _ _ (fun fds q ws H' s' h1 h2 h3=>⟨rfl,?_⟩) z⟩
  ·rcases List.mem_cons.mp hb' with e|w
   ·rw[e,Aw];simp
   ·intro q
    cases e:H1 b with
    |none=>exact R1.th b w e
    |some u=>rw[s2 _ _ e]at q;cases q
  ·refine r1.mono fun b o q=>?_
   obtain⟨n1,q⟩:=Cv q
   rw[Bh fun w=>(List.mem_cons.mp w).elim (fun e=>by rw[e,nx]at q;cases q) n1]
   exact s2 _ _ q
  ·have s3:Same H1 H':=fun b o q=>s' b o (by rw[Bh fun w=>by rw[List.mem_singleton.mp w,nx]at q;cases q];exact s2 _ _ q)
   refine q (.ref x) H' (s1.trans s3) (Ug.mpr ⟨x,C,dx,ws,rfl,M.at_,M.cl,by rw[Bh ox];exact h1,h2,h3.mono (FN fun b hb'=>List.mem_cons_of_mem _ hb')⟩)) z⟩
end
section
variable{K:W.Frag}{B:Hp}{F O:List Addr}{H:Hp}{σ:St}{ρ:BW}{x:Addr}
theorem Rep.aeT(r:Rep K B F O H σ ρ)(hx:x∈F)(hB:B x=none)(o:HO):Rep K B F O (upd H x o) σ ρ:=by
 have em:mask (F++O) (upd H x o)=mask (F++O) H:=Lz (List.mem_append_left _ hx)
 refine⟨r.len,fun b u e=>?_,r.fr,fun b hb e=>?_,fun j d q=>?_,fun j ks q=>?_,r.inj,fun j ks q=>?_,r.wO,r.raw⟩
 ·rw[Am fun z=>by rw[z,hB]at e;cases e];exact r.base b u e
 ·by_cases z:b=x
  ·rw[z,Aw]at e;cases e
  ·rw[Am z]at e;exact r.th b hb e
 ·rw[em];exact r.is j d q
 ·obtain⟨b,zs,e1,e2,e3,e4,e5⟩:=r.own j ks q
  exact⟨b,zs,e1,e2,e3,by rw[Am fun z=>e3 (by rw[z];exact hx)];exact e4,by rw[em];exact e5⟩
 ·obtain⟨b,zs,e1,e2,e3,e4,e5⟩:=r.tab j ks q
  exact⟨b,zs,e1,e2,e3,by rw[Am fun z=>e3 (by rw[z];exact hx)];exact e4,by rw[em];exact e5⟩
def JD(N:List Str)(ds:List Dt):BW:=none::(ds.map (fun d=>some (.is d))++List.replicate (N.length-(ds.length+1)) none)
theorem Ma{N:List Str}{ds:List Dt}{ys:List V}(hx:x∈F)(hF:∀a∈F,H a≠none)(r:RpL K (mask F H) ds ys):Rep K (mask [x] H) F [] H (start N (.ref x::ys)) (JD N ds):=by
 have hl:=r.len
 have get:∀(i:Nat)(e:En),(JD N ds)[i]? = some (some e)→∃j d,i=j+1∧ds[j]? = some d∧e=.is d:=fun i e q=>by
  cases i with
  |zero=>cases q
  | succ j =>
   have q:(ds.map (fun d=>some (En.is d))++List.replicate (N.length-(ds.length+1)) none)[j]? = some (some e):=q
   by_cases hi:j<ds.length
   ·rw[List.getElem?_append_left (by simpa using hi),List.getElem?_map]at q
    cases w:ds[j]? with
    |none=>rw[w]at q;cases q
    |some d=>rw[w]at q;cases q;exact⟨j,d,rfl,w,rfl⟩
   ·rw[List.getElem?_append_right (by simpa using hi),List.getElem?_replicate]at q
    split at q<;>cases q
 refine⟨?_,Bv,fun a h=>(nomatch h),fun a h=>hF a (by simpa using h),fun i d e=>?_,fun i es e=>?_,fun i j es es' a h1=>?_,fun i es e=>?_,fun i j es es' a h1=>?_,fun i v e=>?_⟩
 ·unfold start JD;simp[hl]
 ·obtain⟨j,d',rfl,e1,e2⟩:=get i _ e
  cases e2
  obtain⟨v,w1,w2⟩:=r.get e1
  have hj:j<ys.length:=by rw[hl];exact(List.getElem?_eq_some_iff.mp e1).1
  refine⟨v,?_,by rw[List.append_nil];exact w2⟩
  unfold start
  rw[List.getElem?_append_left (by simp;omega),List.getElem?_map,List.getElem?_cons_succ,w1];rfl
 ·obtain⟨_,_,_,_,z⟩:=get i _ e;cases z
 ·obtain⟨_,_,_,_,z⟩:=get i _ h1;cases z
 ·obtain⟨_,_,_,_,z⟩:=get i _ e;cases z
 ·obtain⟨_,_,_,_,z⟩:=get i _ h1;cases z
 ·obtain⟨_,_,_,_,z⟩:=get i _ e;cases z
end
section
variable{X:Cx}{e e1 e2 e3:Expr}{es:List Expr}{te1 te2 te3:DTE}{tl:DTA}{pos apos:Pos}
def AmZ(K:W.Frag)(f1 f2 f3:Str)(te1 te2 te3:DTE):TS:=fun D σ H=>∃B F ρ x C dx,∃S:List Dt→Prop,Rep K B F [] H σ ρ∧x∈F∧B x=none∧σ[0]? = some (some (.ref x))∧H x=some (.ins C dx [])∧Cls K C∧(∀f∈[f1,f2,f3],Hh K C f) ∧
 (te1 ρ fun d1=>te2 ρ fun d2=>te3 ρ fun d3=>S [d1,d2,d3])∧∀fds,S fds→∀ws H',Same B H'→H' x=some (.ins C dx ([f1,f2,f3].zip ws))→[f1,f2,f3].length=fds.length→RpL K (mask F H') fds ws→D.nx σ H'
theorem AdL{f1 f2 f3:Str}{y:Str}{q1 q2 q3 p1 p2 p3 s1 s2 s3:Pos}(h1:DE X e1 te1)(h2:DE X e2 te2)(h3:DE X e3 te3)(n12:f1≠f2)(n13:f1≠f3)(n23:f2≠f3)(hN:X.N[0]? = some y:=by rfl)(hv:Vis X.env.scope y:=by first | exact Or.inl rfl | exact Or.inr (Or.inl rfl) | exact Or.inr (Or.inr rfl))
  (hd:(y==("__debug__":Str))=false:=by decide) (hcd:(y==("__classdict__":Str))=false:=by decide)
  (w1:swapsWith e1 (some (.Attribute (.Name y q1) f1 p1)) s1.line X.env=pure false:=by rfl) (w2:swapsWith e2 (some (.Attribute (.Name y q2) f2 p2)) s2.line X.env=pure false:=by rfl) (w3:swapsWith e3 (some (.Attribute (.Name y q3) f3 p3)) s3.line X.env=pure false:=by rfl) :
  PSs X [.Assign [.Attribute (.Name y q1) f1 p1] e1 s1,.Assign [.Attribute (.Name y q2) f2 p2] e2 s2,.Assign [.Attribute (.Name y q3) f3 p3] e3 s3] (AmZ X.K f1 f2 f3 te1 te2 te3) :=
 (J1 (Yg (JC hN hv hd hcd) h1.pe w1) (J1 (Yg (JC hN hv hd hcd) h2.pe w2) (Hs (Yg (JC hN hv hd hcd) h3.pe w3)))).imp fun D σ H ⟨B,F,ρ,x,C,dx,S,R,xF,Bx,σ0,Hx,cl,no,z,fin⟩=>by
  have em:∀(H:Hp)(o:HO),mask (F++[]) (upd H x o)=mask (F++[]) H:=fun H o=>Lz (List.mem_append_left _ xF)
  refine⟨B,F,[],ρ,R,h1.mono (fun d1 z y1 H1 t1 r1=>?_) z⟩
  refine⟨.ref x,σ0,x,C,dx,[],rfl,t1 _ _ Hx,cl,no f1 (by simp),by decide,?_⟩
  have R1:=(R.same t1).aeT xF Bx (.ins C dx (Ib f1 y1 []))
  refine⟨B,F,[],ρ,R1,h2.mono (fun d2 z y2 H2 t2 r2=>?_) z⟩
  refine⟨.ref x,σ0,x,C,dx,[(f1,y1)],rfl,t2 _ _ Aw,cl,no f2 (by simp),by show 1<1000;decide,?_⟩
  have R2:=(R1.same t2).aeT xF Bx (.ins C dx (Ib f2 y2 [(f1,y1)]))
  refine⟨B,F,[],ρ,R2,h3.mono (fun d3 z y3 H3 t3 r3=>?_) z⟩
  have ep2:Ib f2 y2 [(f1,y1)]=[(f1,y1),(f2,y2)]:=by simp[Ib,n12]
  have ep3:Ib f3 y3 [(f1,y1),(f2,y2)]=[(f1,y1),(f2,y2),(f3,y3)]:=by simp[Ib,n13,n23]
  rw[ep2]at t3 R2
  refine⟨.ref x,σ0,x,C,dx,[(f1,y1),(f2,y2)],rfl,t3 _ _ Aw,cl,no f3 (by simp),by show 2<1000;decide,?_⟩
  have R3:=(R2.same t3).aeT xF Bx (.ins C dx (Ib f3 y3 [(f1,y1),(f2,y2)]))
  rw[ep3]at R3 ⊢
  rw[List.append_nil]at r1 r2 r3 em
  refine fin _ z [y1,y2,y3] _ R3.base Aw rfl ?_
  rw[em]
  have m12:Same (mask F H1) (mask F H2):=fun b o q=>t2.mask b o (by rw[em];exact q)
  have m23:Same (mask F H2) (mask F H3):=fun b o q=>t3.mask b o (by rw[em];exact q)
  exact RpL.cons ((r1.mono m12).mono m23) (RpL.cons (r2.mono m23) (RpL.cons r3 RpL.nil))
structure V8(K:W.Frag)(mg:Str→Option Value)(c m:Str)(g:Addr):Prop where
 ex:∃CS,mg c=some (.ref CS)∧W.specialIn K (.ref CS) "__getattribute__"=some (some (.builtin "type.__getattribute__"))∧W.readsIn K CS (.type "type")=true∧W.findCls K (.ref CS) (.type "type") m=some (.val (.ref g))
 kp:W.keepIn K (.ref g)=true
theorem Vp{pl:Sem Bool}{k:Nat}{c m:Str}{g:Addr}{fd:FuncData}{ps:List Str}{sp:Sp}{t:TA}{p:Pos}(M:V8 X.K X.mg c m g)(hg:Gl X c)(F:El X.prog X.w X.K X.mg X.base CX0 k g fd ps sp)(hr:Dd k X.A)(hb:Binds X.K fd ps [])(ha:PA X (e::es) t)
  (hdb:(c==("__debug__":Str))=false:=by decide) (hst:starEach (e::es) X.env=(false,eval e X.env)::starEach es X.env:=by rfl) (hpl:(backTo pos (starEach es X.env)).any (·.1)=false:=by rfl)
  (ht:eval (.Call (.Attribute (.Name c p) m apos) (e::es) [] pos) X.env=(do
   let ov ←eval (.Name c p) X.env
   standAt apos.atName
   let (f,first) ←holding [ov] (getMethod ov m pl)
   callWith pos f first (backTo pos (starEach (e::es) X.env)) (backToKw pos (keywordEach [] X.env))):=by rfl) :
  PE X (.Call (.Attribute (.Name c p) m apos) (e::es) [] pos) (AdJ sp [] E0 t):=by
 intro pins s σ H Q I h
 obtain⟨CS,hm,hs,hr',hf⟩:=M.ex
 have q0:=(Zm (v:=.ref CS) (pos:=p) hg hm rfl hdb:PE X (.Name c p) (tC (.ref CS))) pins s σ H (fun v H1=>v=.ref CS∧H1=H) I ⟨rfl,rfl⟩
 refine W.methodCall_KW (pl:=pl) (thn q0 fun u s1 ⟨x,H1,I1,rx,ex,eH⟩=>?_) ht
 subst ex
 subst eH
 obtain rfl:u=Value.ref CS:=rx
 refine W.method_cls I1.kIn hs (W.cls_value I1.kIn hr' hf rfl ?_)
 refine W.callWith_K (first:=[]) (h₀:=X.base) I.ok.mod.kin M.kp (thn (ha pos pins _ σ H1 _ (I1.tok _) h) fun us s2 ⟨vs,H2,I2,r,q2⟩=>⟨I2.kIn,?_⟩) hst hpl
 exact Ub F hr hb .nil Wv I2 r q2
def AlH(K:W.Frag)(ns:List Str)(sp:DIn)(tl:DTA):TS:=fun D σ H=>∃B F ρ x C dx,∃S:List Dt→Prop,Rep K B F [] H σ ρ∧x∈F∧B x=none∧σ[0]? = some (some (.ref x))∧H x=some (.ins C dx [])∧Cls K C∧(∀f∈ns,Hh K C f) ∧
 (tl ρ fun ds=>sp ds S)∧∀fds,S fds→∀ws H',Same B H'→H' x=some (.ins C dx (ns.zip ws))→ns.length=fds.length→RpL K (mask F H') fds ws→D.nx σ H'
theorem Ads{pl:Sem Bool}{k:Nat}{c y:Str}{g:Addr}{fd:FuncData}{ps ns:List Str}{sp:DIn}{p q ap cp:Pos}(m:Rr sp)(M:V8 X.K X.mg c "__init__" g)(hg:Gl X c)(G:El X.prog X.w X.K X.mg X.base CX0 k g fd ps (Yh X.K ns sp))(hb:Binds X.K fd ps [])(hr:Dd k X.A)(ha:DA X es tl)(hN:X.N[0]? = some y:=by rfl)
  (hv:Vis X.env.scope y:=by first|exact Or.inl rfl|exact Or.inr (Or.inl rfl)|exact Or.inr (Or.inr rfl)) (hd:(y==("__debug__":Str))=false:=by decide) (hcd:(y==("__classdict__":Str))=false:=by decide) (hdb:(c==("__debug__":Str))=false:=by decide)
  (hst:starEach (.Name y q::es) X.env=(false,eval (.Name y q) X.env)::starEach es X.env:=by rfl) (hpl:(backTo cp (starEach es X.env)).any (·.1)=false:=by rfl)
  (ht:eval (.Call (.Attribute (.Name c p) "__init__" ap) (.Name y q::es) [] cp) X.env=(do
   let ov ←eval (.Name c p) X.env
   standAt ap.atName
   let (f,first) ←holding [ov] (getMethod ov "__init__" pl)
   callWith cp f first (backTo cp (starEach (.Name y q::es) X.env)) (backToKw cp (keywordEach [] X.env))):=by rfl)
  (hs:swapsWith (.Call (.Attribute (.Name c p) "__init__" ap) (.Name y q::es) [] cp) none pos.line X.env=pure false:=by rfl) :
  PSs X [.Expr (.Call (.Attribute (.Name c p) "__init__" ap) (.Name y q::es) [] cp) pos] (AlH X.K ns sp tl) :=
 (Hs (Mq (Vp M hg G hr hb (Hu (JC hN hv hd hcd) ha.pa hst) hdb hst hpl ht) hs)).imp fun D σ H ⟨B,F,ρ,x,C,dx,S,R,xF,Bx,σ0,Hx,cl,no,z,fin⟩=>by
  refine⟨.ref x,σ0,B,F,[],ρ,R,ha.mono (fun ds z vs H1 s1 r1=>?_) z⟩
  show Yh X.K ns sp ((.ref x::vs)++[]) H1 _ E0
  rw[List.append_nil]
  have R1:=R.same s1
  rw[List.append_nil]at r1
  refine⟨x,C,dx,vs,F,ds,rfl,s1 _ _ Hx,cl,no,xF,fun a h=>R1.th a (List.mem_append_left _ h),r1,m _ _ _ (fun fds w ws H' s' h1 h2 h3=>fin fds w ws H' (fun b o e=>s' b o ?_) h1 h2 h3) z⟩
  rw[Bh fun w=>by rw[List.mem_singleton.mp w,Bx]at e;cases e]
  exact R1.base b o e
end
def ZK{τ:Type}(args:τ→List Dt)(pre:τ→Prop)(post:τ→List Dt→Prop):DIn:=fun ds R=>∃p,ds=args p∧pre p∧∀fds,post p fds→R fds
theorem Mh{τ:Type}{args:τ→List Dt}{pre:τ→Prop}{post:τ→List Dt→Prop}:Rr (ZK args pre post):=fun _ _ _ hq ⟨p,e,h,q⟩=>⟨p,e,h,fun d z=>hq _ (q d z)⟩
theorem Q5{τ:Type}{args:τ→List Dt}{pre:τ→Prop}{post:τ→List Dt→Prop}{R:List Dt→Prop}(p:τ)(h:pre p)(q:∀fds,post p fds→R fds):ZK args pre post (args p) R:=⟨p,rfl,h,q⟩
def PmC(P:Program)(w:World)(K:W.Frag)(mg:Str→Option Value)(base:Heap)(k:Nat)(c:Str)(ns:List Str)(sp:DIn):Prop:=∃g fd ps,V8 K mg c "__init__" g∧Binds K fd ps []∧El P w K mg base CX0 k g fd ps (Yh K ns sp)
def PmI(P:Program)(w:World)(K:W.Frag)(mg:Str→Option Value)(base:Heap)(k:Nat)(c:Str)(ns:List Str)(sp:DIn):Prop:=∃C f fd ps,MkC K mg c ns C f∧Binds K fd ps []∧El P w K mg base CX0 k f fd ps (Yh K ns sp)
def PmM(P:Program)(w:World)(K:W.Frag)(mg:Str→Option Value)(base:Heap)(k:Nat)(cs:List Str)(m:Str)(sp:DSp):Prop:=∃g fd ps,(∀c∈cs,Zx K c m g)∧W.keepIn K (.ref g)=true∧Binds K fd ps []∧El P w K mg base CX0 k g fd ps (lSp K sp)
section
variable{X:Cx}{e o:Expr}{es:List Expr}{te:DTE}{tl:DTA}{pos apos:Pos}
theorem Acx{k:Nat}{c:Str}{ns:List Str}{sp:DIn}{p:Pos}(m:Rr sp)(G:PmI X.prog X.w X.K X.mg X.base k c ns sp)(hr:Dd (k+1) X.A)(hg:Gl X c)(ha:DA X (e::es) tl)
  (hdb:(c==("__debug__":Str))=false:=by decide) (he:starEach (e::es) X.env=(false,eval e X.env)::starEach es X.env:=by rfl) (hpl:(backTo pos (starEach es X.env)).any (·.1)=false:=by rfl):DE X (.Call (.Name c p) (e::es) [] pos) (Ab6 c ns sp tl):=by
 obtain⟨C,f,fd,ps,M,B,G⟩:=G
 exact Afk m M G B hr hg ha hdb he hpl
def QF(cs:List Str)(m:Str)(sp:DSp)(te:DTE)(tl:DTA):DTE:=fun ρ Q=>te ρ fun d=>match d with
 |.obj c ns ds=>(c∈cs∧m∉ns)∧tl ρ fun es=>sp (.obj c ns ds::es) Q
 |_=>False
theorem Xf{cs:List Str}{m:Str}{sp:DSp}(M:Ij sp)(h:DE X o te)(ha:DA X es tl){ρ:BW}{Q Q':Dt→Prop}(hq:∀d,Q d→Q' d)(z:QF cs m sp te tl ρ Q):QF cs m sp te tl ρ Q':=h.mono (fun d z=>by
 split at z
 ·exact⟨z.1,ha.mono (fun es z=>M _ _ _ hq z) z.2⟩
 ·exact z.elim) z
theorem Ac7{cs:List Str}{m:Str}{g:Addr}{sp:DSp}(M:Ij sp)(hm:∀c∈cs,Zx X.K c m g)(h:DE X o te)(σ:St)(H:Hp)(Q:VK)(z:lE X.K (QF cs m sp te tl) σ H Q):lE X.K (Qv X.K m g sp te tl) σ H Q:=by
 obtain⟨B,F,O,ρ,R,z⟩:=z
 refine⟨B,F,O,ρ,R,h.mono (fun d z=>?_) z⟩
 split at z
 ·exact⟨hm _ z.1.1,z.1.2,z.2⟩
 ·exact z.elim
theorem TY{pl:Sem Bool}{k:Nat}{cs:List Str}{m:Str}{sp:DSp}(M:Ij sp)(G:PmM X.prog X.w X.K X.mg X.base k cs m sp)(hr:Dd k X.A)(h:DE X o te)
  (ht:eval (.Call (.Attribute o m apos) [] [] pos) X.env=(do
   let ov ←eval o X.env
   standAt apos.atName
   let (f,first) ←holding [ov] (getMethod ov m pl)
   callWith pos f first (backTo pos (starEach [] X.env)) (backToKw pos (keywordEach [] X.env))):=by rfl):DE X (.Call (.Attribute o m apos) [] [] pos) (QF cs m sp te AfA):=by
 obtain⟨g,fd,ps,hm,kp,B,G⟩:=G
 exact⟨Xf M h Ac,(AcH M G B hr h ht).pe.imp fun σ H Q z=>Ac7 M hm h σ H Q z⟩
end
inductive Lex(A:Around)(s:Shared):List Value→List Value→Bool→Prop
 |nn:Lex A s [] [] false
 |nc {y:Value} {ys:List Value}:Lex A s [] (y::ys) true
 |cn {x:Value} {xs:List Value}:Lex A s (x::xs) [] false
 |eq {x y:Value} {xs ys:List Value} {r:Bool} (h:SeqAt.EqAt A s x y true) (t:Lex A s xs ys r):Lex A s (x::xs) (y::ys) r
 |lt {x y:Value} {xs ys:List Value} {r:Bool} (h:SeqAt.EqAt A s x y false) (t:∀(prog:Program)(w:World)(E:Value→Shared→Prop)(Q:Value→Shared→Prop),Q (.bool r) s→wpAny (model prog w) A (richCompare .Lt x y) Q E s):Lex A s (x::xs) (y::ys) r
section
open PySem.SeqAt PySem.AutoSeq1 PySem.MeetsSeq PySem.MeetsSeq2 PySem.MeetsSeq3
theorem YM(p q:Addr)(us vs:Array Value)(m n:Nat)(e e2:Option Addr)(c c2:Array (Option Value))(res:Bool) :
  Meets (Builtin.«tuple.__lt__» ⟨[.ref p,.ref q],[]⟩) (fun A R st=>st.heap.get? p=some ⟨.type "tuple",e,.seq us m,c⟩∧st.heap.get? q=some ⟨.type "tuple",e2,.seq vs n,c2⟩∧Lex A.in1 st us.toList vs.toList res∧R (.ok (.ret (.bool res))) st) :=
 .of_wp fun prog w A R st h=>by
  obtain⟨hh,gg,dr,tt,os⟩:=st
  obtain⟨h1,h2,L,fin⟩:=h
  have agC:=AutoSeq1.sub_tuple_tuple
  wp_walk using wpAny_loadPart' h1,wpAny_loadPart' h2,wpAny_forIn_list _ (fun rest z st'=>z.1=none∧st'=⟨hh,gg,dr,tt,os⟩∧∃xs ys:List Value,rest=xs.zip ys∧Lex A.in1 ⟨hh,gg,dr,tt,os⟩ xs ys res∧xs.length+vs.size=ys.length+us.size) _
  case turn =>
   rintro⟨x0,y0⟩ rest z st' ⟨z0,rfl,xs,ys,hz,L',hlen⟩
   cases L' with
   |nn=>simp at hz
   |nc=>simp at hz
   |cn=>simp at hz
   | @eq x y xs ys r he t =>
    rw[List.zip_cons_cons]at hz
    obtain⟨hp,hr⟩:=List.cons.inj hz
    obtain⟨rfl,rfl⟩:=Prod.mk.inj hp
    refine wpAny_bind (he prog w _ _ ?_)
    wp_walk
    refine⟨rfl,rfl,xs,ys,hr,t,?_⟩
    simp only[List.length_cons]at hlen
    omega
   | @lt x y xs ys r he t =>
    rw[List.zip_cons_cons]at hz
    obtain⟨hp,hr⟩:=List.cons.inj hz
    obtain⟨rfl,rfl⟩:=Prod.mk.inj hp
    refine wpAny_bind (he prog w _ _ ?_)
    have less:=t prog w
    wp_walk using less
    exact⟨_,rfl,by simpa using fin⟩
  case fin =>
   rintro⟨z1,z2⟩ st' ⟨hz1,rfl,xs,ys,hz,L',hlen⟩
   simp only at hz1
   subst hz1
   have hv:res=decide (us.size<vs.size):=by
    cases L' with
    |nn=>simp at hlen;exact(decide_eq_false (by omega)).symm
    |nc=>simp at hlen;exact(decide_eq_true (by omega)).symm
    |cn=>simp at hlen;exact(decide_eq_false (by omega)).symm
    |eq _ _=>simp at hz
    |lt _ _=>simp at hz
   rw[hv]at fin
   wp_walk
   exact⟨_,rfl,by simpa [Builtin.Tuple.tupleCompareSizes] using fin⟩
  case h=>exact⟨rfl,rfl,us.toList,vs.toList,rfl,L,by simp;omega⟩
end
section
variable{prog:Program}{w:World}{A:Around}{E:Value→Shared→Prop}{s:Shared}
theorem AbY{p q:Addr}{us vs:Array Value}{res:Bool}{Q:Value→Shared→Prop}(hp:IsTup s.heap p us)(hq:IsTup s.heap q vs)(L:Lex A.in1 s us.toList vs.toList res)(hu:A.units<cLine)(h:Q (.bool res) s):wpAny (model prog w) A (richCompare .Lt (.ref p) (.ref q)) Q E s:=by
 obtain⟨⟨c1,e1,a1,b1⟩,g1,k1,m1,t1⟩:=id hp
 obtain⟨⟨c2,e2,a2,b2⟩,g2,k2,m2,t2⟩:=id hq
 dsimp only at k1 t1 k2 t2
 subst k1 t1 k2 t2
 refine richCompare_meets_room (op:=.Lt) ⟨_,g1,rfl⟩ ⟨_,g2,rfl⟩ PySem.F.slot_tuple_lt PySem.F.entry_tuple_lt (PySem.F.args_tuple_lt_2 _ _) (YM p q us vs m1 m2 e1 e2 b1 b2 res) ⟨g1,g2,L,?_⟩ hu
 exact show Value.bool res≠Value.notImplemented∧Q (.bool res) s from⟨(fun z=>nomatch z),h⟩
end
theorem MK:∀ns:List Int,HT.lexLt ns ns=false
 | []=>HT.IV
 |n::ns=>by rw[HT.Jw,if_pos rfl,MK ns]
def Gj(a b:List Int×List Int):Bool:=if a.1=b.1 then HT.lexLt a.2 b.2 else HT.lexLt a.1 b.1
abbrev Od(a:List Int×List Int):Dt:=.tup [Iw a.1,Iw a.2]
section
variable{X:Cx}
def Rn(K:W.Frag)(H:Hp)(v:V)(a:List Int×List Int):Prop:=∃p p1 p2,v=.ref p∧SqT K H p [.ref p1,.ref p2]∧SqT K H p1 (a.1.map V.int)∧SqT K H p2 (a.2.map V.int)
def Ahz(K:W.Frag):List V→Hp→VK→Prop:=fun xs H Q=>∃l vs,∃ps:Nat→List Int×List Int,xs=[.ref l]∧SqL K H l vs∧0<vs.length∧(∀(i:Nat)(v:V),vs[i]? = some v→Rn K H v (ps i)) ∧
 ∀v,vs[argBest (fun i j=>Gj (ps i) (ps j)) (vs.length-1)]? = some v→Q v H
theorem AbP{x y:Addr}{us:List Value}(r:Vals [V.ref x,V.ref y] us):us=[.ref x,.ref y]:=by
 obtain⟨a,b,rfl,r1,r2⟩:=vals2 r
 cases(show a=.ref x from r1)
 cases(show b=.ref y from r2)
 rfl
theorem Qm{h:Heap}:∀{us:List Value} {ns:List Int},IntsAre us ns→∃as,ReadsAll h us (Dt.pys (ns.map Dt.int)) as
 |_,_,.nil=>⟨_,by rw[List.map_nil,Dt.pys];exact .nil⟩
 | _,_,.cons n t r=>by
  obtain⟨as,q⟩:=Qm (h:=h) r
  exact⟨_,by rw[List.map_cons,Dt.pys,Dt.py];exact .cons (.int n t) q⟩
theorem TX{h:Heap}{a:Addr}{its:Array Value}{ns:List Int}(t:IsTup h a its)(i:IntsAre its.toList ns):∃as,Reads h (.ref a) (Iw ns).py as:=by
 obtain⟨o,h1,h2,n,h3⟩:=t
 obtain⟨as,r⟩:=Qm (h:=h) i
 exact⟨_,by rw[Dt.py];exact .tuple h1 h2 h3 r⟩
theorem WM{A:Around}{s:Shared}{a b:Addr}{i1 i2:Array Value}{ns ms:List Int}(t1:IsTup s.heap a i1)(t2:IsTup s.heap b i2)(n1:IntsAre i1.toList ns)(n2:IntsAre i2.toList ms)(hu:A.units+8<cLine):EqAt A s (.ref a) (.ref b) (decide (ns=ms)):=by
 have fl:∀ns:List Int,(Iw ns).flat 8=true:=fun ns=>Qz ns
 obtain⟨ca,da⟩:=Gq _ 8 (fl ns)
 obtain⟨cb,db⟩:=Gq _ 8 (fl ms)
 obtain⟨as,q1⟩:=TX t1 n1
 obtain⟨bs,q2⟩:=TX t2 n2
 have h:=SeqAt.eqAt_reads _ _ A s _ _ as bs q1 q2 ca cb (by omega)
 rw[Qf _ _ ca cb]at h
 have ee:(Iw ns).eq (Iw ms)=decide (ns=ms):=by
  show Dt.eq (.tup _) (.tup _)=_
  rw[V9,Ur]
 rw[ee]at h
 exact h
theorem Abk(hc:X.calm=true)(hu:X.A.in1.units+16<cLine):J2 X (.builtin "min") (Ahz X.K):=by
 intro pins s σ H xs us Q I r h
 obtain⟨l,vs,ps,rfl,hl,ne,each,q⟩:=h
 obtain⟨u,rfl,r1⟩:=vals1 r
 cases r1
 obtain⟨its,rv,pl,_⟩:=I.list hl
 have hlen:its.length=vs.length:=rv.length.symm
 have ll:l<s.heap.objs.size:=by
  obtain⟨_,e,_⟩:=pl.isList
  exact Heap.lt_size e
 refine Vw (wpAny_pyIter_list pl.isList ?_)
 refine⟨s.heap.objs.size,[s.heap.objs.size,l],[s.heap.objs.size],its.toArray.size,fun i v=>its.toArray[i]? = some v,_,fun i j=>Gj (ps i) (ps j),rfl,Walks.list (A:=X.A.in1) (I.ok.hd hc) _ l (Nat.ne_of_lt ll) its.toArray,⟨⟨_,Heap.get?_push_size _ rfl,rfl,rfl⟩,pl.isList.push _⟩,fun b hb=>?_,?_,?_,?_⟩
 ·show b<(s.heap.push _).objs.size
  rw[Heap.size_push]
  have hb:b=s.heap.objs.size∨b=l:=by simpa using hb
  rcases hb with e|e
  ·rw[e];exact Nat.lt_succ_self _
  ·rw[e];exact Nat.lt_succ_of_lt ll
 ·rw[List.size_toArray];omega
 ·intro h1 k1 i j x y s' Q' E' kept hx hy q'
  have go:∀a o,s.heap.get? a=some o→s'.heap.get? a=some o:=fun a o eo=>by
   have la:=Heap.lt_size eo
   refine kept a o (fun z=>?_) (fun z=>?_) (k1 a o (Heap.get?_push_of_some _ eo))
   ·have e2:a=s.heap.objs.size:=by simpa using z
    exact Nat.lt_irrefl _ (e2 ▸ la)
   ·have e2:a=(s.heap.push _).objs.size:=z
    rw[Heap.size_push]at e2
    exact Nat.lt_irrefl _ (Nat.lt_of_succ_lt (e2 ▸ la))
  have tup:∀{a:Addr} {xs:List V},SqT X.K H a xs→∃us:List Value,Vals xs us∧IsTup s'.heap a us.toArray:=fun{a xs} ht=>by
   obtain⟨us,r3,⟨o,eo,rest⟩,_⟩:=I.tuple ht
   exact⟨us,r3,o,go a o eo,rest⟩
  have fact:∀(i:Nat)(x:Value),its.toArray[i]? = some x→∃p p1 p2 i1 i2,x=.ref p∧IsTup s'.heap p [Value.ref p1,.ref p2].toArray∧IsTup s'.heap p1 i1∧IsTup s'.heap p2 i2∧IntsAre i1.toList (ps i).1∧IntsAre i2.toList (ps i).2:=fun i x hx=>by
   obtain⟨v,e1,r2⟩:=Vals.at rv i x (by simpa using hx)
   obtain⟨p,p1,p2,rfl,t0,t1,t2⟩:=each i v e1
   cases r2
   obtain⟨us,r0,u0⟩:=tup t0
   obtain⟨u1,r1,w1⟩:=tup t1
   obtain⟨u2,r2,w2⟩:=tup t2
   rw[AbP r0]at u0
   exact⟨p,p1,p2,u1.toArray,u2.toArray,rfl,u0,w1,w2,intsAre_of r1,intsAre_of r2⟩
  obtain⟨p,p1,p2,i1,i2,rfl,a0,a1,a2,n1,n2⟩:=fact i x hx
  obtain⟨b,b1,b2,j1,j2,rfl,c0,c1,c2,m1,m2⟩:=fact j y hy
  have in2:X.A.in1.in1.units=X.A.in1.units+1:=rfl
  refine AbY a0 c0 ?_ (by omega) q'
  show Lex X.A.in1.in1 s' [.ref p1,.ref p2] [.ref b1,.ref b2] _
  have e1:=WM (A:=X.A.in1.in1) a1 c1 n1 m1 (by omega)
  have e2:=WM (A:=X.A.in1.in1) a2 c2 n2 m2 (by omega)
  show Lex X.A.in1.in1 s' [.ref p1,.ref p2] [.ref b1,.ref b2] (if(ps i).1=(ps j).1 then HT.lexLt (ps i).2 (ps j).2 else HT.lexLt (ps i).1 (ps j).1)
  by_cases h1:(ps i).1=(ps j).1
  ·rw[if_pos h1]
   rw[decide_eq_true h1]at e1
   refine .eq e1 ?_
   by_cases h2:(ps i).2=(ps j).2
   ·rw[decide_eq_true h2]at e2
    rw[h2]
    have:HT.lexLt (ps j).2 (ps j).2=false:=MK _
    rw[this]
    exact .eq e2 .nn
   ·rw[decide_eq_false h2]at e2
    exact .lt e2 fun prog w E Q h=>HT.Qi a2 c2 n2 m2 (by omega) h
  ·rw[if_neg h1]
   rw[decide_eq_false h1]at e1
   exact .lt e1 fun prog w E Q h=>HT.Qi a1 c1 n1 m1 (by omega) h
 ·intro v h' tk hv k
  obtain⟨x,e1,r2⟩:=Vals.at rv _ v (by simpa using hv)
  rw[hlen]at e1
  refine⟨x,H,I.kept fun b o e=>k b o (fun z=>?_) (Heap.get?_push_of_some _ e),r2,q x e1⟩
  have e2:b=s.heap.objs.size:=by simpa using z
  have e3:=Heap.lt_size e
  exact Nat.lt_irrefl _ (e2 ▸ e3)
def Lq(ps:List (List Int×List Int)):Nat:=argBest (fun i j=>Gj (ps.getD i ([],[])) (ps.getD j ([],[]))) (ps.length-1)
def Ahc:DL:=fun ds Q=>∃ps:List (List Int×List Int),ds=[.lst (ps.map Od)]∧0<ps.length∧Lq ps<ps.length∧Q (Od (ps.getD (Lq ps) ([],[])))
theorem ints_of{K:W.Frag}{M:Hp}{ns:List Int}{xs:List V}(r:RpL K M (ns.map Dt.int) xs):xs=ns.map V.int:=by
 induction ns generalizing xs with
 |nil=>exact BX.mp r
 | cons n ns ih =>
  obtain⟨v,w,rfl,r1,r2⟩:=Bj.mp r
  rw[Bl.mp r1,ih r2]
  rfl
theorem Ae6{K:W.Frag}{M:Hp}{a:List Int×List Int}{v:V}(r:Rp K M (Od a) v):Rn K M v a:=by
 obtain⟨p,xs,rfl,h1,h2⟩:=Em.mp r
 obtain⟨v1,w1,rfl,r1,h2⟩:=Bj.mp h2
 obtain⟨v2,w2,rfl,r2,h2⟩:=Bj.mp h2
 obtain rfl:=BX.mp h2
 obtain⟨p1,x1,rfl,g1,k1⟩:=Em.mp r1
 obtain⟨p2,x2,rfl,g2,k2⟩:=Em.mp r2
 rw[ints_of k1]at g1
 rw[ints_of k2]at g2
 exact⟨p,p1,p2,rfl,h1,g1,g2⟩
theorem Rn.mono{K:W.Frag}{M M':Hp}{a:List Int×List Int}{v:V}(s:Same M M')(h:Rn K M v a):Rn K M' v a:=by
 obtain⟨p,p1,p2,e,h1,h2,h3⟩:=h
 exact⟨p,p1,p2,e,s.mD h1,s.mD h2,s.mD h3⟩
theorem Adk{K:W.Frag}:WR K (Ahz K) Ahc where
 mono:=fun hq ⟨ps,e,n0,lt,h⟩=>⟨ps,e,n0,lt,hq _ h⟩
 ok:=fun O H ds xs Q _ r ⟨ps,e,n0,lt,h⟩=>by
  subst e
  obtain⟨x,r',rfl,r2,r3⟩:=Bj.mp r
  obtain rfl:=BX.mp r3
  obtain⟨l,vs,rfl,hs,hl⟩:=Hw r2
  have len:vs.length=ps.length:=by rw[hl.len,List.length_map]
  have at':∀(i:Nat)(v:V),vs[i]? = some v→Rp K (mask O H) (Od (ps.getD i ([],[]))) v:=fun i v e=>by
   obtain⟨d,e1,e2⟩:=hl.get' e
   rw[List.getElem?_map]at e1
   cases w:ps[i]? with
   |none=>rw[w]at e1;cases e1
   | some a =>
    rw[w]at e1
    cases e1
    rw[List.getD_eq_getElem?_getD,w]
    exact e2
  refine⟨l,vs,fun i=>ps.getD i ([],[]),rfl,Bv.seq hs,by omega,fun i v e=>(Ae6 (at' i v e)).mono Bv,fun v e=>?_⟩
  rw[len]at e
  exact h v H (Same.refl H) (at' _ v e)
theorem AeF{a:Expr}{tl:DTA}{p pos:Pos}(hm:X.mg "min"=none)(hu:X.A.in1.units+16<cLine)(ha:DA X [a] tl)(hc:X.calm=true:=by rfl)(hg:Gl X "min":=by rfl)(hv:bootBuiltins "min"=some (.builtin "min"):=by rfl)(he:starEach [a] X.env=(false,eval a X.env)::starEach [] X.env:=by rfl)
  (hpl:(backTo pos (starEach [] X.env)).any (·.1)=false:=by rfl):DE X (.Call (.Name "min" p) [a] [] pos) (dCB Ahc tl):=Ti (Abk hc hu) Adk hg hm hv ha (he:=he) (hpl:=hpl)
theorem AhE{A:Around}(h:A.units+64<cLine):A.in1.units+16<cLine:=by show A.units+1+16<cLine;omega
end
section
variable{X:Cx}{a b:Expr}{ta tb:DTE}{pos:Pos}
end
section
variable{X:Cx}{e:Expr}{te:DTE}
end
section
variable{P:Program}{w:World}{A:Around}{E:Value→Shared→Prop}{s:Shared}
theorem Pq{j t:Addr}{n:Nat}{its:Array Value}{v:Value}{Q:Value→Shared→Prop}(hj:s.heap.IsTupleIter j t n)(ht:s.heap.IsTuple t its)(hv:its[n]? = some v)
  (q:∀g,g.IsTupleIter j t (n+1)→Heap.SameBut j s.heap g→Q v {s with heap:=g}):wpAny (model P w) A (Builtin.SmallTypes.nextOf (.ref j)) Q E s:=by
 obtain⟨oj,gj,cj,dj⟩:=id hj
 obtain⟨ot,gt,_,nt,dt⟩:=ht
 unfold Builtin.SmallTypes.nextOf
 refine wpAny_bind (wpAny_callSpecial?_slot (name:=Str.ofString "__next__") hj.typeIs F.slot_tuple_iterator_next (wpAny_call_entry F.slot_tuple_iterator_next hj.typeIs F.entry_tuple_iterator_next ?_ (F.args_tuple_iterator_next_1 _)))
 show wpAny _ _ (field (.ref j) 0 >>= _) _ _ s
 refine wpAny_bind (wpAny_field gj dj (x:=.ref t) rfl ?_)
 show wpAny _ _ (if(Value.ref t==Value.none)=true then _ else _) _ _ _
 rw[if_neg (show ¬(Value.ref t==Value.none)=true from Bool.false_ne_true)]
 show wpAny _ _ (field (.ref j) 1 >>= _) _ _ s
 refine wpAny_bind (wpAny_field gj dj (x:=.int n 0) rfl ?_)
 show wpAny _ _ (seqItems? (.ref t) >>= _) _ _ _
 refine wpAny_bind (wpAny_seqItems gt dt ?_)
 simp only[Int.toNat_natCast,hv]
 exact wpAny_bind (wpAny_setField gj dj (by simp) (wpAny_pure ⟨v,rfl,wpAny_pure (q _ ⟨_,Heap.get?_update_self _ gj (Obj.isFreed_of_fields (Obj.data_mapFields dj _)),(Obj.cls_mapFields ..).trans cj,by rw[Obj.data_mapFields dj];simp[rawInt]⟩ (Heap.SameBut.update ..))⟩))
theorem AcM{j t:Addr}{n:Nat}{its:Array Value}{Q:Value→Shared→Prop}(hh:A.handled=none)(hj:s.heap.IsTupleIter j t n)(ht:s.heap.IsTuple t its)(hv:its[n]? = none)
  (q:∀g e,Heap.ExtBut j s.heap g→(∃o,g.get? e=some o∧o.cls=.type "StopIteration")→E (.ref e) {s with heap:=g}):wpAny (model P w) A (Builtin.SmallTypes.nextOf (.ref j)) Q E s:=by
 obtain⟨oj,gj,cj,dj⟩:=id hj
 obtain⟨ot,gt,_,nt,dt⟩:=ht
 unfold Builtin.SmallTypes.nextOf
 refine wpAny_bind (wpAny_callSpecial?_slot (name:=Str.ofString "__next__") hj.typeIs F.slot_tuple_iterator_next (wpAny_call_entry F.slot_tuple_iterator_next hj.typeIs F.entry_tuple_iterator_next ?_ (F.args_tuple_iterator_next_1 _)))
 show wpAny _ _ (field (.ref j) 0 >>= _) _ _ s
 refine wpAny_bind (wpAny_field gj dj (x:=.ref t) rfl ?_)
 show wpAny _ _ (if(Value.ref t==Value.none)=true then _ else _) _ _ _
 rw[if_neg (show ¬(Value.ref t==Value.none)=true from Bool.false_ne_true)]
 show wpAny _ _ (field (.ref j) 1 >>= _) _ _ s
 refine wpAny_bind (wpAny_field gj dj (x:=.int n 0) rfl ?_)
 show wpAny _ _ (seqItems? (.ref t) >>= _) _ _ _
 refine wpAny_bind (wpAny_seqItems gt dt ?_)
 simp only[Int.toNat_natCast,hv]
 refine wpAny_bind (wpAny_rule (wpAny_bind (wpAny_setField gj dj (by simp) ?_)))
 show wpAny _ _ (newExc (.type "StopIteration") [] >>= _) _ _ _;refine wpAny_bind ?_
 simp only[newExc,newTuple];refine wpAny_bind (wpAny_newObj_type ?_ (by size_fits))
 refine wpAny_bind (m:=firstArgMember _ _) (wpAny_of_eq (a:=Value.none) (by first|(simp only[firstArgMember];rfl)|rfl) ?_);refine wpAny_newObj_type ?_ (by size_fits)
 simp only[raiseNew];refine wpAny_bind (wpAny_handled ?_)
 first|rw[hh]|rw[show A.in1.handled=none from hh]
 exact wpAny_bind (wpAny_pure (wpAny_throw (q _ _ (((Heap.SameBut.update ..).extBut.push _).push _) ⟨_,Heap.get?_push_size _ rfl,rfl⟩)))
def Jk(h:Heap)(z p o:Addr)(u v:Value):Prop:=h.get? z=some {cls:=.type "zip",dict:=none,data:=.fields #[u,v,.bool false,.ref p,.ref o],slots:=#[]}
def AiT(u:Value):Prop:=u=.none∨∃k t,u=.int k t
structure PN(z p o i j a b:Addr):Prop where
 pz:p≠z
 oz:o≠z
 iz:i≠z
 jz:j≠z
 po:p≠o
 pi:p≠i
 pj:p≠j
 oi:o≠i
 oj:o≠j
 ij:i≠j
 az:a≠z
 ao:a≠o
 ai:a≠i
 aj:a≠j
 bz:b≠z
 bo:b≠o
 bi:b≠i
 bj:b≠j
structure La(h:Heap)(z p o i j a b:Addr)(k:Nat)(xs ys:Array Value):Prop where
 zip:∃u v,Jk h z p o u v∧AiT u
 its:IsPair h p (.ref i) (.ref j)
 row:∃x y,IsPair h o x y
 i1:h.IsTupleIter i a k
 i2:h.IsTupleIter j b k
 t1:h.IsTuple a xs
 t2:h.IsTuple b ys
theorem Wn{M:Model}{a:Addr}{Q:Option Obj→Shared→Prop}(h:Q (s.heap.get? a) s):wpAny M A (loadIfAlive a) Q E s:=fun Γ p _=>by
 show Sem.wp M Γ (.loadIfAlive a _) _ _ p s
 rw[Sem.wp_loadIfAlive]
 exact(Sem.wp_pure ..).mpr h
theorem Aat{z p o:Addr}{u v:Value}(hz:Jk s.heap z p o u v)(hu:AiT u):wpAny (model P w) A (Builtin.SmallTypes.ownedTupleIsFree (.ref z)) (fun _ s'=>∃g v',s'={s with heap:=g}∧Jk g z p o u v'∧Heap.SameBut z s.heap g) E s:=by
 unfold Builtin.SmallTypes.ownedTupleIsFree
 refine wpAny_bind (wpAny_field hz rfl (x:=u) rfl ?_)
 rcases hu with rfl|⟨n,tk,rfl⟩
 ·exact wpAny_pure ⟨s.heap,v,rfl,hz,rfl,fun _ _=>rfl⟩
 ·show wpAny _ _ (loadIfAlive n.toNat >>= _) _ _ _
  refine wpAny_bind (Wn ?_)
  cases hg:s.heap.get? n.toNat with
  |none=>exact wpAny_pure ⟨s.heap,v,rfl,hz,rfl,fun _ _=>rfl⟩
  | some _ =>
   show wpAny _ _ (field (.ref z) 1 >>= _) _ _ _
   refine wpAny_bind (wpAny_field hz rfl (x:=v) rfl ?_)
   by_cases hv:(v != Value.bool true)=true
   ·dsimp only
    rw[if_pos hv]
    exact wpAny_bind (wpAny_setField_rec hz (by simp) fun g z1 s1=>wpAny_pure ⟨g,.bool true,rfl,z1,s1⟩)
   ·dsimp only
    rw[if_neg hv]
    exact wpAny_pure ⟨s.heap,v,rfl,hz,rfl,fun _ _=>rfl⟩
theorem Adl{z p o i j a b:Addr}{k:Nat}{xs ys:Array Value}{x y:Value}{Q:Value→Shared→Prop}(D:PN z p o i j a b)(Z:La s.heap z p o i j a b k xs ys)(hx:xs[k]? = some x)(hy:ys[k]? = some y)
  (q:∀g T,La g z p o i j a b (k+1) xs ys→IsPair g T x y→s.heap.objs.size≤T→(∀c m,c≠z→c≠o→c≠i→c≠j→s.heap.get? c=some m→g.get? c=some m)→Q (.ref T) {s with heap:=g}) :
  wpAny (model P w) A (Builtin.«zip.__next__» ⟨[.ref z],[]⟩) (fun fin s'=>∃v,fin=.done (.ret v)∧Q v s') E s:=by
 obtain⟨⟨u,v,hz,hu⟩,hp,⟨x0,y0,ho⟩,h1,h2,l1,l2⟩:=Z
 show wpAny _ _ (field (.ref z) 2 >>= _) _ _ _
 refine wpAny_bind (wpAny_field hz rfl (x:=.bool false) rfl ?_)
 show wpAny _ _ (field (.ref z) 3 >>= _) _ _ _
 refine wpAny_bind (wpAny_field hz rfl (x:=.ref p) rfl (wpAny_bind (wpAny_seqItems hp rfl ?_)))
 show wpAny _ _ (Builtin.SmallTypes.ownedTupleIsFree (.ref z) >>= _) _ _ _
 refine wpAny_bind (wpAny_mono (Aat hz hu) (fun r s' ⟨g,v',e,hz',sb⟩=>?_) fun _ _ z=>z)
 subst e
 cases r with
 | true =>
  simp only[if_true]
  refine wpAny_bind (wpAny_rule (wpAny_bind (wpAny_field hz' rfl (x:=.ref o) rfl ?_)))
  refine wpAny_bind (wpAny_setField_rec hz' (by simp) fun g1 z1 s1=>?_)
  replace z1:Jk g1 z p o .ellipsis v':=z1
  refine wpAny_bind ?_
  simp only[List.zipIdx_cons,List.zipIdx_nil,List.forIn_cons,List.forIn_nil]
  have b1:∀c m,c≠z→s.heap.get? c=some m→g1.get? c=some m:=fun c m n e=>s1.extBut _ _ n (sb.extBut _ _ n e)
  refine wpAny_bind (wpAny_bind (wpAny_onRaise ?_))
  show wpAny _ _ (Builtin.SmallTypes.nextOf (.ref i) >>= _) _ _ _
  refine wpAny_bind (Pq (s:={s with heap:=g1}) (h1.at fun m e=>b1 _ m D.iz e) (l1.at fun m e=>b1 _ m D.az e) hx fun g2 i2 s2=>wpAny_pure ?_)
  have o2:IsPair g2 o x0 y0:=s2.extBut _ _ D.oi (b1 _ _ D.oz ho)
  refine wpAny_bind (wpAny_seqItems o2 rfl (wpAny_bind (wpAny_updateSeq_pair o2 fun g3 o3 s3=>wpAny_bind (wpAny_letGo (wpAny_pure ?_)))))
  replace o3:IsPair g3 o x y0:=o3
  have b3:∀c m,c≠z→c≠i→c≠o→s.heap.get? c=some m→g3.get? c=some m:=fun c m n1 n2 n3 e=>s3.extBut _ _ n3 (s2.extBut _ _ n2 (b1 _ _ n1 e))
  refine wpAny_bind (wpAny_bind (wpAny_onRaise ?_))
  show wpAny _ _ (Builtin.SmallTypes.nextOf (.ref j) >>= _) _ _ _
  refine wpAny_bind (Pq (s:={s with heap:=g3}) (h2.at fun m e=>b3 _ m D.jz D.ij.symm D.oj.symm e) (l2.at fun m e=>b3 _ m D.bz D.bi D.bo e) hy fun g4 j4 s4=>wpAny_pure ?_)
  have o4:IsPair g4 o x y0:=s4.extBut _ _ D.oj o3
  refine wpAny_bind (wpAny_seqItems o4 rfl (wpAny_bind (wpAny_updateSeq_pair o4 fun g5 o5 s5=>wpAny_bind (wpAny_letGo (wpAny_pure (wpAny_pure ?_))))))
  replace o5:IsPair g5 o x y:=o5
  have b5:∀c m,c≠z→c≠o→c≠i→c≠j→s.heap.get? c=some m→g5.get? c=some m:=fun c m n1 n2 n3 n4 e=>s5.extBut _ _ n2 (s4.extBut _ _ n4 (b3 _ _ n1 n3 n2 e))
  have z5:Jk g5 z p o .ellipsis v':=s5.extBut _ _ D.oz.symm (s4.extBut _ _ D.jz.symm (s3.extBut _ _ D.oz.symm (s2.extBut _ _ D.iz.symm z1)))
  have i5:g5.IsTupleIter i a (k+1):=i2.at fun m e=>s5.extBut _ _ D.oi.symm (s4.extBut _ _ D.ij (s3.extBut _ _ D.oi.symm e))
  have j5:g5.IsTupleIter j b (k+1):=j4.at fun m e=>s5.extBut _ _ D.oj.symm e
  have sz:g5.objs.size=s.heap.objs.size:=by rw[s5.1,s4.1,s3.1,s2.1,s1.1,sb.1]
  refine wpAny_bind (wpAny_seqItems o5 rfl (wpAny_bind (wpAny_newTuple ?_)))
  show wpAny _ _ (Builtin.SmallTypes.ownedTupleHandOut (.ref z) (.ref g5.objs.size) >>= _) _ _ _
  refine wpAny_bind ?_
  unfold Builtin.SmallTypes.ownedTupleHandOut
  have z6:Jk (g5.push {cls:=.type "tuple",data:=.seq #[x,y]}) z p o .ellipsis v':=Heap.get?_push_of_some _ z5
  refine wpAny_bind (wpAny_setField_rec z6 (by simp) fun g7 z7 s7=>?_)
  replace z7:Jk g7 z p o (rawInt g5.objs.size) v':=z7
  refine wpAny_setField_rec z7 (by simp) fun g8 z8 s8=>wpAny_pure ⟨_,rfl,?_⟩
  replace z8:Jk g8 z p o (rawInt g5.objs.size) (.bool false):=z8
  have b8:∀c m,c≠z→g5.get? c=some m→g8.get? c=some m:=fun c m n e=>s8.extBut _ _ n (s7.extBut _ _ n (Heap.get?_push_of_some _ e))
  have lz:z<g5.objs.size:=Heap.lt_size z5
  refine q g8 g5.objs.size ⟨⟨_,_,z8,.inr ⟨_,_,rfl⟩⟩,b8 _ _ D.pz (b5 _ _ D.pz D.po D.pi D.pj hp),⟨x,y,b8 _ _ D.oz o5⟩,i5.at fun m e=>b8 _ m D.iz e,j5.at fun m e=>b8 _ m D.jz e,l1.at fun m e=>b8 _ m D.az (b5 _ m D.az D.ao D.ai D.aj e),l2.at fun m e=>b8 _ m D.bz (b5 _ m D.bz D.bo D.bi D.bj e)⟩ ?_ (by rw[sz];exact Nat.le_refl _) fun c m n1 n2 n3 n4 e=>b8 c m n1 (b5 c m n1 n2 n3 n4 e)
  exact s8.extBut _ _ (Nat.ne_of_gt lz) (s7.extBut _ _ (Nat.ne_of_gt lz) (Heap.get?_push_size _ rfl))
 | false =>
  simp only[Bool.false_eq_true,if_false]
  rw[←Array.forIn_toList]
  simp only[List.forIn_cons,List.forIn_nil]
  have b0:∀c m,c≠z→s.heap.get? c=some m→g.get? c=some m:=fun c m n e=>sb.extBut _ _ n e
  refine wpAny_bind (wpAny_bind (wpAny_bind (wpAny_holding ?_)))
  show wpAny _ _ (Builtin.SmallTypes.nextOf (.ref i) >>= _) _ _ _
  refine wpAny_bind (Pq (s:={s with heap:=g}) (h1.at fun m e=>b0 _ m D.iz e) (l1.at fun m e=>b0 _ m D.az e) hx fun g2 i2 s2=>wpAny_pure (wpAny_pure ?_))
  have b2:∀c m,c≠z→c≠i→s.heap.get? c=some m→g2.get? c=some m:=fun c m n1 n2 e=>s2.extBut _ _ n2 (b0 _ _ n1 e)
  refine wpAny_bind (wpAny_bind (wpAny_holding ?_))
  show wpAny _ _ (Builtin.SmallTypes.nextOf (.ref j) >>= _) _ _ _
  refine wpAny_bind (Pq (s:={s with heap:=g2}) (h2.at fun m e=>b2 _ m D.jz D.ij.symm e) (l2.at fun m e=>b2 _ m D.bz D.bi e) hy fun g4 j4 s4=>wpAny_pure (wpAny_pure (wpAny_pure ?_)))
  have b4:∀c m,c≠z→c≠i→c≠j→s.heap.get? c=some m→g4.get? c=some m:=fun c m n1 n2 n3 e=>s4.extBut _ _ n3 (b2 _ _ n1 n2 e)
  have z4:Jk g4 z p o u v':=s4.extBut _ _ D.jz.symm (s2.extBut _ _ D.iz.symm hz')
  have i4:g4.IsTupleIter i a (k+1):=i2.at fun m e=>s4.extBut _ _ D.ij e
  have sz:g4.objs.size=s.heap.objs.size:=by rw[s4.1,s2.1,sb.1]
  have up:∀{c m},g4.get? c=some m→(g4.push {cls:=.type "tuple",data:=.seq #[x,y]}).get? c=some m:=fun e=>Heap.get?_push_of_some _ e
  refine wpAny_bind (wpAny_newTuple (wpAny_pure ⟨_,rfl,?_⟩) (show 2≤sizeLine by decide))
  exact q _ g4.objs.size ⟨⟨_,_,up z4,hu⟩,up (b4 _ _ D.pz D.pi D.pj hp),⟨x0,y0,up (b4 _ _ D.oz D.oi D.oj ho)⟩,i4.at fun m e=>up e,j4.at fun m e=>up e,l1.at fun m e=>up (b4 _ m D.az D.ai D.aj e),l2.at fun m e=>up (b4 _ m D.bz D.bi D.bj e)⟩ (Heap.get?_push_size _ rfl) (by rw[sz];exact Nat.le_refl _) fun c m n1 n2 n3 n4 e=>up (b4 c m n1 n3 n4 e)
theorem Af6{z p o i j a b:Addr}{k:Nat}{xs ys:Array Value}{Q:Fin→Shared→Prop}(hh:A.handled=none)(D:PN z p o i j a b)(Z:La s.heap z p o i j a b k xs ys)(hx:xs[k]? = none)
  (q:∀g e,(∀c m,c≠z→c≠o→c≠i→c≠j→s.heap.get? c=some m→g.get? c=some m)→(∃m,g.get? e=some m∧m.cls=.type "StopIteration")→E (.ref e) {s with heap:=g}) :
  wpAny (model P w) A (Builtin.«zip.__next__» ⟨[.ref z],[]⟩) Q E s:=by
 obtain⟨⟨u,v,hz,hu⟩,hp,⟨x0,y0,ho⟩,h1,h2,l1,l2⟩:=Z
 show wpAny _ _ (field (.ref z) 2 >>= _) _ _ _
 refine wpAny_bind (wpAny_field hz rfl (x:=.bool false) rfl ?_)
 show wpAny _ _ (field (.ref z) 3 >>= _) _ _ _
 refine wpAny_bind (wpAny_field hz rfl (x:=.ref p) rfl (wpAny_bind (wpAny_seqItems hp rfl ?_)))
 show wpAny _ _ (Builtin.SmallTypes.ownedTupleIsFree (.ref z) >>= _) _ _ _
 refine wpAny_bind (wpAny_mono (Aat hz hu) (fun r s' ⟨g,v',e,hz',sb⟩=>?_) fun _ _ z=>z)
 subst e
 cases r with
 | true =>
  simp only[if_true]
  refine wpAny_bind (wpAny_rule (wpAny_bind (wpAny_field hz' rfl (x:=.ref o) rfl ?_)))
  refine wpAny_bind (wpAny_setField_rec hz' (by simp) fun g1 z1 s1=>?_)
  replace z1:Jk g1 z p o .ellipsis v':=z1
  refine wpAny_bind ?_
  simp only[List.zipIdx_cons,List.zipIdx_nil,List.forIn_cons,List.forIn_nil]
  have b1:∀c m,c≠z→s.heap.get? c=some m→g1.get? c=some m:=fun c m n e=>s1.extBut _ _ n (sb.extBut _ _ n e)
  refine wpAny_bind (wpAny_bind (wpAny_onRaise ?_))
  show wpAny _ _ (Builtin.SmallTypes.nextOf (.ref i) >>= _) _ _ _
  refine wpAny_bind (AcM (s:={s with heap:=g1}) hh (h1.at fun m e=>b1 _ m D.iz e) (l1.at fun m e=>b1 _ m D.az e) hx fun g2 e s2 ⟨m,he,hc⟩=>?_)
  have z2:Jk g2 z p o .ellipsis v':=s2 _ _ D.iz.symm z1
  have ne:e≠z:=fun x=>by subst x;rw[z2]at he;cases he;simp at hc
  exact wpAny_setField_rec z2 (by simp) fun g3 _ s3=>q g3 e (fun c m n1 _ n3 _ e=>s3.extBut _ _ n1 (s2 _ _ n3 (b1 _ _ n1 e))) ⟨m,s3.extBut _ _ ne he,hc⟩
 | false =>
  simp only[Bool.false_eq_true,if_false]
  rw[←Array.forIn_toList]
  simp only[List.forIn_cons,List.forIn_nil]
  refine wpAny_bind (wpAny_bind (wpAny_bind (wpAny_holding ?_)))
  show wpAny _ _ (Builtin.SmallTypes.nextOf (.ref i) >>= _) _ _ _
  exact wpAny_bind (AcM (s:={s with heap:=g}) hh (h1.at fun m e=>sb.extBut _ m D.iz e) (l1.at fun m e=>sb.extBut _ m D.az e) hx fun g2 e s2 he=>q g2 e (fun c m n1 _ n3 _ e=>s2 _ _ n3 (sb.extBut _ _ n1 e)) he)
theorem AbJ{z p o i j a b:Addr}{k:Nat}{xs ys:Array Value}{x y:Value}{Q:Option Value→Shared→Prop}(D:PN z p o i j a b)(Z:La s.heap z p o i j a b k xs ys)(hx:xs[k]? = some x)(hy:ys[k]? = some y)
  (q:∀g T,La g z p o i j a b (k+1) xs ys→IsPair g T x y→s.heap.objs.size≤T→(∀c m,c≠z→c≠o→c≠i→c≠j→s.heap.get? c=some m→g.get? c=some m)→Q (some (.ref T)) {s with heap:=g}) :
  wpAny (model P w) A (pyNext (.ref z)) Q E s:=by
 obtain⟨u,v,hz,_⟩:=Z.zip
 have ty:s.TypeIs (.ref z) "zip":=⟨_,hz,rfl⟩
 unfold pyNext
 exact wpAny_bind (wpAny_attempt (wpAny_callSpecial?_slot (name:=Str.ofString "__next__") ty F.slot_zip_next (wpAny_call_entry F.slot_zip_next ty F.entry_zip_next (Adl D Z hx hy fun g T e1 e2 e3 e4=>wpAny_pure (q g T e1 e2 e3 e4)) (F.args_zip_next_1 _))))
theorem AdS{z p o i j a b:Addr}{k:Nat}{xs ys:Array Value}{Q:Option Value→Shared→Prop}(hh:A.handled=none)(D:PN z p o i j a b)(Z:La s.heap z p o i j a b k xs ys)(hx:xs[k]? = none)
  (q:∀g,(∀c m,c≠z→c≠o→c≠i→c≠j→s.heap.get? c=some m→g.get? c=some m)→Q none {s with heap:=g}):wpAny (model P w) A (pyNext (.ref z)) Q E s:=by
 obtain⟨u,v,hz,_⟩:=Z.zip
 have ty:s.TypeIs (.ref z) "zip":=⟨_,hz,rfl⟩
 unfold pyNext
 refine wpAny_bind (wpAny_attempt (wpAny_callSpecial?_slot (name:=Str.ofString "__next__") ty F.slot_zip_next (wpAny_call_entry F.slot_zip_next ty F.entry_zip_next (Af6 hh D Z hx fun g e hk ⟨m,he,hc⟩=>?_) (F.args_zip_next_1 _))))
 exact wpAny_bind (wpAny_isInstance (T:="StopIteration") (b:=true) ⟨m,he,hc⟩ isSubtype_stop (wpAny_pure (q _ hk)))
theorem Vq{z p o:Addr}{u v:Value}{Q:Value→Shared→Prop}(hz:Jk s.heap z p o u v)(q:Q (.ref z) s):wpAny (model P w) A (pyIter (.ref z)) Q E s:=by
 have ty:s.TypeIs (.ref z) "zip":=⟨_,hz,rfl⟩
 refine wpAny_pyIter_slot ty F.slot_zip_iter (wpAny_call_entry F.slot_zip_iter ty F.entry_zip_iter ?_ (F.args_zip_iter_1 _))
 show wpAny _ _ (ret (.ref z)) _ _ _
 exact wpAny_pure ⟨_,rfl,"zip",_,ty,F.slot_zip_next.lookup,q⟩
abbrev zA(h:Heap)(a:Addr):Heap:=h.push {cls:=.type "tuple_iterator",data:=.fields #[.ref a,.int 0 0]}
abbrev zB(h:Heap)(a b:Addr):Heap:=(zA h a).push {cls:=.type "tuple_iterator",data:=.fields #[.ref b,.int 0 0]}
abbrev zC(h:Heap)(a b:Addr):Heap:=(zB h a b).push {cls:=.type "tuple",data:=.seq #[.ref h.objs.size,.ref (zA h a).objs.size]}
abbrev zD(h:Heap)(a b:Addr):Heap:=(zC h a b).push {cls:=.type "tuple",data:=.seq #[.none,.none]}
abbrev zE(h:Heap)(a b:Addr):Heap:=(zD h a b).push {cls:=.type "zip",data:=.fields #[.none,.bool false,.bool false,.ref (zB h a b).objs.size,.ref (zC h a b).objs.size]}
theorem Af2(a b:Addr)(xs ys:Array Value):Meets (Builtin.«zip.__new__» ⟨[.type "zip",.ref a,.ref b],[]⟩) (fun _ R s=>s.heap.IsTuple a xs∧s.heap.IsTuple b ys∧R (.ok (.ret (.ref (zD s.heap a b).objs.size))) {s with heap:=zE s.heap a b}) :=
 .of_wp fun P w A R s h=>by
  obtain⟨hp,gs,dr,tk,os⟩:=s;obtain⟨t1,t2,h⟩:=h
  have sz:=sub_zip
  have m1:Heap.IsTuple (Shared.heap ⟨hp,gs,dr,tk,os⟩) a xs:=t1
  have m2:Heap.IsTuple (Shared.heap ⟨hp.push {cls:=.type "tuple_iterator",data:=.fields #[.ref a,.int 0 0]},gs,dr,tk,os⟩) b ys:=Heap.IsTuple.push t2 _
  wp_walk using wpAny_pyIter_tuple m1,wpAny_pyIter_tuple m2
  exact⟨_,rfl,h⟩
theorem Ald{n a b:Nat}(la:a<n)(lb:b<n):PN (n+4) (n+2) (n+3) n (n+1) a b where
 pz:=fun e=>absurd (show(n+2:Nat)=n+4 from e) (by omega)
 oz:=fun e=>absurd (show(n+3:Nat)=n+4 from e) (by omega)
 iz:=fun e=>absurd (show(n:Nat)=n+4 from e) (by omega)
 jz:=fun e=>absurd (show(n+1:Nat)=n+4 from e) (by omega)
 po:=fun e=>absurd (show(n+2:Nat)=n+3 from e) (by omega)
 pi:=fun e=>absurd (show(n+2:Nat)=n from e) (by omega)
 pj:=fun e=>absurd (show(n+2:Nat)=n+1 from e) (by omega)
 oi:=fun e=>absurd (show(n+3:Nat)=n from e) (by omega)
 oj:=fun e=>absurd (show(n+3:Nat)=n+1 from e) (by omega)
 ij:=fun e=>absurd (show(n:Nat)=n+1 from e) (by omega)
 az:=fun e=>absurd (show(a:Nat)=n+4 from e) (by omega)
 ao:=fun e=>absurd (show(a:Nat)=n+3 from e) (by omega)
 ai:=fun e=>absurd (show(a:Nat)=n from e) (by omega)
 aj:=fun e=>absurd (show(a:Nat)=n+1 from e) (by omega)
 bz:=fun e=>absurd (show(b:Nat)=n+4 from e) (by omega)
 bo:=fun e=>absurd (show(b:Nat)=n+3 from e) (by omega)
 bi:=fun e=>absurd (show(b:Nat)=n from e) (by omega)
 bj:=fun e=>absurd (show(b:Nat)=n+1 from e) (by omega)
theorem AbW{a b:Addr}{xs ys:Array Value}{Q:Value→Shared→Prop}(t1:s.heap.IsTuple a xs)(t2:s.heap.IsTuple b ys)
  (q:∀g z p o i j,PN z p o i j a b→La g z p o i j a b 0 xs ys→(∀c∈[z,p,o,i,j],s.heap.objs.size≤c)→(∀c m,s.heap.get? c=some m→g.get? c=some m)→Q (.ref z) {s with heap:=g}) :
  wpAny (model P w) A (call (.type "zip") [.ref a,.ref b]) Q E s:=by
 refine callType_new F.called_zip (by decide) (F.typeCall_zip_2 _ _) (F.newCall_zip_2 _ _) (fun obj=>F.args_object_init_3 obj _ _) F.entry_zip_new (Af2 a b xs ys) ⟨t1,t2,?_⟩
 have n1:(zA s.heap a).objs.size=s.heap.objs.size+1:=Heap.size_push ..
 have n2:(zB s.heap a b).objs.size=s.heap.objs.size+2:=by rw[Heap.size_push,n1]
 have n3:(zC s.heap a b).objs.size=s.heap.objs.size+3:=by rw[Heap.size_push,n2]
 have n4:(zD s.heap a b).objs.size=s.heap.objs.size+4:=by rw[Heap.size_push,n3]
 have g5:(zE s.heap a b).get? (zD s.heap a b).objs.size=some _:=Heap.get?_push_size _ rfl
 have g4:(zE s.heap a b).get? (zC s.heap a b).objs.size=some _:=Heap.get?_push_of_some _ (Heap.get?_push_size _ rfl)
 have g3:(zE s.heap a b).get? (zB s.heap a b).objs.size=some _:=Heap.get?_push_of_some _ (Heap.get?_push_of_some _ (Heap.get?_push_size _ rfl))
 have g2:(zE s.heap a b).get? (zA s.heap a).objs.size=some _:=Heap.get?_push_of_some _ (Heap.get?_push_of_some _ (Heap.get?_push_of_some _ (Heap.get?_push_size _ rfl)))
 have g1:(zE s.heap a b).get? s.heap.objs.size=some _:=Heap.get?_push_of_some _ (Heap.get?_push_of_some _ (Heap.get?_push_of_some _ (Heap.get?_push_of_some _ (Heap.get?_push_size _ rfl))))
 have up:∀c m,s.heap.get? c=some m→(zE s.heap a b).get? c=some m:=fun c m e=>Heap.get?_push_of_some _ (Heap.get?_push_of_some _ (Heap.get?_push_of_some _ (Heap.get?_push_of_some _ (Heap.get?_push_of_some _ e))))
 have la:a<s.heap.objs.size:=by obtain⟨_,e,_⟩:=t1;exact Heap.lt_size e
 have lb:b<s.heap.objs.size:=by obtain⟨_,e,_⟩:=t2;exact Heap.lt_size e
 show _∧_
 refine⟨⟨_,g5,rfl⟩,q _ _ (zB s.heap a b).objs.size (zC s.heap a b).objs.size s.heap.objs.size (zA s.heap a).objs.size ?_ ⟨⟨_,_,g5,.inl rfl⟩,g3,⟨_,_,g4⟩,⟨_,g1,rfl,rfl⟩,⟨_,g2,rfl,rfl⟩,t1.at fun m e=>up _ m e,t2.at fun m e=>up _ m e⟩ ?_ up⟩
 ·rw[n1,n2,n3,n4]
  exact Ald la lb
 ·intro c hc
  simp only[List.mem_cons,List.not_mem_nil,or_false]at hc
  rw[n1,n2,n3,n4]at hc
  rcases hc with rfl|rfl|rfl|rfl|rfl
  ·exact Nat.le_add_right ..
  ·exact Nat.le_add_right ..
  ·exact Nat.le_add_right ..
  ·exact Nat.le_refl _
  ·exact Nat.le_add_right ..
end
def Itz(K:W.Frag)(a b:Addr):It :=
 ⟨fun i H=>∃xs ys x y,SqT K H a xs∧SqT K H b ys∧xs[i]? = some x∧ys[i]? = some y,
  fun i H v H'=>∃T x y,v=.ref T∧H T=none∧H'=upd H T (.tup [x,y])∧(∀xs,SqT K H a xs→xs[i]? = some x)∧∀ys,SqT K H b ys→ys[i]? = some y,
  fun i H=>∃xs ys,SqT K H a xs∧SqT K H b ys∧xs.length≤i⟩
section
variable{X:Cx}{tg:Expr}{pins:List (Addr×Obj)}{σ:St}{H:Hp}{s:Shared}{g:Heap}
theorem Inv.aep{ch:List Addr}{T:Addr}{o:HO}(I:Inv X pins σ H s)(k:∀b u,b∉ch→s.heap.get? b=some u→g.get? b=some u)(hch:∀b∈ch,MJ X pins H b)(hT:s.heap.objs.size≤T)
  (new:Et X.prog X.w (upd H T o) g T o):Inv X pins σ (upd H T o) {s with heap:=g}:=by
 have nT:H T=none:=I.hok.fresh hT
 have nit:∀b u,H b=some u→b∉ch:=fun b u e z=>by rw[(hch b z).1]at e;cases e
 have lt:∀b u,s.heap.get? b=some u→b≠T:=fun b u e=>Nat.ne_of_lt (Nat.lt_of_lt_of_le (Heap.lt_size e) hT)
 refine I.step (g':=s.gens) (d':=s.drawn) (t':=s.toks) (ch:=ch) (fun b hb=>?_) (fun b u _ _ hc e _=>k b u hc e) (fun b u _ _ hc e _=>⟨u.slots,k b u hc e⟩) (fun b u _ e n=>by rw[Am (lt b u e)];exact n)
  (fun b u hc e=>⟨u,k b u hc e⟩) (fun b xs e=>by rw[Am (Ba e nT)];exact e) (fun b u xs e=>by rw[Am (Ba e nT)];exact e) (fun b ps e=>⟨#[],by rw[Am (Ba e nT),e];simp⟩) (fun m hm=>?_) (fun b u e=>?_) I.bare
 ·obtain⟨_,f1,_,f3,f4,f5⟩:=hch b hb
  exact⟨f3,f1,f4,f5⟩
 ·obtain⟨u,es,ep,hu,r⟩:=hm
  exact⟨u,es,ep,k _ u (fun z=>(hch _ z).2.1 rfl) hu,r⟩
 ·by_cases z:b=T
  ·subst z
   rw[Aw]at e;cases e
   exact new
  ·rw[Am z]at e
   refine(I.hok b u e).stay (fun c v hc q=>k c v ?_ q) (fun c q=>by rw[Am (Ba q nT)];exact q) fun c xs q=>by rw[Am (Ba q nT)];exact q
   rcases hc with z|z
   ·rw[z];exact nit b u e
   ·exact nit c _ z
theorem Inv.aer{ch:List Addr}(I:Inv X pins σ H s)(k:∀b u,b∉ch→s.heap.get? b=some u→g.get? b=some u)(hch:∀b∈ch,MJ X pins H b):Inv X pins σ H {s with heap:=g}:=by
 have nit:∀b u,H b=some u→b∉ch:=fun b u e z=>by rw[(hch b z).1]at e;cases e
 refine I.step (g':=s.gens) (d':=s.drawn) (t':=s.toks) (ch:=ch) (fun b hb=>?_) (fun b u _ _ hc e _=>k b u hc e) (fun b u _ _ hc e _=>⟨u.slots,k b u hc e⟩) (fun b u _ e n=>n)
  (fun b u hc e=>⟨u,k b u hc e⟩) (fun b xs e=>e) (fun b u xs e=>e) (fun b ps e=>⟨#[],by rw[e];simp⟩) (fun m hm=>?_) (fun b u e=>?_) I.bare
 ·obtain⟨_,f1,_,f3,f4,f5⟩:=hch b hb
  exact⟨f3,f1,f4,f5⟩
 ·obtain⟨u,es,ep,hu,r⟩:=hm
  exact⟨u,es,ep,k _ u (fun z=>(hch _ z).2.1 rfl) hu,r⟩
 ·refine(I.hok b u e).stay (fun c v hc q=>k c v ?_ q) (fun c q=>q) fun c xs q=>q
  rcases hc with z|z
  ·rw[z];exact nit b u e
  ·exact nit c _ z
structure Aah(z p o i j a b:Addr)(k:Nat)(h:Heap):Prop where
 zip:∃u v,Jk h z p o u v∧AiT u
 its:IsPair h p (.ref i) (.ref j)
 row:∃x y,IsPair h o x y
 i1:h.IsTupleIter i a k
 i2:h.IsTupleIter j b k
theorem Aah.on{h:Heap}{z p o i j a b:Addr}{k:Nat}{xs ys:Array Value}(Z:Aah z p o i j a b k h)(t1:h.IsTuple a xs)(t2:h.IsTuple b ys):La h z p o i j a b k xs ys:=⟨Z.zip,Z.its,Z.row,Z.i1,Z.i2,t1,t2⟩
theorem La.tn{h:Heap}{z p o i j a b:Addr}{k:Nat}{xs ys:Array Value}(Z:La h z p o i j a b k xs ys):Aah z p o i j a b k h:=⟨Z.zip,Z.its,Z.row,Z.i1,Z.i2⟩
theorem Acd{P:Program}{w:World}{K:W.Frag}{x:Str}{px:Pos}{z p o i j a b:Addr}(D:PN z p o i j a b):Turn P w K (.Name x px) (Itz K a b) [z,p,o,i,j] z (Aah z p o i j a b) where
 mem:=by simp
 obj:=fun n h Z c hc=>by
  obtain⟨⟨u,v,e1,_⟩,e2,⟨x,y,e3⟩,⟨m4,e4,_,d4⟩,⟨m5,e5,_,d5⟩⟩:=Z
  simp only[List.mem_cons,List.not_mem_nil,or_false]at hc
  rcases hc with rfl|rfl|rfl|rfl|rfl
  ·exact⟨_,e1,fun v q=>by cases(show Data.fields _=Data.cell v from q)⟩
  ·exact⟨_,e2,fun v q=>by cases(show Data.seq _ _=Data.cell v from q)⟩
  ·exact⟨_,e3,fun v q=>by cases(show Data.seq _ _=Data.cell v from q)⟩
  ·exact⟨m4,e4,fun v q=>by rw[d4]at q;cases q⟩
  ·exact⟨m5,e5,fun v q=>by rw[d5]at q;cases q⟩
 keep:=fun n h h' Z k=>by
  obtain⟨⟨u,v,e1,l⟩,e2,⟨x,y,e3⟩,h4,h5⟩:=Z
  exact⟨⟨u,v,k z (by simp) _ e1,l⟩,k p (by simp) _ e2,⟨x,y,k o (by simp) _ e3⟩,h4.at fun m e=>k i (by simp) m e,h5.at fun m e=>k j (by simp) m e⟩
 item:=by
  intro X hP hw hK hc n pins s σ H E I hf Z hg
  subst hP hw hK
  obtain⟨xs,ys,x,y,q1,q2,hx,hy⟩:=hg
  obtain⟨us,r1,p1,_⟩:=I.tuple q1
  obtain⟨vs,r2,p2,_⟩:=I.tuple q2
  obtain⟨u,hu,ru⟩:=r1.get hx
  obtain⟨v,hv,rv⟩:=r2.get hy
  refine AbJ D (Z.on (show s.heap.IsTuple a us.toArray from p1) (show s.heap.IsTuple b vs.toArray from p2)) (x:=u) (y:=v) (by simpa using hu) (by simpa using hv) fun g T Z' hT lT kk=>?_
  have nT:H T=none:=I.hok.fresh lT
  have I1:Inv X pins σ (upd H T (.tup [x,y])) {s with heap:=g}:=I.aep (ch:=[z,p,o,i,j]) (fun c m nc e=>by
   simp only[List.mem_cons,List.not_mem_nil,or_false,not_or]at nc
   exact kk c m nc.1 nc.2.2.1 nc.2.2.2.1 nc.2.2.2.2 e) hf lT ⟨by show 2≤sizeLine;decide,[u,v],.cons ru (.cons rv .nil),⟨_,hT,rfl,0,rfl⟩⟩
  refine⟨_,rfl,?_⟩
  show wpAny (model X.prog X.w) X.A (pure ()) _ _ _
  refine wpAny_pure ⟨.ref T,_,I1,rfl,⟨T,x,y,rfl,nT,rfl,fun xs' h'=>by rw[I.yp h' q1];exact hx,fun ys' h'=>by rw[I.yp h' q2];exact hy⟩,Z'.tn,fun c hc=>?_⟩
  have e:c≠T:=fun z=>by
   obtain⟨m,e,_⟩:=(by
    obtain⟨⟨u,v,e1,_⟩,e2,⟨x,y,e3⟩,⟨m4,e4,_⟩,⟨m5,e5,_⟩⟩:=Z
    simp only[List.mem_cons,List.not_mem_nil,or_false]at hc
    rcases hc with rfl|rfl|rfl|rfl|rfl
    ·exact⟨_,e1,trivial⟩
    ·exact⟨_,e2,trivial⟩
    ·exact⟨_,e3,trivial⟩
    ·exact⟨_,e4,trivial⟩
    ·exact⟨_,e5,trivial⟩:∃m,s.heap.get? c=some m∧True)
   exact absurd (Heap.lt_size e) (Nat.not_lt.mpr (by rw[z];exact lT))
  rw[Am e]
  exact(hf c hc).1
 done:=by
  intro X hP hw hK hc n pins s σ H E I hf Z hg
  subst hP hw hK
  obtain⟨xs,ys,q1,q2,hx⟩:=hg
  obtain⟨us,r1,p1,_⟩:=I.tuple q1
  obtain⟨vs,r2,p2,_⟩:=I.tuple q2
  have hl:=r1.length
  exact AdS (I.ok.hd hc) D (Z.on (show s.heap.IsTuple a us.toArray from p1) (show s.heap.IsTuple b vs.toArray from p2)) (by simp;omega) fun g kk=>⟨rfl,I.aer (ch:=[z,p,o,i,j]) (fun c m nc e=>by
   simp only[List.mem_cons,List.not_mem_nil,or_false,not_or]at nc
   exact kk c m nc.1 nc.2.2.1 nc.2.2.2.1 nc.2.2.2.2 e) hf⟩
 self:=fun _ _ _ _ _ Z h=>by
  obtain⟨u,v,e,_⟩:=Z.zip
  exact Vq e h
end
section
variable{X:Cx}{tg:Expr}
def Ape(K:W.Frag)(ta:TA):TI:=fun σ H R=>ta σ H fun vs H1=>∃a b,vs=[.ref a,.ref b]∧(∃xs,SqT K H1 a xs)∧(∃ys,SqT K H1 b ys)∧R (Itz K a b) H1
theorem Ajf{x:Str}{px:Pos}{a b:Expr}{ta:TA}{p pos:Pos}(hg:Gl X "zip")(hm:X.mg "zip"=none)(ha:PA X [a,b] ta)(hs:starEach [a,b] X.env=[(false,eval a X.env),(false,eval b X.env)]:=by rfl)(hs2:starEach [b] X.env=[(false,eval b X.env)]:=by rfl) :
  PI X (.Name x px) (.Call (.Name "zip" p) [a,b] [] pos) (Ape X.K ta):=by
 intro pins s σ H R I h
 refine Call_ (Nx I hg hm (u:=.type "zip") rfl (PyProof.Rows.callWith_type1 (thn (ha pos pins s σ H _ I h) fun us s1 ⟨vs,H1,I1,r1,q1⟩=>?_) (by rw[hs,hs2]) (by rw[hs2];rfl)))
 obtain⟨c,d,e,⟨xs,hx⟩,⟨ys,hy⟩,q⟩:=q1
 subst e
 cases r1 with
 | cons r rr =>
  cases rr with
  | cons r' rr =>
   cases rr
   cases r;cases r'
   obtain⟨us,_,p1,_⟩:=I1.tuple hx
   obtain⟨ws,_,p2,_⟩:=I1.tuple hy
   refine AbW (show s1.heap.IsTuple c us.toArray from p1) (show s1.heap.IsTuple d ws.toArray from p2) fun g z pp o i j D Z new kk=>?_
   obtain⟨u,v,e,_⟩:=Z.zip
   refine Vq e ⟨z,[z,pp,o,i,j],_,_,H1,rfl,I1.kept (t':=s1.toks) kk,Acd D,Z.tn,fun b hb=>?_,q⟩
   exact I1.aeN (new b hb) (I1.hok.fresh (new b hb))
def ItN(K:W.Frag)(M:Hp)(J:It)(items:List Dt):Prop:=∀H,Same M H →
 (∀(k:Nat) d,items[k]? = some d→J.go k H∧∀x H',J.yld k H x H'→Same H H'∧∀G:List Addr,(∀a∈G,H a≠none)→Same M (mask G H)→Rp K (mask G H') d x)∧J.stop items.length H
def lIN(K:W.Frag)(ti:DTI):TI:=fun σ H R=>∃B F O ρ,Rep K B F O H σ ρ∧ti ρ fun items=>∀J H',Same H H'→ItN K (mask (F++O) H') J items→R J H'
structure DIN(X:Cx)(tg iter:Expr)(ti:DTI):Prop where
 mono:∀{ρ Q Q'},(∀d,Q d→Q' d)→ti ρ Q→ti ρ Q'
 pi:PI X tg iter (lIN X.K ti)
theorem Abu{K:PySem.W.Frag}{sl:List Nat}{ti:DTI}{dt:DTT}{de:DTE}(mi:∀{ρ Q Q'},(∀d,Q d→Q' d)→ti ρ Q→ti ρ Q')(mt:∀{ρ Q Q'},(∀d,Q d→Q' d)→dt ρ Q→dt ρ Q')(me:∀{ρ Q Q'},(∀d,Q d→Q' d)→de ρ Q→de ρ Q')
  (σ:St) (H:Hp) (Q:VK) (h:lE K (Ia sl ti dt de) σ H Q):Zr sl (lIN K ti) (lT K dt) (lE K de) σ H Q:=by
 obtain⟨B,F,O,ρ,R,h⟩:=h
 refine⟨B,F,O,ρ,R,mi (fun items ⟨h1,h2,W,w0,st,fin⟩ J H1 s1 it=>?_) h⟩
 have R1:=R.same s1
 obtain⟨vs,ds,ev,ed,rs⟩:=Kf R1 h2
 refine⟨vs,ev,fun D hD=>?_⟩
 have nD:D∉F++O:=fun z=>R1.th D z hD
 refine⟨fun i m acc H2=>m+i=items.length∧H2 D=some (.lst acc)∧acc.length≤i∧Same H1 H2∧∃as,RpL K (mask (D::(F++O)) H2) as acc∧W i as,⟨items.length,by omega,Aw,Nat.le_refl _,Same.upd hD,[],RpL.nil,w0⟩,?_⟩
 rintro i m acc H2 ⟨hm,e2,hl,s2,as,ra,w⟩
 have sb:Same (mask (F++O) H1) H2:=fun a o e=>s2 a o (Cv e).2
 have sD:Same (mask (F++O) H1) (mask (D::(F++O)) H2):=fun a o e=>by
  obtain⟨q,e⟩:=Cv e
  rw[Bh fun z=>by
   rcases List.mem_cons.mp z with z|z
   ·rw[z,hD]at e;cases e
   ·exact q z]
  exact s2 a o e
 have th2:∀a∈D::(F++O),H2 a≠none:=fun a ha q=>by
  rcases List.mem_cons.mp ha with z|z
  ·rw[z,e2]at q;cases q
  ·have:=R1.th a z
   cases q':H1 a with
   |none=>exact this q'
   |some o=>rw[s2 a o q']at q;cases q
 obtain⟨go,stop⟩:=it H2 sb
 by_cases hlt:i<items.length
 ·refine .inr ⟨(go i items[i] (by simp[hlt])).1,fun z H3 y=>?_⟩
  obtain⟨s3,r⟩:=(go i items[i] (by simp[hlt])).2 z H3 y
  have r:=r (D::(F++O)) th2 sD
  have e3:H3 D=some (.lst acc):=s3 _ _ e2
  have th:∀a∈D::(F++O),H3 a≠none:=fun a ha q=>by
   have:=th2 a ha
   cases q':H2 a with
   |none=>exact this q'
   |some o=>rw[s3 a o q']at q;cases q
  have R3:=TF th r ((rs.mono sD).mono s3.mask)
  have ei:some (En.is items[i])::ds.map (fun d=>some (En.is d))=inner sl ρ items[i]:=by unfold inner;rw[ed]
  rw[ei]at R3
  refine⟨_,_,_,_,R3,mt (fun b q H4 s4=>?_) (st i _ as (by simp[hlt]) w)⟩
  cases b with
  | false =>
   refine⟨m-1,by omega,by omega,s4 _ _ e3,by omega,(s2.trans s3).trans s4,as,(ra.mono s3.mask).mono s4.mask,q⟩
  | true =>
   refine⟨_,_,_,_,R3.same s4,me (fun e q v5 H5 s5 r5=>?_) q⟩
   have e5:H5 D=some (.lst acc):=s5 _ _ (s4 _ _ e3)
   have hz:acc.length<sizeLine:=by omega
   have s6:Same (mask (D::(F++O)) H5) (mask (D::(F++O)) (upd H5 D (.lst (acc++[v5])))):=fun a o q=>by
    obtain⟨n,q⟩:=Cv q
    rw[Bh n,Am fun z=>n (by rw[z];exact List.mem_cons_self)];exact q
   have em:mask (D::(F++O)++[]) H5=mask (D::(F++O)) H5:=by rw[List.append_nil]
   rw[em]at r5
   refine⟨e5,hz,m-1,by omega,by omega,Aw,by simp;omega,fun a o q=>?_,as++[e],((((ra.mono s3.mask).mono s4.mask).mono s5.mask).append (RpL.cons r5 RpL.nil)).mono s6,q⟩
   rw[Am (Ba q hD)]
   exact s5 _ _ (s4 _ _ (s3 _ _ (s2 a o q)))
 ·have e:i=items.length:=by omega
  subst e
  refine .inl ⟨stop,fin as (by rw[←ra.len];exact hl) w (.ref D) H2 (s1.trans s2) (Mx ⟨D,acc,rfl,(by rw[Bh nD];exact e2),ra.mono (FN fun a h=>List.mem_cons_of_mem _ h)⟩)⟩
end
section
variable{X:Cx}{elt iter:Expr}{x:Str}{N:List Str}{sl:List Nat}{scope:Scope}{px pos:Pos}
theorem AcC{ti:DTI}{de:DTE}{y:Str}{py spos:Pos}(i:Nat)(hN:X.N.Nodup)(S:Gn X scope x N sl)(hc:X.calm=true)(hi:DIN X (.Name x px) iter ti)(he:∀cl C s₀ H₀ ex,DE (BL X scope (x::N) cl C s₀ H₀ ex) elt de)
  (hyi:X.N[i]? = some y:=by rfl) (hy:X.env.scope.names.lookup y=some .local:=by rfl) (hsw:swapsWith (.ListComp elt [⟨.Name x px,iter,[],0⟩] scope pos) (some (.Name y py)) spos.line X.env=pure true:=by rfl) (hs:∀x,foldedSetIterable iter X.env x=pure x:=by intro _;rfl) :
  DS X (.Assign [.Name y py] (.ListComp elt [⟨.Name x px,iter,[],0⟩] scope pos) spos) (AhA i sl ti Ld de) where
 mono:=fun hd h=>Tr (ti:=ti) hi.mono (fun d q=>hd.nx _ q) h
 ps:=(Afr (tt:=lT X.K Ld) (te:=lE X.K de) S hc hN hyi hy hi.pi (fun cl C s₀ H₀ ex=>Z6.pts) (fun cl C s₀ H₀ ex=>(he cl C s₀ H₀ ex).pe) hsw hs).imp fun D σ H ⟨B,F,O,ρ,R,h⟩ =>
  Abu (ti:=ti) (dt:=Ld) (de:=de) hi.mono (fun hq h=>hq _ h) (he [] 0 X.s₀ X.H₀ []).mono σ H _ ⟨B,F,O,ρ,R,Tr (ti:=ti) hi.mono (fun d q v H' s r=>q O _ H' ((R.same s).set i r)) h⟩
def Ahx(tl:DTA):DTI:=fun ρ Q=>tl ρ fun ds=>∃xs ys,ds=[.tup xs,.tup ys]∧xs.length=ys.length∧Q ((xs.zip ys).map fun p=>.tup [p.1,p.2])
theorem Ah6{a b:Expr}{p:Pos}{tl:DTA}(hg:Gl X "zip")(hm:X.mg "zip"=none)(ha:DA X [a,b] tl)(hs:starEach [a,b] X.env=[(false,eval a X.env),(false,eval b X.env)]:=by rfl)(hs2:starEach [b] X.env=[(false,eval b X.env)]:=by rfl) :
  DIN X (.Name x px) (.Call (.Name "zip" p) [a,b] [] pos) (Ahx tl) where
 mono:=fun hq h=>ha.mono (fun ds ⟨xs,ys,e,l,h⟩=>⟨xs,ys,e,l,hq _ h⟩) h
 pi:=(Ajf hg hm ha.pa hs hs2).imp fun σ H R ⟨B,F,O,ρ,RR,h⟩=>⟨B,F,O,ρ,RR,ha.mono (fun ds ⟨xs,ys,e,l,q⟩ vs H1 s1 r1=>by
  subst e
  obtain⟨v1,w1,rfl,ra,r1⟩:=Bj.mp r1
  obtain⟨v2,w2,rfl,rb,r1⟩:=Bj.mp r1
  obtain rfl:=BX.mp r1
  obtain⟨c,us,rfl,hs1,l1⟩:=Em.mp ra
  obtain⟨d,ws,rfl,hs2,l2⟩:=Em.mp rb
  refine⟨c,d,rfl,⟨us,Bv.mD hs1⟩,⟨ws,Bv.mD hs2⟩,q _ H1 s1 fun H2 s2=>⟨fun k dd e=>?_,us,ws,s2.mD hs1,s2.mD hs2,?_⟩⟩
  ·rw[List.getElem?_map]at e
   cases e':(xs.zip ys)[k]? with
   |none=>rw[e']at e;cases e
   | some pr =>
    rw[e']at e;cases e
    obtain⟨e1,e2⟩:=List.getElem?_zip_eq_some.mp e'
    obtain⟨u,hu,ru⟩:=l1.get e1
    obtain⟨v,hv,rv⟩:=l2.get e2
    refine⟨⟨us,ws,u,v,s2.mD hs1,s2.mD hs2,hu,hv⟩,?_⟩
    rintro _ H3 ⟨T,y1,y2,rfl,nT,rfl,f1,f2⟩
    have g1:=f1 us (s2.mD hs1)
    have g2:=f2 ws (s2.mD hs2)
    rw[hu]at g1;cases g1
    rw[hv]at g2;cases g2
    refine⟨Same.upd nT,fun G hG sM=>?_⟩
    have nG:T∉G:=fun z=>hG T z nT
    have sm:Same (mask G H2) (mask G (upd H2 T (.tup [u,v]))):=(Same.upd nT).mask
    exact Em.mpr ⟨T,[u,v],rfl,.inl (.inl (by rw[Bh nG,Aw])),RpL.cons ((ru.mono sM).mono sm) (RpL.cons ((rv.mono sM).mono sm) RpL.nil)⟩
  ·rw[List.length_map,List.length_zip,l1.len]
   omega) h⟩
def Z5(tl:DTA):DTE:=fun ρ Q=>tl ρ fun ds=>∃ks,ds=[.lst ks]∧Q (.tup ks)
theorem S8{a:Expr}{tl:DTA}{p:Pos}(hm:X.mg "tuple"=none)(ha:DA X [a] tl)(hg:Gl X "tuple":=by rfl)(he:starEach [a] X.env=(false,eval a X.env)::starEach [] X.env:=by rfl)(hpl:(backTo pos (starEach [] X.env)).any (·.1)=false:=by rfl) :
  DE X (.Call (.Name "tuple" p) [a] [] pos) (Z5 tl) where
 mono:=fun hq h=>ha.mono (fun ds ⟨ks,e,q⟩=>⟨ks,e,hq _ q⟩) h
 pe:=(Abx RN hg hm rfl ha.pa (he:=he) (hpl:=hpl)).imp fun σ H Q ⟨B,F,O,ρ,R,h⟩=>⟨B,F,O,ρ,R,ha.mono (fun ds ⟨ks,e,q⟩ vs H1 s1 r1=>by
  subst e
  obtain⟨v1,w1,rfl,ra,r1⟩:=Bj.mp r1
  obtain rfl:=BX.mp r1
  obtain⟨c,us,rfl,hs,hl⟩:=Hw ra
  refine⟨c,us,rfl,.inl ⟨Bv.seq hs,fun l hn=>?_⟩⟩
  have nl:l∉F++O:=fun z=>(R.same s1).th l z hn
  exact q _ _ (s1.trans (Same.upd hn)) (Em.mpr ⟨l,us,rfl,.inl (.inl (Qg nl)),hl.mono (Same.upd hn).mask⟩)) h⟩
end
section
variable{prog:Program}{w:World}{A:Around}
end
section
variable{X:Cx}
end
section
variable{X:Cx}
end
open PySem.W (KasT kas_asc kas_desc kas_tail3 kas_descPart kas_count kas_place kas_bin kas_sort kas_rev)
section
variable{n:Nat}
end
section
variable{prog:Program}{w:World}{A:Around}{E:Value→Shared→Prop}{s:Shared}
end
section
variable{X:Cx}
end
open PySem.W (KasT kas_asc kas_desc kas_tail3 kas_descPart kas_count kas_place kas_bin kas_sort kas_rev)
structure Ags(bt:Nat→Nat→Bool):Prop where
 asy:∀i j,bt i j=true→bt j i=false
 neg:∀i j k,bt j i=false→bt k j=false→bt k i=false
abbrev gt(p:Array Nat)(i:Nat):Nat:=p.getD i 0
section
variable{bt:Nat→Nat→Bool}(O:Ags bt)
def Fl(bt:Nat→Nat→Bool)(p:Array Nat)(m q:Nat):Prop:=∀i j,m≤i+q+1→i<m→m≤j+q+1→j<m→bt (gt p i) (gt p j)=false
include O
end
section
variable{X:Cx}{e:Expr}{te:DTE}{pos:Pos}
end
open PySem.W (KasT kas_sort)
section
variable{prog:Program}{w:World}{A:Around}{E:Value→Shared→Prop}{s:Shared}
end
section
variable{X:Cx}
end
section
variable{X:Cx}
end
section
variable{X:Cx}
end
section
variable{P:Program}{w:World}
end
section
variable{X:Cx}{pins:List (Addr×Obj)}{σ:St}{H:Hp}{s:Shared}{a b:Addr}{ks:List (List Int)}{xs:List (List Key×Addr×Value)}{A:Around}{E:Value→Shared→Prop}{k:List Int}
end
section
variable{K:W.Frag}{B:Hp}{F O:List Addr}{H:Hp}{σ:St}{ρ:BW}
end
section
variable{X:Cx}{e:Expr}{te:DTE}{pos:Pos}
end
section
variable{X:Cx}{a b:Expr}{ta tb:DTE}{pos:Pos}
end
section
variable{X:Cx}{k:Nat}{f C:Addr}{fd:FuncData}{ps:List Str}{sp:Sp}{x:Str}{p pos:Pos}{e:Expr}{es:List Expr}{t:TA}
def Ajz(X:Cx)(C:Addr)(sp:Sp)(t:TA):TE:=fun σ H Q=>t σ H fun vs H1=>∀x dx,H1 x=none→H1 dx=none→dx≠x →
 sp (.ref x::vs) (upd (upd H1 dx (.own x)) x (.ins C dx [])) (fun v H2=>v=.non∧Q (.ref x) H2) fun v _ H'=>∃a,v=.ref a∧QC X σ a H'
theorem AaO{pins:List (Addr×Obj)}{σ:St}{H:Hp}{s:Shared}{Q:VK}{us:List Value}{vs:List V}(M:Mk X.K C f)(F:El X.prog X.w X.K X.mg X.base (CXe X.prog X.w) k f fd ps sp)(hr:Dd (k+1) X.A)(hb:Binds X.K fd ps [])
  (I:Inv X pins σ H s) (r:Vals vs us)
  (h:∀x dx,H x=none→H dx=none→dx≠x→sp (.ref x::vs) (upd (upd H dx (.own x)) x (.ins C dx [])) (fun v H2=>v=.non∧Q (.ref x) H2) fun v _ H'=>∃a,v=.ref a∧QC X σ a H') :
  wpAny (model X.prog X.w) X.A (call (.ref C) us) (EP X pins σ Q) X.xe s:=by
 obtain⟨n,en⟩:∃n,s.heap.objs.size=n:=⟨_,rfl⟩
 have J:=Inv.made (C:=C) I
 have q0:=h (s.heap.objs.size+1) s.heap.objs.size (I.hok.fresh (Nat.le_succ _)) (I.hok.fresh (Nat.le_refl _)) (Nat.ne_of_lt (Nat.lt_succ_self _))
 have rv:Vals (V.ref (s.heap.objs.size+1)::vs) (Value.ref (s.heap.objs.size+1)::us):=.cons rfl r
 have ln:(Value.ref (s.heap.objs.size+1)::us).length=ps.length:=by rw[←rv.length];exact F.len _ _ _ _ q0
 have bt:=hb _ (Value.ref (s.heap.objs.size+1)::us) J.kIn (by rw[List.append_nil];exact ln)
 rw[List.append_nil]at bt
 refine wpAny_call (Vg (f:=f) I.kIn M.makes M.init (beq_iff_eq.mp M.fn) (codeAny_mono (F.run _ X.stack _ _ ⟨Value.ref (s.heap.objs.size+1)::us,[]⟩ _ _ _ _ (hr.make C us []) (J.env0.make C us []) bt rv q0) fun r' s' w=>?_))
 cases r' with
 | error z =>
  obtain⟨a,H',rfl,y1,y2,y3,y4,y5,y6,a',y7,y8⟩:=w
  cases y7
  exact y8 pins s' (J.call' (ch:=[]) y1 y3 y4 y2 fun b z=>absurd z (by simp)) y5 y6
 | ok fl =>
  cases fl with
  | ret u =>
   obtain⟨v,H',I3,ru,ev,q3⟩:=J.after w
   subst ev
   exact⟨ru,⟨V.ref (s.heap.objs.size+1),H',I3,rfl,q3⟩⟩
  |next=>exact False.elim w
  |brk=>exact False.elim w
  |cont=>exact False.elim w
theorem Aec(M:Mk X.K C f)(F:El X.prog X.w X.K X.mg X.base (CXe X.prog X.w) k f fd ps sp)(hr:Dd (k+1) X.A)(hg:Gl X x)(hm:X.mg x=some (.ref C))(hb:Binds X.K fd ps [])
  (ha:PA X (e::es) t) (hdb:(x==("__debug__":Str))=false:=by decide) (he:starEach (e::es) X.env=(false,eval e X.env)::starEach es X.env:=by rfl) (hpl:(backTo pos (starEach es X.env)).any (·.1)=false:=by rfl) :
  PE X (.Call (.Name x p) (e::es) [] pos) (Ajz X C sp t):=by
 intro pins s σ H Q I h
 refine wpAny_Call_Name_kw (Hr I hg hm ?_ hdb)
 exact W.callWith_K (h₀:=X.base) I.ok.mod.kin M.kp (thn (ha pos pins s σ H _ I h) fun us s1 ⟨vs,H1,I1,r,q⟩=>⟨I1.kIn,AaO M F hr hb I1 r q⟩) he hpl
end
abbrev Yb:=List Dt→(List Dt→Prop)→(Dt→Prop)→Prop
def Am7(K:W.Frag)(ns:List Str)(sp:Yb):Sp:=fun vs H Q E=>∃x C dx ys F ds,vs=.ref x::ys∧H x=some (.ins C dx [])∧Cls K C∧(∀f∈ns,Hh K C f)∧x∈F∧(∀a∈F,H a≠none)∧RpL K (mask F H) ds ys ∧
 sp ds (fun fds=>∀ws H',Same (mask [x] H) H'→H' x=some (.ins C dx (ns.zip ws))→ns.length=fds.length→RpL K (mask F H') fds ws→Q .non H') fun y=>∀a H',Same (mask [x] H) H'→Rp K (mask F H') y (.ref a)→E (.ref a) none H'
def AaD(sp:Yb):Prop:=∀ds Q Q' E E',(∀d,Q d→Q' d)→(∀d,E d→E' d)→sp ds Q E→sp ds Q' E'
def Ai1(P:Program)(w:World)(K:W.Frag)(mg:Str→Option Value)(base:Heap)(k:Nat)(c:Str)(ns:List Str)(sp:Yb):Prop:=∃C f fd ps,MkC K mg c ns C f∧Binds K fd ps []∧El P w K mg base (CXe P w) k f fd ps (Am7 K ns sp)
def Ad0(c:Str)(ns:List Str)(sp:Yb)(tl:DTA):JZ:=fun ρ Q E=>tl ρ fun ds=>sp ds (fun fds=>Q (.obj c ns fds)) E
section
variable{X:Cx}{o e:Expr}{es:List Expr}{tl:DTA}{te:JZ}{pos:Pos}
theorem Abb{k:Nat}{c:Str}{ns:List Str}{sp:Yb}{p:Pos}(m:AaD sp)(G:Ai1 X.prog X.w X.K X.mg X.base k c ns sp)(hr:Dd (k+1) X.A)(hg:Gl X c)(ha:DA X (e::es) tl)
  (hdb:(c==("__debug__":Str))=false:=by decide) (he:starEach (e::es) X.env=(false,eval e X.env)::starEach es X.env:=by rfl) (hpl:(backTo pos (starEach es X.env)).any (·.1)=false:=by rfl):DEX X (.Call (.Name c p) (e::es) [] pos) (Ad0 c ns sp tl):=by
 obtain⟨C,f,fd,ps,M,hb,G⟩:=G
 refine⟨fun hq hx z=>ha.mono (fun ds z=>m _ _ _ _ _ (fun fds q=>hq _ q) hx z) z,(Aec M.mm G hr hg M.gl hb ha.pa hdb he hpl).imp fun σ H Q ⟨B,F,O,ρ,R,z⟩=>⟨B,F,O,ρ,R,ha.mono (fun ds z vs H1 s1 r1 x dx nx ndx ne=>?_) z⟩⟩
 have R1:=R.same s1
 have ox:x∉F++O:=fun w=>R1.th x w nx
 have s2:Same H1 (upd (upd H1 dx (.own x)) x (.ins C dx [])):=fun b o q=>by rw[Am (Ba q nx),Am (Ba q ndx)];exact q
 have s3:∀{H'},Same (mask [x] (upd (upd H1 dx (.own x)) x (.ins C dx []))) H'→Same H1 H':=fun{H'} s' b o q=>s' b o (by rw[Bh fun w=>by rw[List.mem_singleton.mp w,nx]at q;cases q];exact s2 _ _ q)
 refine⟨x,C,dx,vs,x::(F++O),ds,rfl,Aw,M.cl,M.no,List.mem_cons_self,fun b hb'=>?_,?_,m _ _ _ _ _ (fun fds q ws H' s' h1 h2 h3=>⟨rfl,?_⟩) (fun y q a H' s' r'=>⟨a,rfl,?_⟩) z⟩
 ·rcases List.mem_cons.mp hb' with e|w
  ·rw[e,Aw];simp
  ·intro q
   cases e:H1 b with
   |none=>exact R1.th b w e
   |some u=>rw[s2 _ _ e]at q;cases q
 ·refine r1.mono fun b o q=>?_
  obtain⟨n1,q⟩:=Cv q
  rw[Bh fun w=>(List.mem_cons.mp w).elim (fun e=>by rw[e,nx]at q;cases q) n1]
  exact s2 _ _ q
 ·exact q (.ref x) H' (s1.trans (s3 s')) (Ug.mpr ⟨x,C,dx,ws,rfl,M.at_,M.cl,by rw[Bh ox];exact h1,h2,h3.mono (FN fun b hb'=>List.mem_cons_of_mem _ hb')⟩)
 ·exact q a H' (s1.trans (s3 s')) (r'.mono (FN fun b hb'=>List.mem_cons_of_mem _ hb'))
def Ado(te:DTE)(tx:RQ):RQ:=fun ρ Q E=>te ρ fun d=>tx ρ (fun ds=>Q (d::ds)) E
theorem Abo{te:DTE}{tx:RQ}(ha:DE X e te)(hr:DAX X es tx)(hs:starEach (e::es) X.env=(false,eval e X.env)::starEach es X.env:=by rfl):DAX X (e::es) (Ado te tx) where
 mono:=fun hq hx h=>ha.mono (fun d h=>hr.mono (fun ds h=>hq _ h) hx h) h
 pa:=(Hu ha.pe hr.pa hs).imp fun σ H Q ⟨B,F,O,ρ,R,h⟩=>⟨B,F,O,ρ,R,ha.mono (fun d z v H1 s1 r1=>⟨B,F,O,ρ,R.same s1,hr.mono (fun ds z vs H2 s2 r2=>z (v::vs) H2 (s1.trans s2) (.cons (r1.mono s2.mask) r2)) (fun x z a H2 s2 r2=>z a H2 (s1.trans s2) r2) z⟩) h⟩
def Anc(K:W.Frag)(te:JZ)(f:Str):JZ:=fun ρ Q E=>te ρ (fun d=>match d with
 |.obj c ns ds=>HY K c f∧∃v,(ns.zip ds).lookup f=some v∧Q v
 |_=>False) E
def AoP(te:JZ)(tb:DTE):JZ:=fun ρ Q E=>te ρ (fun a=>tb ρ fun b=>dIx a b Q) E
end
section
variable{X:Cx}{es:List Expr}{pos:Pos}
def Air(X:Cx)(ns:List Str)(sp:DIn)(tx:RQ):TS:=fun D σ H=>∃B F ρ x C dx,∃S:List Dt→Prop,∃Ex:Dt→Prop,Rep X.K B F [] H σ ρ∧x∈F∧B x=none∧σ[0]? = some (some (.ref x))∧H x=some (.ins C dx [])∧Cls X.K C∧(∀f∈ns,Hh X.K C f) ∧
 (tx ρ (fun ds=>sp ds S) Ex)∧(∀fds,S fds→∀ws H',Same B H'→H' x=some (.ins C dx (ns.zip ws))→ns.length=fds.length→RpL X.K (mask F H') fds ws→D.nx σ H')∧∀y,Ex y→∀a H',Same B H'→Rp X.K (mask F H') y (.ref a)→QC X σ a H'
theorem Abn{pl:Sem Bool}{k:Nat}{c y:Str}{g:Addr}{fd:FuncData}{ps ns:List Str}{sp:DIn}{tx:RQ}{p q ap cp:Pos}(m:Rr sp)(M:V8 X.K X.mg c "__init__" g)(hg:Gl X c)(G:El X.prog X.w X.K X.mg X.base CX0 k g fd ps (Yh X.K ns sp))(hb:Binds X.K fd ps [])(hr:Dd k X.A)(ha:DAX X es tx)(hN:X.N[0]? = some y:=by rfl)
  (hv:Vis X.env.scope y:=by first|exact Or.inl rfl|exact Or.inr (Or.inl rfl)|exact Or.inr (Or.inr rfl)) (hd:(y==("__debug__":Str))=false:=by decide) (hcd:(y==("__classdict__":Str))=false:=by decide) (hdb:(c==("__debug__":Str))=false:=by decide)
  (hst:starEach (.Name y q::es) X.env=(false,eval (.Name y q) X.env)::starEach es X.env:=by rfl) (hpl:(backTo cp (starEach es X.env)).any (·.1)=false:=by rfl)
  (ht:eval (.Call (.Attribute (.Name c p) "__init__" ap) (.Name y q::es) [] cp) X.env=(do
   let ov ←eval (.Name c p) X.env
   standAt ap.atName
   let (f,first) ←holding [ov] (getMethod ov "__init__" pl)
   callWith cp f first (backTo cp (starEach (.Name y q::es) X.env)) (backToKw cp (keywordEach [] X.env))):=by rfl)
  (hs:swapsWith (.Call (.Attribute (.Name c p) "__init__" ap) (.Name y q::es) [] cp) none pos.line X.env=pure false:=by rfl) :
  PSs X [.Expr (.Call (.Attribute (.Name c p) "__init__" ap) (.Name y q::es) [] cp) pos] (Air X ns sp tx) :=
 (Hs (Mq (Vp M hg G hr hb (Hu (JC hN hv hd hcd) ha.pa hst) hdb hst hpl ht) hs)).imp fun D σ H ⟨B,F,ρ,x,C,dx,S,Ex,R,xF,Bx,σ0,Hx,cl,no,z,fin,bad⟩=>by
  have base:∀{H':Hp},Same (mask [x] H) H'→Same B H':=fun{H'} s' b o e=>s' b o (by
   rw[Bh fun w=>by rw[List.mem_singleton.mp w,Bx]at e;cases e]
   exact R.base b o e)
  refine⟨.ref x,σ0,B,F,[],ρ,R,ha.mono (fun ds z vs H1 s1 r1=>?_) (fun y w a H1 s1 r1=>bad y w a H1 (R.base.trans s1) (by rw[List.append_nil]at r1;exact r1)) z⟩
  show Yh X.K ns sp ((.ref x::vs)++[]) H1 _ E0
  rw[List.append_nil]
  have R1:=R.same s1
  rw[List.append_nil]at r1
  refine⟨x,C,dx,vs,F,ds,rfl,s1 _ _ Hx,cl,no,xF,fun a h=>R1.th a (List.mem_append_left _ h),r1,m _ _ _ (fun fds w ws H' s' h1 h2 h3=>fin fds w ws H' (fun b o e=>s' b o ?_) h1 h2 h3) z⟩
  rw[Bh fun w=>by rw[List.mem_singleton.mp w,Bx]at e;cases e]
  exact R1.base b o e
end
theorem Fun.okE{P:Program}{w:World}{K:W.Frag}{mg:Str→Option Value}{base:Heap}{x qual:Str}{st:Stmt}{f:Addr}{fd:FuncData}{N ps:List Str}{k:Nat}{sp:Sp}(F:Fun K x qual st f fd)(S:Ak N ps (Ag st))(len:∀vs H Q E,sp vs H Q E→vs.length=ps.length)
  (hbody:∀(cdv:Value)(A:Around)(outer:List Env)(s:Shared)(H:Hp)(vs:List V)(Q:VK)(E:XK),Dd k (A.deeper (envOfC qual (Ag st) s.heap.objs.size f cdv))→sp vs H Q E →
   ∃t,PSs (RD (CXe P w) P w K mg base N qual (Ag st) f cdv A outer s H E) (Cp st) t∧t {nx:=fun _ H'=>Q .non H',rt:=Q} (start N vs) H):El P w K mg base (CXe P w) (k+1) f fd ps sp:=by
 obtain⟨oc,od,kV,doc,pm,an,cdv,ct,osl,rfl,lk,hcd⟩:=F.ex
 exact Acp lk hcd S len fun A outer s H vs Q E hr hsp=>hbody cdv A outer s H vs Q E hr hsp
def U0{τ:Type}(args:τ→List Dt)(pre good:τ→Prop)(post:τ→List Dt→Prop)(exc:τ→Dt):Yb:=fun ds R E=>∃p,ds=args p∧pre p∧(good p→∀fds,post p fds→R fds)∧(¬good p→E (exc p))
theorem VL{τ:Type}{args:τ→List Dt}{pre good:τ→Prop}{post:τ→List Dt→Prop}{exc:τ→Dt}:AaD (U0 args pre good post exc):=fun _ _ _ _ _ hq hx ⟨p,e,h,q,z⟩=>⟨p,e,h,fun g d w=>hq _ (q g d w),fun g=>hx _ (z g)⟩
theorem AaL{τ:Type}{args:τ→List Dt}{pre good:τ→Prop}{post:τ→List Dt→Prop}{exc:τ→Dt}{R:List Dt→Prop}{E:Dt→Prop}(p:τ)(h:pre p)(k:good p→∀fds,post p fds→R fds)(x:¬good p→E (exc p)):U0 args pre good post exc (args p) R E:=⟨p,rfl,h,k,x⟩
section
variable{X:Cx}{e o:Expr}{es:List Expr}{t:TA}{pos apos:Pos}
end
section
variable{X:Cx}{e o a b:Expr}{es:List Expr}{te:DTE}{tl:DTA}{tx:JZ}{tb:DTE}{pos apos:Pos}
end
section
variable{X:Cx}{C U fI:Addr}{e:Expr}{es:List Expr}{p pos:Pos}{t:TA}{tl:DTA}
end
section
variable{P:Program}{w:World}{H:Hp}{h h':Heap}{a:Addr}{o:HO}
theorem Et.there(x:Et P w H h a o):∃u,h.get? a=some u:=by
 cases o with
 |lst xs=>obtain⟨_,_,_,_,e⟩:=x;exact⟨_,e⟩
 |tup xs=>obtain⟨_,_,_,_,e,_⟩:=x;exact⟨_,e⟩
 |dK kvs=>obtain⟨_,_,_,_,o,_,_,e,_⟩:=x;exact⟨_,e⟩
 |dT kvs=>obtain⟨_,_,_,_,o,_,_,e,_⟩:=x;exact⟨_,e⟩
 |set S n=>obtain⟨o,_,_,_,e,_⟩:=x;exact⟨_,e⟩
 |ins C dx fs=>obtain⟨_,_,_,e,_⟩:=x;exact⟨_,e⟩
 |own y=>obtain⟨_,e⟩:=x;exact⟨_,e⟩
 |xd fs=>obtain⟨_,⟨_,_,_,e,_⟩,_⟩:=x;exact⟨_,e⟩
 |rng lo hi=>obtain⟨_,_,_,e⟩:=x;exact⟨_,e⟩
 |frz ob u=>obtain⟨e,_⟩:=x;exact⟨_,e⟩
 |tbl ps=>exact⟨_,x⟩
 |met f y=>exact⟨_,x⟩
 |ext φ=>obtain⟨_,⟨_,e⟩,_⟩:=x;exact⟨_,e⟩
theorem HOk.none(x:HOk P w H h)(e:h.get? a=none):H a=none:=by
 cases q:H a with
 |none=>rfl
 |some u=>obtain⟨u,z⟩:=(x a u q).there;rw[e]at z;cases z
end
theorem Inv.laidN{X:Cx}{pins:List (Addr×Obj)}{σ:St}{H:Hp}{s:Shared}{h':Heap}{a:Addr}{o:HO}{t':Nat}(I:Inv X pins σ H s)(k:∀b u,s.heap.get? b=some u→h'.get? b=some u)(hn:s.heap.get? a=none)
  (new:Et X.prog X.w (upd H a o) h' a o):Inv X pins σ (upd H a o) {s with heap:=h',toks:=t'}:=by
 have n:=I.hok.none hn
 refine I.un ⟨fun b u q _ _ _=>k b u q,fun b u q _ _ _=>⟨u.slots,k b u q⟩,fun b u q z _=>?_,fun b u q _=>⟨u,k b u q⟩,fun b xs q=>by rw[Am (Ba q n)];exact q,fun b u xs q=>by rw[Am (Ba q n)];exact q,fun b ps q=>⟨#[],by rw[Am (Ba q n),q];simp⟩⟩ fun b u e=>?_
 ·rw[Am fun y=>by rw[y,hn]at q;cases q];exact z
 ·by_cases hb:b=a
  ·subst hb;rw[Aw]at e;cases e;exact new
  ·rw[Am hb]at e
   exact(I.hok b u e).stay (fun c v _ q=>k c v q) (fun c q=>by rw[Am (Ba q n)];exact q) fun c xs q=>by rw[Am (Ba q n)];exact q
structure XT(K:W.Frag)(mg:Str→Option Value)(c:Str)(C:Addr)(bm:List Value):Prop where
 at_:W.nsIn K mainGlobals c=some (some (.ref C))
 gl:mg c=some (.ref C)
 kp:W.keepIn K (.ref C)=true
 obj:∃nm q N bs hd sn sub ab col dd k0 k1 k2 k3 k5 oc od es ep sl,K.lookup C=some (excClassObj nm q C N bs bm hd sn sub ab col dd k0 k1 k2 k3 k5 "ValueError.__new__")∧K.lookup N=some ⟨oc,od,.dict es ep,sl⟩∧Adh es=true∧nsFind es "__init__"=none
 own:∀h:Heap,K.In h→OwnTail h bmV bm
 xb:XB K C
section
variable{X:Cx}{C U:Addr}{e:Expr}{es:List Expr}{p pos:Pos}{t:TA}{tl:DTA}{c:Str}{bm:List Value}
def AjI(C:Addr)(t:TA):TE:=fun σ H Q=>t σ H fun vs H1=>vs.length≤1000∧∀a,H1 a=none→Q (.ref a) (upd H1 a (.ext (exN a C)))
theorem Aek(G:XT X.K X.mg c C bm)(hg:Gl X c)(ha:PA X (e::es) t)
  (hdb:(c==("__debug__":Str))=false:=by decide) (he:starEach (e::es) X.env=(false,eval e X.env)::starEach es X.env:=by rfl) (hpl:(backTo pos (starEach es X.env)).any (·.1)=false:=by rfl) :
  PE X (.Call (.Name c p) (e::es) [] pos) (AjI C t):=by
 intro pins s σ H Q I h
 refine wpAny_Call_Name_kw (Hr I hg G.gl ?_ hdb)
 refine W.callWith_K (h₀:=X.base) I.ok.mod.kin G.kp (thn (ha pos pins s σ H _ I h) fun us s1 ⟨vs,H1,I1,r,l2,q⟩=>⟨I1.kIn,?_⟩) he hpl
 have lu:us.length=vs.length:=r.length.symm
 obtain⟨nm,qq,N,bs,hd,sn,sub,ab,col,dd,k0,k1,k2,k3,k5,oc,od,es',ep,sl,lk,ln,sk,ni⟩:=G.obj
 obtain⟨hp,g,d,tk,os⟩:=s1
 have hC:=I1.kIn _ _ lk
 refine wpAny_call_exc_subT (mN:=nsFind es') F.excBase_ValueError (G.own _ I1.kIn) hC ⟨_,es',ep,I1.kIn _ _ ln,rfl,Aaf sk,fun _=>rfl⟩ ni (fun h' x hm=>?_) (by rw[List.nil_append,lu];exact Nat.le_of_lt (Oh l2))
 obtain⟨t',h1,_,_⟩:=hm.there
 exact⟨.ref x,_,I1.laidN (t':=tk) (o:=.ext (exN x C)) hm.keeps hm.new ⟨⟨_,_,h1,rfl⟩,⟨_,h1⟩,VB⟩,rfl,q x (I1.hok.none hm.new)⟩
def Z8(c:Str)(tl:DTA):Jq:=fun D ρ=>tl ρ fun ds=>ds.length≤1000∧D.ex ρ (.exc c [] [])
theorem XQ{cp:Pos}(G:XT X.K X.mg c C bm)(xc:XC X.K C U)(hc:X.calm=true)(hg:Gl X c)(ha:DA X (e::es) tl)
  (hdb:(c==("__debug__":Str))=false:=by decide) (he:starEach (e::es) X.env=(false,eval e X.env)::starEach es X.env:=by rfl) (hpl:(backTo cp (starEach es X.env)).any (·.1)=false:=by rfl) :
  DSX X (.Raise (some (.Call (.Name c p) (e::es) [] cp)) none pos) (Z8 c tl) where
 mono:=fun hd h=>ha.mono (fun ds ⟨h2,h3⟩=>⟨h2,hd.ex _ _ h3⟩) h
 ps:=by
  rintro pins s σ H D I ⟨B,F,O,ρ,R,h⟩
  rw[arm_exec_Raise]
  have key:wpAny (model X.prog X.w) X.A (eval (.Call (.Name c p) (e::es) [] cp) X.env) (fun v s₁=>X.K.In s₁.heap∧∃b od vs sl,v=.ref b∧s₁.heap.get? b=some ⟨.ref C,od,.fields vs,sl⟩∧vs[1]? = some .none∧X.xe (.ref b) s₁) X.xe s:=by
   refine thn (Aek G hg ha.pa hdb he hpl pins s σ H (fun v H2=>∃a,v=.ref a∧H2 a=some (.ext (exN a C))∧QC X σ a (upd H2 a (.ext (exO a C a)))) I ⟨B,F,O,ρ,R,ha.mono (fun ds ⟨h2,h3⟩ vs H1 s1 r1=>⟨by rw[r1.len];exact h2,fun a na=>⟨a,rfl,Aw,?_⟩⟩) h⟩) fun u s1 ⟨v,H2,I2,rv,a,e1,e2,wi⟩=>⟨I2.kIn,?_⟩
   ·subst e1
    obtain rfl:u=Value.ref a:=rv
    obtain⟨⟨vs,sl,hx,h1⟩,_,_⟩:=I2.hok a _ e2
    exact⟨a,_,vs,sl,rfl,hx,h1,wi pins s1 (I2.again e2 (exN.ex ⟨vs,sl,hx,h1⟩) VH) ⟨_,vs,hx,rfl,.inl h1⟩ ⟨C,a,Aw⟩⟩
   ·have R1:=R.same s1
    have oa:a∉F++O:=fun z=>R1.th a z na
    have s2:Same H1 (upd (upd H1 a (.ext (exN a C))) a (.ext (exO a C a))):=fun b o q=>by rw[Am (Ba q na),Am (Ba q na)];exact q
    exact h3 O σ a _ (R1.same s2) (Lg.mpr ⟨a,C,U,a,[],rfl,G.at_,xc,by rw[Bh oa];exact Aw,.inr ⟨rfl,rfl⟩,rfl,RpL.nil⟩)
  refine wpAny_bind (wpAny_standAt (S6 xc (I.ok.hd hc) ?_))
  first
   |exact wpAny_bind (thn key fun v s₃ h₃=>wpAny_bind (wpAny_standAt (wpAny_pure h₃)))
   |exact key
end
section
variable{K:W.Frag}{c:Str}{C U A:Addr}{cd:ClassData}
end
section
variable{t1 t2 t3 t4 u:DTS}{D:G7}{ρ:BW}
theorem AcK(S:BW→Prop)(h1:∀N:BW→Prop,(∀ρ',S ρ'→N ρ')→t1 {D with nx:=N} ρ)(h2:∀ρ',S ρ'→u D ρ'):RW t1 u D ρ:=h1 (u D) h2
theorem AdW(S:BW→Prop)(h1:∀N:BW→Prop,(∀ρ',S ρ'→N ρ')→RW t1 (RW t2 (RW t3 t4)) {D with nx:=N} ρ)(h2:∀ρ',S ρ'→u D ρ'):RW t1 (RW t2 (RW t3 (RW t4 u))) D ρ:=h1 (u D) h2
end
section
variable{X:Cx}{iter elt:Expr}{px pos:Pos}{scope:Scope}{x:Str}{N:List Str}{sl:List Nat}{tx:JZ}{de:DTE}{ti:DTI}
end
section
variable{X:Cx}{a:Expr}{ta:DTE}{pos:Pos}
end
section
variable{X:Cx}{e:Expr}{te:DTE}
def Ahg(te:DTE):DTA:=fun ρ Q=>te ρ fun d=>match d with
 |.lst ks=>(∃b,Dt.bl b∈ks)∧Q ks
 |_=>False
theorem Afi(he:DE X e te):DF X e (Ahg te) where
 mono:=fun hq z=>he.mono (fun d z=>by
  split at z
  ·exact⟨z.1,hq _ z.2⟩
  ·exact z.elim) z
 pe:=he.pe.imp fun σ H Q ⟨B,F,O,ρ,R,z⟩=>⟨B,F,O,ρ,R,he.mono (fun d z v H1 s1 r1=>by
  split at z
  ·obtain⟨⟨rr,q2⟩,z⟩:=z
   obtain⟨a,xs,rfl,ls,rl⟩:=PK.mp r1
   have ea:mask (F++O) H1 a=some (.lst xs):=by
    rcases ls with ls|⟨_,hi⟩
    ·exact ls
    ·obtain⟨v,hv,r⟩:=rl.aeI q2
     obtain⟨i,e⟩:=hi _ hv
     rw[Fw.mp r]at e
     cases e
   obtain⟨na,ea⟩:=Cv ea
   exact z a H1 xs s1 ea na rl
  ·exact z.elim) z⟩
end
namespace Tb
def Rs(xs:Array Nat):Prop:=∀i k,i<k→k<xs.size→xs.getD i 0<xs.getD k 0
structure Ok(t:SetTable)(n:Nat):Prop where
 rs:Rs t.place
 sz:t.place.size=n
 le:∀k,k<t.place.size→t.place.getD k 0≤t.mask
 nd:t.dummies=#[]
 lt:n≤t.mask
set_option maxRecDepth 1000000 in
set_option maxRecDepth 1000000 in
set_option maxRecDepth 1000000 in
set_option maxRecDepth 1000000 in
set_option maxRecDepth 1000000 in
set_option maxRecDepth 1000000 in
def lp(mask:Nat):Nat→Nat×Nat→Nat×Nat
 |0,x=>x
 |n+1,x=>lp mask n (SetTable.leap mask x.1 x.2)
end Tb
end L2
namespace L2
open PySem
namespace Tb
structure PI(t:SetTable)(p:SetTable.Probe):Prop where
 i:p.i≤t.mask
 j:p.j+p.more≤t.mask
 d:p.dummy=none
end Tb
end L2
namespace L2
open PySem
namespace Tb
end Tb
end L2
namespace L2
open PySem Spec PyProof.Rows SeqAt
section
variable{prog:Program}{w:World}{A:Around}{E:Value→Shared→Prop}{s:Shared}{h:Heap}{r:List Int}{b:Addr}
end
section
variable{prog:Program}{w:World}{A:Around}{E:Value→Shared→Prop}{s:Shared}
end
section
variable{X:Cx}{e:Expr}{te:DTE}{pos:Pos}
end
section
variable{prog:Program}{w:World}{A:Around}{E:Value→Shared→Prop}{s:Shared}{a I:Addr}{es:Array (Int×Value)}{ep i:Nat}{t:SetTable}
end
section
variable{prog:Program}{w:World}{A:Around}{E:Value→Shared→Prop}{s:Shared}{a:Addr}{es:Array (Int×Value)}{ep:Nat}{t:SetTable}
end
section
variable{prog:Program}{w:World}{A:Around}{E:Value→Shared→Prop}{s:Shared}
end
section
variable{prog:Program}{w:World}{A:Around}{E:Value→Shared→Prop}{s:Shared}
end
section
variable{X:Cx}{e:Expr}{te:DTE}{pos:Pos}
end
section
variable{K:W.Frag}{B:Hp}{F O O1:List Addr}{H H1:Hp}{σ σ':St}{ρ ρ':BW}{i:Nat}{ds:List Dt}{a:Addr}{xs:List V}
end
section
variable{X:Cx}{e:Expr}{es:List Expr}{st:Stmt}{te:DTE}{tl:DTA}{tA tA':DTT}{t t':DTS}{pos:Pos}
end
section
variable{X:Cx}{e:Expr}{es:List Expr}{te:DTE}{tl:DTA}{pos:Pos}
end
section
variable{prog:Program}{w:World}{A:Around}{E:Value→Shared→Prop}{s:Shared}
end
section
variable{X:Cx}{e:Expr}{te:DTE}{pos:Pos}
end
section
variable{X:Cx}{a b:Expr}{ta tb:DTE}{pos:Pos}
end
variable{X:Cx}{pos:Pos}
def Aea(sp:DSp):DTE:=fun _ Q=>sp [] Q
theorem Abt{k:Nat}{ps:List Str}{sp:DSp}{x:Str}{stx:Stmt}{p:Pos}(m:Ij sp)(G:Pm X.prog X.w X.K X.mg X.base k x stx ps sp)(hr:Dd k X.A)(hg:Gl X x)(hdb:(x==("__debug__":Str))=false:=by decide):DE X (.Call (.Name x p) [] [] pos) (Aea sp) where
 mono:=fun hq h=>m _ _ _ hq h
 pe:=by
  obtain⟨f,fd,FT,G⟩:=G
  exact(AdN G hr hg FT.mg FT.fn.kp FT.bd .nil Wv hdb).imp fun σ H Q ⟨B,F,O,ρ,R,h⟩=>by
   show lSp X.K sp ([]++[]) H _ E0
   exact⟨F++O,[],R.th,RpL.nil,m _ _ _ (fun d q v H2 s2 r2=>q v H2 s2 r2) h⟩
end L2
namespace My
open PySem L2
abbrev Ul:DSp:=Ag0
abbrev I4:=Int×Int×Int×Int
abbrev I2:=Int×Int
abbrev t4(p:I4):Dt:=T4 p.1 p.2.1 p.2.2.1 p.2.2.2
abbrev t2(p:I2):Dt:=T2 p.1 p.2
def B4(n:Nat)(p:I4):Prop:=Bt n p.1∧Bt n p.2.1∧Bt n p.2.2.1∧Bt n p.2.2.2
def B2(n:Nat)(p:I2):Prop:=Bt n p.1∧Bt n p.2
def det(p:I4):Int:=p.1*p.2.2.2-p.2.1*p.2.2.1
def Io(t:I4)(p:I2):I2:=(t.1*p.1+t.2.1*p.2,t.2.2.1*p.1+t.2.2.2*p.2)
def Aq(a b:I4):I4:=(a.1*b.1+a.2.1*b.2.2.1,a.1*b.2.1+a.2.1*b.2.2.2,a.2.2.1*b.1+a.2.2.2*b.2.2.1,a.2.2.1*b.2.1+a.2.2.2*b.2.2.2)
def Ax(t:I4):I4:=(t.2.2.2,-t.2.1,-t.2.2.1,t.1)
theorem B4.le{n m:Nat}{t:I4}(h:B4 n t)(l:n≤m):B4 m t:=⟨h.1.le l,h.2.1.le l,h.2.2.1.le l,h.2.2.2.le l⟩
theorem B4.back{n:Nat}{t:I4}(h:B4 n t):B4 n (Ax t):=⟨h.2.2.2,h.2.1.neg,h.2.2.1.neg,h.1⟩
theorem B2.led{n m:Nat}{t:I4}{p:I2}(h:B4 n t)(q:B2 m p):B2 (n+m+1) (Io t p) :=
 ⟨((h.1.mul q.1).add (h.2.1.mul q.2)).le (by omega),((h.2.2.1.mul q.1).add (h.2.2.2.mul q.2)).le (by omega)⟩
theorem B4.then{n m:Nat}{t u:I4}(h:B4 n t)(q:B4 m u):B4 (n+m+1) (Aq t u) :=
 ⟨((h.1.mul q.1).add (h.2.1.mul q.2.2.1)).le (by omega),((h.1.mul q.2.1).add (h.2.1.mul q.2.2.2)).le (by omega),((h.2.2.1.mul q.1).add (h.2.2.2.mul q.2.2.1)).le (by omega),((h.2.2.1.mul q.2.1).add (h.2.2.2.mul q.2.2.2)).le (by omega)⟩
theorem Ez{t:I4}:det (Ax t)=det t:=by obtain⟨a,b,c,d⟩:=t;simp only[det,Ax];grind
theorem Dl{t u:I4}:det (Aq t u)=det t*det u:=by obtain⟨a,b,c,d⟩:=t;obtain⟨e,f,g,h⟩:=u;simp only[det,Aq];grind
theorem Kq{t:I4}(h:det t=1):Aq t (Ax t)=(1,0,0,1):=by
 obtain⟨a,b,c,d⟩:=t
 simp only[det,Aq,Ax,Prod.mk.injEq]at *
 refine⟨?_,?_,?_,?_⟩<;>grind
theorem Tn{t:I4}(h:det t=1):Aq (Ax t) t=(1,0,0,1):=by
 obtain⟨a,b,c,d⟩:=t
 simp only[det,Aq,Ax,Prod.mk.injEq]at *
 refine⟨?_,?_,?_,?_⟩<;>grind
theorem Ank{s t:I2}:Dt.eq (t2 s) (t2 t)=decide (s=t):=by
 obtain⟨a,b⟩:=s
 obtain⟨e,f⟩:=t
 simp only[V9,Qs,Qd,K6,Prod.mk.injEq,Bool.and_true]
 simp only[Bool.decide_and]
abbrev I3:=Int×Int×Int
abbrev t3(p:I3):Dt:=T3 p.1 p.2.1 p.2.2
def B3(n:Nat)(p:I3):Prop:=Bt n p.1∧Bt n p.2.1∧Bt n p.2.2
theorem B3.le{n m:Nat}{t:I3}(h:B3 n t)(l:n≤m):B3 m t:=⟨h.1.le l,h.2.1.le l,h.2.2.le l⟩
def meas(f:I3):Int:=f.2.1*f.2.1-4*f.1*f.2.2
def val(f:I3)(p:I2):Int:=f.1*p.1*p.1+f.2.1*p.1*p.2+f.2.2*p.2*p.2
def mid(f:I3)(l r:I2):Int:=2*f.1*l.1*r.1+f.2.1*(l.1*r.2+r.1*l.2)+2*f.2.2*l.2*r.2
def mov(f:I3)(t:I4):I3:=(val f (t.1,t.2.2.1),mid f (t.1,t.2.2.1) (t.2.1,t.2.2.2),val f (t.2.1,t.2.2.2))
theorem Anq{f:I3}{t:I4}{p:I2}:val (mov f t) p=val f (Io t p):=by
 obtain⟨a,b,c⟩:=f;obtain⟨e,g,h,i⟩:=t;obtain⟨x,y⟩:=p
 simp only[val,mov,mid,Io];grind
theorem Ca{f:I3}{t:I4}(h:det t=1):meas (mov f t)=meas f:=by
 obtain⟨a,b,c⟩:=f;obtain⟨e,g,i,j⟩:=t
 simp only[det]at h
 have e1:meas (mov (a,b,c) (e,g,i,j))=(e*j-g*i)*(e*j-g*i)*meas (a,b,c):=by simp only[meas,mov,val,mid];grind
 rw[e1,h];simp
theorem BK{f:I3}{t u:I4}:mov (mov f t) u=mov f (Aq t u):=by
 obtain⟨a,b,c⟩:=f;obtain⟨e,g,i,j⟩:=t;obtain⟨k,l,m,n⟩:=u
 simp only[mov,val,mid,Aq,Prod.mk.injEq]
 refine⟨?_,?_,?_⟩<;>grind
theorem Dy{f:I3}:mov f (1,0,0,1)=f:=by
 obtain⟨a,b,c⟩:=f
 simp only[mov,val,mid,Prod.mk.injEq]
 refine⟨?_,?_,?_⟩<;>grind
theorem AgZ{s t:I3}:Dt.eq (t3 s) (t3 t)=decide (s=t):=by
 obtain⟨a,b,c⟩:=s
 obtain⟨e,f,g⟩:=t
 simp only[V9,Qs,Qd,K6,Prod.mk.injEq,Bool.and_true]
 simp only[Bool.decide_and]
def Sq(n r:Int):Prop:=0≤r∧r*r≤n∧n<(r+1)*(r+1)
theorem Sq.uniq{n r s:Int}(a:Sq n r)(b:Sq n s):r=s:=by
 obtain⟨a0,a1,a2⟩:=a
 obtain⟨b0,b1,b2⟩:=b
 rcases Int.lt_trichotomy r s with h|h|h
 ·have:=Int.mul_le_mul (show r+1≤s by omega) (show r+1≤s by omega) (by omega) b0
  omega
 ·exact h
 ·have:=Int.mul_le_mul (show s+1≤r by omega) (show s+1≤r by omega) (by omega) a0
  omega
theorem Aa5{n g:Int}(hn:0≤n)(hg:0<g):n<((g+n / g) / 2+1)*((g+n / g) / 2+1):=by
 have h1:n<g*(n / g)+g:=Int.lt_mul_ediv_self_add hg
 have h0:0≤n / g:=Int.ediv_nonneg hn (by omega)
 generalize n / g=q at *
 have hb:g+q≤2*((g+q) / 2)+1:=by omega
 have hb0:0≤(g+q) / 2:=by omega
 generalize (g+q) / 2=b at *
 have z1:0≤(g-q-1)*(g-q-1):=by
  rcases Int.le_total 0 (g-q-1)with h|h
  ·exact Int.mul_nonneg h h
  ·exact Int.mul_nonneg_of_nonpos_of_nonpos h h
 have z2:(g+q+1)*(g+q+1)=(g-q-1)*(g-q-1)+4*(g*q+g):=by grind
 have z3:(g+q+1)*(g+q+1)≤(2*(b+1))*(2*(b+1)):=Int.mul_le_mul (by omega) (by omega) (by omega) (by omega)
 have z4:(2*(b+1))*(2*(b+1))=4*((b+1)*(b+1)):=by grind
 omega
theorem Ym{n g:Int}(hg:0<g)(h:g≤(g+n / g) / 2):g*g≤n:=by
 have h1:g*(n / g)≤n:=Int.mul_ediv_self_le (by omega)
 have h2:g≤n / g:=by omega
 have:=Int.mul_le_mul_of_nonneg_left h2 (show 0≤g by omega)
 omega
theorem X4{n g:Int}(hn:1≤n)(hg:0<g):0<(g+n / g) / 2:=by
 have h0:0≤n / g:=Int.ediv_nonneg (by omega) (by omega)
 rcases Int.lt_or_le g 2 with h|h
 ·have:g=1:=by omega
  subst this
  rw[Int.ediv_one];omega
 ·omega
theorem AdZ{n:Int}(hn:0≤n):n<(1*2 ^ ((((Builtin.Int.intBits n:Nat):Int)+1).fdiv 2).toNat+1)*(1*2 ^ ((((Builtin.Int.intBits n:Nat):Int)+1).fdiv 2).toNat+1):=by
 have h1:n.natAbs<2 ^ Builtin.Int.intBits n:=intBits_le_iff.mp (Nat.le_refl _)
 generalize Builtin.Int.intBits n=b at *
 have e:((((b:Nat):Int)+1).fdiv 2).toNat=(b+1) / 2:=by
  rw[Int.fdiv_eq_ediv_of_nonneg _ (by decide)];omega
 rw[e]
 generalize hk:(b+1) / 2=k
 have h2:2 ^ b≤2 ^ k*2 ^ k:=by rw[←Nat.pow_add];exact Nat.pow_le_pow_right (by decide) (by omega)
 have h3:n<((2 ^ k*2 ^ k:Nat):Int):=by omega
 have h4:((2 ^ k*2 ^ k:Nat):Int)=(2 ^ k:Int)*2 ^ k:=by push_cast;rfl
 rw[h4]at h3
 have h5:(0:Int)≤2 ^ k:=Int.pow_nonneg (by decide)
 generalize (2 ^ k:Int)=z at *
 have:(1*z+1)*(1*z+1)=z*z+2*z+1:=by grind
 omega
theorem Ve{n:Int}(h:Bt 4000 n):Abq 1 ((((Builtin.Int.intBits n:Nat):Int)+1).fdiv 2)∧Bt 2001 (1*2 ^ ((((Builtin.Int.intBits n:Nat):Int)+1).fdiv 2).toNat)∧0<(1*2 ^ ((((Builtin.Int.intBits n:Nat):Int)+1).fdiv 2).toNat:Int):=by
 have hb:Builtin.Int.intBits n≤4000:=intBits_le_iff.mpr h
 generalize Builtin.Int.intBits n=b at *
 rw[Int.fdiv_eq_ediv_of_nonneg _ (by decide)]
 refine⟨⟨by omega,by omega,by decide⟩,?_,?_⟩
 ·have e:(((b:Int)+1) / 2).toNat≤2000:=by omega
  generalize (((b:Int)+1) / 2).toNat=k at *
  unfold Bt
  rw[Int.one_mul,Int.natAbs_pow]
  exact Nat.pow_lt_pow_right (by decide) (by omega)
 ·rw[Int.one_mul]
  exact Int.pow_pos (by decide)
theorem Y0{n g:Int}(hg:0<g):(g+n.fdiv g).fdiv 2=(g+n / g) / 2:=by
 rw[Int.fdiv_eq_ediv_of_nonneg _ (by decide),Int.fdiv_eq_ediv_of_nonneg _ (by omega)]
def Gv(n:Int):Prop:=∃r:Int,r*r=n
theorem Mj{n r:Int}(h:Sq n r):Gv n↔r*r=n:=by
 refine⟨fun⟨s,e⟩=>?_,fun e=>⟨r,e⟩⟩
 have hs:Sq n (s.natAbs:Int):=by
  have e2:(s.natAbs:Int)*(s.natAbs:Int)=n:=(Int.natAbs_mul_self' s).trans e
  refine⟨by omega,by omega,?_⟩
  have:((s.natAbs:Int)+1)*((s.natAbs:Int)+1)=(s.natAbs:Int)*(s.natAbs:Int)+2*(s.natAbs:Int)+1:=by grind
  omega
 rw[h.uniq hs]
 exact(Int.natAbs_mul_self' s).trans e
theorem G5{n:Int}(h:n<0):¬Gv n:=fun⟨r,e⟩=>by
 have:0≤r*r:=by
  rcases Int.le_total 0 r with h|h
  ·exact Int.mul_nonneg h h
  ·exact Int.mul_nonneg_of_nonpos_of_nonpos h h
 omega
abbrev MP:DSp:=spec (fun n:Int=>[.int n]) (fun n=>0≤n∧Bt 4000 n) fun n d=>∃r,d=.int r∧Sq n r∧Bt 2001 r
abbrev JM:DSp:=spec (fun n:Int=>[.int n]) (fun n=>Bt 4000 n) fun n d=>∃b:Bool,d=.bl b∧(b=true↔Gv n)
theorem Eb(a b:Int):a.fmod b=a-b*a.fdiv b:=Int.fmod_def a b
theorem Kr{a b:Int}(h:b≠0):(a.fmod b).natAbs<b.natAbs:=by
 rcases Int.lt_or_lt_of_ne h with h|h
 ·have e:a.fmod b=-((-a).fmod (-b)):=by rw[Eb,Eb,Int.neg_fdiv_neg];grind
  have h1:=Int.fmod_nonneg_of_pos (-a) (show 0 < -b by omega)
  have h2:=Int.fmod_lt_of_pos (-a) (show 0 < -b by omega)
  omega
 ·have h1:=Int.fmod_nonneg_of_pos a h
  have h2:=Int.fmod_lt_of_pos a h
  omega
theorem Q7(a b:Int):Int.gcd b (a.fmod b)=Int.gcd a b:=by
 rw[Eb]
 have:a-b*a.fdiv b=a+b*(-(a.fdiv b)):=by grind
 rw[this,Int.gcd_comm]
 first
  |rw[Int.gcd_add_mul_left_left]
  |simp
theorem Lk{n:Nat}{a b:Int}(ha:Bt n a)(hb:Bt n b):Bt n ((Int.gcd a b:Nat):Int):=by
 unfold Bt at *
 rw[Int.natAbs_natCast]
 by_cases h:a=0
 ·subst h;rw[Int.gcd_zero_left];exact hb
 ·have:=Int.gcd_le_natAbs_left b h
  omega
def g3(f:I3):Nat:=Int.gcd ((Int.gcd f.1 f.2.1:Nat):Int) f.2.2
theorem AcL(f:I3):(g3 f:Int)∣f.1∧(g3 f:Int)∣f.2.1∧(g3 f:Int)∣f.2.2:=by
 have h1:(g3 f:Int)∣((Int.gcd f.1 f.2.1:Nat):Int):=Int.gcd_dvd_left _ _
 exact⟨Int.dvd_trans h1 (Int.gcd_dvd_left _ _),Int.dvd_trans h1 (Int.gcd_dvd_right _ _),Int.gcd_dvd_right _ _⟩
inductive AcO(f:I3):Dt→Prop
 |flat:Gv (meas f)→AcO f (.str "flat")
 |saddle:¬Gv (meas f)→0<meas f→AcO f (.str "saddle")
 |bowl:¬Gv (meas f)→¬0<meas f→0<f.1→AcO f (.str "bowl")
 |dome:¬Gv (meas f)→¬0<meas f→¬0<f.1→AcO f (.str "dome")
def Pt(x y:Int):Prop:=¬(x=0∧y=0)
structure Eo(f:I3):Prop where
 pos:0<f.1
 lo:-f.1≤f.2.1
 hi:f.2.1≤f.1
 ac:f.1≤f.2.2
 edge:f.2.1=-f.1∨f.1=f.2.2→0≤f.2.1
theorem sq_pos{x:Int}(h:x≠0):1≤x*x:=by
 rcases Int.lt_or_lt_of_ne h with h|h
 ·have:=Int.mul_le_mul_of_nonneg_left (show 1≤-x by omega) (show 0≤-x by omega)
  have e:(-x)*(-x)=x*x:=by grind
  omega
 ·have:=Int.mul_le_mul_of_nonneg_left (show 1≤x by omega) (show 0≤x by omega)
  omega
theorem Aad{a b c x y:Int}(ha:0<a)(h1:-a≤b)(h2:b≤a)(hc:a≤c)(hx:x≠0)(hy:y≠0):c≤val (a,b,c) (x,y):=by
 have key:∀X Y B:Int,1≤X→1≤Y→0≤B→B≤a→a+c-B≤a*(X*X)-B*(X*Y)+c*(Y*Y):=fun X Y B hX hY hB0 hB=>by
  have sX:1≤X*X:=sq_pos (by omega)
  have sY:1≤Y*Y:=sq_pos (by omega)
  rcases Int.le_total Y X with h|h
  ·have z1:X*Y≤X*X:=Int.mul_le_mul_of_nonneg_left h (by omega)
   have z2:B*(X*Y)≤B*(X*X):=Int.mul_le_mul_of_nonneg_left z1 hB0
   have z3:(a-B)*1≤(a-B)*(X*X):=Int.mul_le_mul_of_nonneg_left sX (by omega)
   have z4:c*1≤c*(Y*Y):=Int.mul_le_mul_of_nonneg_left sY (by omega)
   have z5:(a-B)*(X*X)=a*(X*X)-B*(X*X):=by grind
   omega
  ·have z1:X*Y≤Y*Y:=Int.mul_le_mul_of_nonneg_right h (by omega)
   have z2:B*(X*Y)≤B*(Y*Y):=Int.mul_le_mul_of_nonneg_left z1 hB0
   have z3:(c-B)*1≤(c-B)*(Y*Y):=Int.mul_le_mul_of_nonneg_left sY (by omega)
   have z4:a*1≤a*(X*X):=Int.mul_le_mul_of_nonneg_left sX (by omega)
   have z5:(c-B)*(Y*Y)=c*(Y*Y)-B*(Y*Y):=by grind
   omega
 have hX:1≤(x.natAbs:Int):=by omega
 have hY:1≤(y.natAbs:Int):=by omega
 have k:=key x.natAbs y.natAbs b.natAbs hX hY (by omega) (by omega)
 have e1:(x.natAbs:Int)*x.natAbs=x*x:=Int.natAbs_mul_self' x
 have e2:(y.natAbs:Int)*y.natAbs=y*y:=Int.natAbs_mul_self' y
 have e3:-((b.natAbs:Int)*((x.natAbs:Int)*y.natAbs))≤b*(x*y):=by
  have:((b.natAbs:Int)*((x.natAbs:Int)*y.natAbs))=((b*(x*y)).natAbs:Int):=by rw[Int.natAbs_mul,Int.natAbs_mul];push_cast;rfl
  rw[this];omega
 rw[e1,e2]at k
 have e4:val (a,b,c) (x,y)=a*(x*x)+b*(x*y)+c*(y*y):=by simp only[val];grind
 rw[e4]
 omega
theorem Le{a b c x:Int}:val (a,b,c) (x,0)=a*(x*x):=by simp only[val];grind
theorem YJ{a b c y:Int}:val (a,b,c) (0,y)=c*(y*y):=by simp only[val];grind
theorem Eo.min{f:I3}(L:Eo f){x y:Int}(h:Pt x y):f.1≤val f (x,y):=by
 obtain⟨a,b,c⟩:=f
 obtain⟨h0,h1,h2,h3,_⟩:=L
 simp only at h0 h1 h2 h3 ⊢
 by_cases hy:y=0
 ·subst hy
  have hx:x≠0:=fun z=>h ⟨z,rfl⟩
  rw[Le]
  have:=Int.mul_le_mul_of_nonneg_left (sq_pos hx) (show 0≤a by omega)
  omega
 ·by_cases hx:x=0
  ·subst hx
   rw[YJ]
   have:=Int.mul_le_mul_of_nonneg_left (sq_pos hy) (show 0≤c by omega)
   omega
  ·have:=Aad h0 h1 h2 h3 hx hy
   omega
theorem Eo.low{f:I3}(L:Eo f){x y:Int}(h:val f (x,y)<f.2.2):y=0:=by
 obtain⟨a,b,c⟩:=f
 obtain⟨h0,h1,h2,h3,_⟩:=L
 simp only at h0 h1 h2 h3 h ⊢
 by_cases hy:y=0
 ·exact hy
 ·exfalso
  by_cases hx:x=0
  ·subst hx
   rw[YJ]at h
   have:=Int.mul_le_mul_of_nonneg_left (sq_pos hy) (show 0≤c by omega)
   omega
  ·have:=Aad h0 h1 h2 h3 hx hy
   omega
theorem Aen{t:I4}(h:det t=1):Pt t.1 t.2.2.1:=fun⟨h1,h2⟩=>by
 obtain⟨p,q,r,s⟩:=t
 simp only[det]at h h1 h2
 rw[h1,h2]at h
 simp at h
theorem Cm{f:I3}{t:I4}(h:det t=1):mov (mov f t) (Ax t)=f:=by rw[BK,Kq h,Dy]
theorem Abh{x:Int}(h:x*x=1):x=1∨x=-1:=by
 rcases Int.lt_or_le x 0 with z|z
 ·have:(-x)*(-x)=1:=by grind
  rcases Int.lt_or_le (-x) 2 with w|w
  ·exact .inr (by omega)
  ·have:=Int.mul_le_mul w w (by decide) (by omega)
   omega
 ·rcases Int.lt_or_le x 2 with w|w
  ·rcases Int.lt_or_le x 1 with v|v
   ·have:x=0:=by omega
    rw[this]at h;simp at h
   ·exact .inl (by omega)
  ·have:=Int.mul_le_mul w w (by decide) z
   omega
theorem Eo.fix{f:I3}{t:I4}(L:Eo f)(M:Eo (mov f t))(h:det t=1)(ha:(mov f t).1=f.1)(hc:f.1<f.2.2):t=(1,0,0,1)∨t=(-1,0,0,-1):=by
 obtain⟨a,b,c⟩:=f
 obtain⟨p,q,r,s⟩:=t
 have e1:(mov (a,b,c) (p,q,r,s)).1=val (a,b,c) (p,r):=rfl
 have hr:r=0:=L.low (x:=p) (by rw[←e1,ha];exact hc)
 subst hr
 rw[e1,Le]at ha
 have h0:0<a:=L.pos
 simp only at ha
 have hpp:p*p=1:=by
  have:a*(p*p)=a*1:=by rw[ha];omega
  exact Int.eq_of_mul_eq_mul_left (by omega) this
 have hps:p*s=1:=by simp only[det]at h;omega
 have hb:(mov (a,b,c) (p,q,0,s)).2.1=2*(a*(p*q))+b:=by
  show 2*a*p*q+b*(p*s+q*0)+2*c*0*s=_
  rw[hps];grind
 have m1:-a≤2*(a*(p*q))+b:=by
  have:=M.lo
  rw[hb,e1,Le,hpp]at this
  omega
 have m2:2*(a*(p*q))+b≤a:=by
  have:=M.hi
  rw[hb,e1,Le,hpp]at this
  omega
 have m3:2*(a*(p*q))+b=-a→0≤2*(a*(p*q))+b:=fun z=>by
  have:=M.edge (.inl (by rw[hb,e1,Le,hpp];omega))
  rw[hb]at this
  exact this
 have l1:-a≤b:=L.lo
 have l2:b≤a:=L.hi
 have l3:b=-a→0≤b:=fun z=>L.edge (.inl z)
 have hq:p*q=0:=by
  generalize p*q=k at *
  rcases Int.lt_trichotomy k 0 with z|z|z
  ·have:=Int.mul_le_mul_of_nonneg_left (show k≤-1 by omega) (show 0≤a by omega)
   omega
  ·exact z
  ·have:=Int.mul_le_mul_of_nonneg_left (show 1≤k by omega) (show 0≤a by omega)
   omega
 rcases Abh hpp with rfl|rfl
 ·have h1:q=0:=by omega
  have h2:s=1:=by omega
  rw[h1,h2];exact .inl rfl
 ·have h1:q=0:=by omega
  have h2:s=-1:=by omega
  rw[h1,h2];exact .inr rfl
theorem Eo.one{f:I3}{t:I4}(L:Eo f)(M:Eo (mov f t))(h:det t=1):mov f t=f:=by
 have d1:f.1≤(mov f t).1:=by
  have e1:(mov f t).1=val f (t.1,t.2.2.1):=rfl
  rw[e1];exact L.min (Aen h)
 have hk:det (Ax t)=1:=Ez.trans h
 have d2:(mov f t).1≤f.1:=by
  have:=M.min (Aen hk)
  have e1:(mov (mov f t) (Ax t)).1=val (mov f t) ((Ax t).1,(Ax t).2.2.1):=rfl
  rw[←e1,Cm h]at this
  exact this
 have ha:(mov f t).1=f.1:=by omega
 have hm:=Ca (f:=f) h
 by_cases hc:f.1<f.2.2
 ·rcases L.fix M h ha hc with e|e
  ·rw[e,Dy]
  ·rw[e]
   obtain⟨a,b,c⟩:=f
   simp only[mov,val,mid,Prod.mk.injEq]
   refine⟨?_,?_,?_⟩<;>grind
 ·by_cases hc':(mov f t).1<(mov f t).2.2
  ·exfalso
   have L':Eo (mov (mov f t) (Ax t)):=by rw[Cm h];exact L
   have ha':(mov (mov f t) (Ax t)).1=(mov f t).1:=by rw[Cm h];exact ha.symm
   rcases M.fix L' hk ha' hc' with e|e
   ·have:f=mov f t:=by
     have z:=Cm (f:=f) h
     rw[e,Dy]at z
     exact z.symm
    rw[←this]at hc'
    exact hc hc'
   ·have:f=mov f t:=by
     have z:=Cm (f:=f) h
     rw[e]at z
     have z2:mov (mov f t) (-1,0,0,-1)=mov f t:=by
      obtain⟨a,b,c⟩:=mov f t
      simp only[mov,val,mid,Prod.mk.injEq]
      refine⟨?_,?_,?_⟩<;>grind
     rw[z2]at z
     exact z.symm
    rw[←this]at hc'
    exact hc hc'
  ·have l3:=L.ac
   have m3:=M.ac
   have l5:=L.edge (.inr (by omega))
   have m5:=M.edge (.inr (by omega))
   have l0:=L.pos
   have e2:f.2.2=f.1:=by omega
   have e3:(mov f t).2.2=f.1:=by omega
   generalize mov f t=g at *
   obtain⟨a,b,c⟩:=f
   obtain⟨a',b',c'⟩:=g
   simp only at *
   subst ha e2 e3
   simp only[meas]at hm
   have hbb:b'*b'=b*b:=by omega
   have:b'=b:=by
    rcases Int.lt_trichotomy b' b with z|z|z
    ·have z1:b'*b'≤b'*b:=Int.mul_le_mul_of_nonneg_left (by omega) m5
     have z2:b'*b<b*b:=Int.mul_lt_mul_of_pos_right z (by omega)
     omega
    ·exact z
    ·have z1:b*b≤b*b':=Int.mul_le_mul_of_nonneg_left (by omega) l5
     have z2:b*b'<b'*b':=Int.mul_lt_mul_of_pos_right z (by omega)
     omega
   rw[this]
theorem Akd(ns:List Int)(lo hi:Option Int):∃cs:List Int,cutD (ns.map Dt.int) lo hi=cs.map Dt.int∧cs.length≤ns.length:=by
 refine⟨(ns.drop (HT.sIx (ns.map Dt.int).length 0 lo)).take (HT.sIx (ns.map Dt.int).length (ns.map Dt.int).length hi-HT.sIx (ns.map Dt.int).length 0 lo),by unfold cutD;rw[List.map_take,List.map_drop],?_⟩
 rw[List.length_take,List.length_drop];omega
theorem J7(x:Int){m:Int}(h:0<m):0≤x.fmod m∧x.fmod m<m:=⟨Int.fmod_nonneg_of_pos x h,Int.fmod_lt_of_pos x h⟩
theorem sq_nonneg(x:Int):0≤x*x:=by
 rcases Int.le_total 0 x with h|h
 ·exact Int.mul_nonneg h h
 ·exact Int.mul_nonneg_of_nonpos_of_nonpos h h
theorem Agw(ns:List Int)(lo hi:Option Int):∃cs:List Int,cutD (ns.map Dt.int) lo hi=cs.map Dt.int∧cs.length≤ns.length∧∀n∈cs,n∈ns:=by
 refine⟨(ns.drop (HT.sIx (ns.map Dt.int).length 0 lo)).take (HT.sIx (ns.map Dt.int).length (ns.map Dt.int).length hi-HT.sIx (ns.map Dt.int).length 0 lo),by unfold cutD;rw[List.map_take,List.map_drop],?_,fun n h=>List.mem_of_mem_drop (List.mem_of_mem_take h)⟩
 rw[List.length_take,List.length_drop];omega
def BJ(f:I3):Prop:=0<f.1∧meas f<0
def stands(f:I3):Bool:=decide (-f.1≤f.2.1∧f.2.1≤f.1∧f.1≤f.2.2)&&(decide (0≤f.2.1)||(decide (f.2.1≠-f.1)&&decide (f.1≠f.2.2)))
theorem Br{f:I3}(h:0<f.1)(s:stands f=true):Eo f:=by
 simp only[stands,Bool.and_eq_true,Bool.or_eq_true,decide_eq_true_eq]at s
 obtain⟨⟨h1,h2,h3⟩,h4⟩:=s
 exact⟨h,h1,h2,h3,fun z=>by rcases h4 with h4|⟨h4,h5⟩;exact h4;rcases z with z|z;exact absurd z h4;exact absurd z h5⟩
theorem Eo.stands{f:I3}(L:Eo f):stands f=true:=by
 simp only[My.stands,Bool.and_eq_true,Bool.or_eq_true,decide_eq_true_eq]
 refine⟨⟨L.lo,L.hi,L.ac⟩,?_⟩
 by_cases h:0≤f.2.1
 ·exact .inl h
 ·exact .inr ⟨fun z=>h (L.edge (.inl z)),fun z=>h (L.edge (.inr z))⟩
theorem Eo.bowl{f:I3}(L:Eo f):BJ f:=by
 obtain⟨a,b,c⟩:=f
 refine⟨L.pos,?_⟩
 have h0:0<a:=L.pos
 have h1:-a≤b:=L.lo
 have h2:b≤a:=L.hi
 have h3:a≤c:=L.ac
 have h4:b*b≤a*a:=by
  have e1:(b.natAbs:Int)*b.natAbs=b*b:=Int.natAbs_mul_self' b
  have:=Int.mul_le_mul (show(b.natAbs:Int)≤a by omega) (show(b.natAbs:Int)≤a by omega) (by omega) (by omega)
  omega
 have h5:a*a≤a*c:=Int.mul_le_mul_of_nonneg_left h3 (by omega)
 have h6:1≤a*a:=sq_pos (by omega)
 show b*b-4*a*c<0
 have e:4*a*c=4*(a*c):=by grind
 omega
theorem Eo.bt{f:I3}{n:Nat}(L:Eo f)(h:Bt n (meas f)):B3 n f:=by
 obtain⟨a,b,c⟩:=f
 have h0:0<a:=L.pos
 have h1:-a≤b:=L.lo
 have h2:b≤a:=L.hi
 have h3:a≤c:=L.ac
 have h4:b*b≤a*a:=by
  have e1:(b.natAbs:Int)*b.natAbs=b*b:=Int.natAbs_mul_self' b
  have:=Int.mul_le_mul (show(b.natAbs:Int)≤a by omega) (show(b.natAbs:Int)≤a by omega) (by omega) (by omega)
  omega
 have h5:a*a≤a*c:=Int.mul_le_mul_of_nonneg_left h3 (by omega)
 have h6:1*c≤a*c:=Int.mul_le_mul_of_nonneg_right (by omega) (by omega)
 have hm:meas (a,b,c)=b*b-4*(a*c):=by simp only[meas];grind
 have hc:Bt n c:=by unfold Bt at *;rw[hm]at h;omega
 refine⟨?_,?_,hc⟩
 ·show Bt n a
  unfold Bt at *;omega
 ·show Bt n b
  unfold Bt at *;omega
def oft(f:I3):Int:=(f.1-f.2.1).fdiv (2*f.1)
def Ej(f:I3):I4:=if oft f≠0 then(1,oft f,0,1)else(0,-1,1,0)
theorem SX{f:I3}:det (Ej f)=1:=by
 unfold Ej
 split<;>simp[det]
theorem Wh{a b c k:Int}:mov (a,b,c) (1,k,0,1)=(a,b+2*a*k,a*k*k+b*k+c):=by
 simp only[mov,val,mid,Prod.mk.injEq]
 refine⟨?_,?_,?_⟩<;>grind
theorem Vr{a b c:Int}:mov (a,b,c) (0,-1,1,0)=(c,-b,a):=by
 simp only[mov,val,mid,Prod.mk.injEq]
 refine⟨?_,?_,?_⟩<;>grind
theorem KD{a b:Int}(h:0<a):-a<b+2*a*((a-b).fdiv (2*a))∧b+2*a*((a-b).fdiv (2*a))≤a:=by
 rw[Int.fdiv_eq_ediv_of_nonneg _ (by omega)]
 have h1:=Int.lt_mul_ediv_self_add (x:=a-b) (show 0<2*a by omega)
 have h2:=Int.mul_ediv_self_le (x:=a-b) (k:=2*a) (by omega)
 omega
theorem WY{a b:Int}(h:0<a)(z:(a-b).fdiv (2*a)=0):-a<b∧b≤a:=by
 have:=KD (b:=b) h
 rw[z]at this
 omega
def msr(f:I3):Nat:=4*f.1.toNat+(if -f.1<f.2.1∧f.2.1≤f.1 then 0 else 2)+(if f.2.1<0 then 1 else 0)
theorem U4{f:I3}(h:BJ f):0<f.2.2:=by
 obtain⟨a,b,c⟩:=f
 obtain⟨h0,h1⟩:=h
 simp only[meas]at h0 h1 ⊢
 rcases Int.lt_or_le 0 c with h|h
 ·exact h
 ·exfalso
  have h2:0≤b*b:=sq_nonneg b
  have h3:a*c≤a*0:=Int.mul_le_mul_of_nonneg_left h (by omega)
  have e:4*a*c=4*(a*c):=by grind
  omega
theorem V0{f:I3}{t:I4}(h:BJ f)(d:det t=1):BJ (mov f t):=by
 have hm:=Ca (f:=f) d
 refine⟨?_,by rw[hm];exact h.2⟩
 obtain⟨a,b,c⟩:=f
 obtain⟨p,q,r,s⟩:=t
 obtain⟨h0,h1⟩:=h
 show 0<val (a,b,c) (p,r)
 simp only[meas]at h0 h1
 have e:4*(a*val (a,b,c) (p,r))=(2*a*p+b*r)*(2*a*p+b*r)-(b*b-4*a*c)*(r*r):=by simp only[val];grind
 have z1:=sq_nonneg (2*a*p+b*r)
 have z2:0≤(4*a*c-b*b)*(r*r):=Int.mul_nonneg (by omega) (sq_nonneg r)
 have e2:(4*a*c-b*b)*(r*r)=-((b*b-4*a*c)*(r*r)):=by grind
 rcases Int.lt_or_le 0 (val (a,b,c) (p,r))with h|h
 ·exact h
 ·exfalso
  have z3:a*val (a,b,c) (p,r)≤a*0:=Int.mul_le_mul_of_nonneg_left h (by omega)
  have hr:r*r=0:=by
   by_cases hr:r=0
   ·rw[hr];rfl
   ·exfalso
    have:=Int.mul_le_mul (show 1≤4*a*c-b*b by omega) (sq_pos hr) (by omega) (by omega)
    omega
  have hr0:r=0:=by
   by_cases hr0:r=0
   ·exact hr0
   ·have:=sq_pos hr0;omega
  subst hr0
  have hp:p≠0:=fun hp=>by subst hp;simp[det]at d
  have hp1:=sq_pos hp
  have e3:val (a,b,c) (p,0)=a*(p*p):=Le
  rw[e3]at h
  have:=Int.mul_le_mul_of_nonneg_left hp1 (show 0≤a by omega)
  omega
theorem Aa7{f:I3}(h:BJ f)(s:stands f=false):msr (mov f (Ej f))<msr f:=by
 obtain⟨a,b,c⟩:=f
 have ha:0<a:=h.1
 have hc:0<c:=U4 h
 unfold Ej
 by_cases ho:oft (a,b,c)=0
 ·rw[if_neg (by simpa using ho),Vr]
  have ⟨h1,h2⟩:-a<b∧b≤a:=WY ha ho
  have hs:c<a∨(a=c∧b<0):=by
   simp only[stands,Bool.and_eq_false_iff,Bool.or_eq_false_iff,decide_eq_false_iff_not]at s
   omega
  unfold msr
  simp only
  rw[if_pos (show -a<b∧b≤a from⟨h1,h2⟩)]
  rcases hs with hs|⟨hs,hb⟩
  ·split<;>split<;>split<;>omega
  ·subst hs
   rw[if_pos (show -a < -b∧-b≤a by omega),if_pos hb,if_neg (by omega)]
   omega
 ·rw[if_pos ho,Wh]
  have ⟨h1,h2⟩:=KD (b:=b) ha
  have hn:¬(-a<b∧b≤a):=fun z=>ho (by
   show(a-b).fdiv (2*a)=0
   rw[Int.fdiv_eq_ediv_of_nonneg _ (by omega)]
   exact Int.ediv_eq_zero_of_lt (by omega) (by omega))
  unfold msr
  simp only
  show 4*a.toNat+(if -a<b+2*a*((a-b).fdiv (2*a))∧b+2*a*((a-b).fdiv (2*a))≤a then 0 else 2)+(if b+2*a*((a-b).fdiv (2*a))<0 then 1 else 0)<_
  rw[if_pos ⟨h1,h2⟩,if_neg hn]
  split<;>split<;>omega
theorem Ab3{f:I3}{n:Nat}(h:BJ f)(s:stands f=false)(b1:Bt n f.1)(b2:Bt n f.2.1):Bt n (mov f (Ej f)).1∧Bt n (mov f (Ej f)).2.1:=by
 obtain⟨a,b,c⟩:=f
 have ha:0<a:=h.1
 have hc:0<c:=U4 h
 have b1:Bt n a:=b1
 have b2:Bt n b:=b2
 unfold Ej
 by_cases ho:oft (a,b,c)=0
 ·rw[if_neg (by simpa using ho),Vr]
  have ⟨h1,h2⟩:-a<b∧b≤a:=WY ha ho
  have hs:c≤a:=by
   simp only[stands,Bool.and_eq_false_iff,Bool.or_eq_false_iff,decide_eq_false_iff_not]at s
   omega
  refine⟨?_,b2.neg⟩
  show Bt n c
  unfold Bt at *;omega
 ·rw[if_pos ho,Wh]
  have ⟨h1,h2⟩:=KD (b:=b) ha
  refine⟨b1,?_⟩
  show Bt n (b+2*a*((a-b).fdiv (2*a)))
  unfold Bt at *;omega
theorem Afs{f:I3}{n m:Nat}(h:BJ f)(b1:Bt n f.1)(b2:Bt n f.2.1)(hm:Bt m (meas f)):B3 (n+n+m+1) f:=by
 obtain⟨a,b,c⟩:=f
 have ha:0<a:=h.1
 have hc:0<c:=U4 h
 refine⟨b1.le (by omega),b2.le (by omega),?_⟩
 have z:=(b2.mul b2).sub hm
 have e:b*b-meas (a,b,c)=4*(a*c):=by simp only[meas];grind
 have z1:1*c≤a*c:=Int.mul_le_mul_of_nonneg_right (by omega) (by omega)
 have z':Bt (max (n+n) m+1) (4*(a*c)):=by rw[←e];exact z
 have z2:Bt (max (n+n) m+1) c:=by unfold Bt at *;omega
 exact z2.le (by omega)
theorem Aht{n:Nat}{x:Int}(h:x*x<2 ^ (2*n)):Bt n x:=by
 unfold Bt
 rcases Nat.lt_or_ge x.natAbs (2 ^ n)with z|z
 ·exact z
 ·exfalso
  have:=Nat.mul_le_mul z z
  rw[←Nat.pow_add,show n+n=2*n by omega]at this
  have e1:(x.natAbs:Int)*x.natAbs=x*x:=Int.natAbs_mul_self' x
  have:((2 ^ (2*n):Nat):Int)≤(x.natAbs:Int)*x.natAbs:=by exact_mod_cast this
  rw[e1]at this
  push_cast at this
  omega
theorem WK{f:I3}{n m k:Nat}{x y:Int}(h:BJ f)(hb:B3 n f)(hv:Bt m (val f (x,y)))(hk:n+m+2≤2*k):B2 k (x,y):=by
 obtain⟨a,b,c⟩:=f
 have ha:0<a:=h.1
 have hc:0<c:=U4 h
 have hm:b*b-4*a*c<0:=h.2
 obtain⟨h1,h2,h3⟩:=hb
 have h4:Bt 3 4:=Bt.aA (by decide)
 have e1:4*(a*val (a,b,c) (x,y))=(2*a*x+b*y)*(2*a*x+b*y)+(4*a*c-b*b)*(y*y):=by simp only[val];grind
 have e2:4*(c*val (a,b,c) (x,y))=(2*c*y+b*x)*(2*c*y+b*x)+(4*a*c-b*b)*(x*x):=by simp only[val];grind
 have k1:y*y≤4*(a*val (a,b,c) (x,y)):=by
  have z1:=sq_nonneg (2*a*x+b*y)
  have z2:=Int.mul_le_mul_of_nonneg_right (show 1≤4*a*c-b*b by omega) (sq_nonneg y)
  omega
 have k2:x*x≤4*(c*val (a,b,c) (x,y)):=by
  have z1:=sq_nonneg (2*c*y+b*x)
  have z2:=Int.mul_le_mul_of_nonneg_right (show 1≤4*a*c-b*b by omega) (sq_nonneg x)
  omega
 have up:∀{z w:Int},Bt n z→w≤4*(z*val (a,b,c) (x,y))→w<2 ^ (2*k):=fun{z w} hz hw=>by
  have h5:=hz.mul hv
  have h6:Bt (n+m) (z*val (a,b,c) (x,y)):=h5
  have h7:(4:Int)*2 ^ (n+m)≤2 ^ (2*k):=by
   have:(4:Int)*2 ^ (n+m)=2 ^ (n+m+2):=by rw[show n+m+2=(n+m)+1+1 from rfl,Int.pow_succ,Int.pow_succ];omega
   rw[this]
   have:=Nat.pow_le_pow_right (show 0<2 by decide) hk
   exact_mod_cast this
  unfold Bt at h6
  have h8:z*val (a,b,c) (x,y)<2 ^ (n+m):=by
   have:((z*val (a,b,c) (x,y)).natAbs:Int)<((2 ^ (n+m):Nat):Int):=by exact_mod_cast h6
   push_cast at this
   omega
  omega
 exact⟨Aht (up h3 k2),Aht (up h1 k1)⟩
theorem AgD{f:I3}{t:I4}{n m k:Nat}(h:BJ f)(hb:B3 n f)(hg:B3 m (mov f t))(hk:n+m+2≤2*k):B4 k t:=by
 have p1:=WK (x:=t.1) (y:=t.2.2.1) h hb hg.1 hk
 have p2:=WK (x:=t.2.1) (y:=t.2.2.2) h hb hg.2.2 hk
 exact⟨p1.1,p2.1,p1.2,p2.2⟩
theorem Rt{f:I3}(h:oft f=0):Ej f=(0,-1,1,0):=by unfold Ej;rw[if_neg (by simpa using h)]
theorem Qc{f:I3}(h:¬oft f=0):Ej f=(1,oft f,0,1):=by unfold Ej;rw[if_pos h]
theorem Ad6{f:I3}{n:Nat}(h:0<f.1)(b1:Bt n f.1)(b2:Bt n f.2.1):B4 (n+1) (Ej f):=by
 obtain⟨a,b,c⟩:=f
 have h:0<a:=h
 have b1:Bt n a:=b1
 have b2:Bt n b:=b2
 have one:Bt (n+1) 1:=Bt.one.le (by omega)
 by_cases ho:oft (a,b,c)=0
 ·rw[Rt ho]
  exact⟨Bt.zero.le (by omega),one.neg,one,Bt.zero.le (by omega)⟩
 ·rw[Qc ho]
  refine⟨one,?_,Bt.zero.le (by omega),one⟩
  have ⟨h1,h2⟩:=KD (b:=b) h
  show Bt (n+1) ((a-b).fdiv (2*a))
  generalize (a-b).fdiv (2*a)=k at *
  have e:2*a*k=2*(a*k):=by grind
  have z:(k.natAbs:Int)≤((a*k).natAbs:Int):=by
   rw[Int.natAbs_mul]
   have:=Nat.mul_le_mul_right k.natAbs (show 1≤a.natAbs by omega)
   omega
  unfold Bt at *
  rw[Nat.pow_succ]
  omega
structure Sad(f:I3):Prop where
 no:¬Gv (meas f)
 pos:0<meas f
 most:meas f≤4000
def Level(f:I3)(far:Int):Prop:=(0<f.2.1∧f.2.1≤far)∧far-f.2.1<2*(if f.1<0 then -f.1 else f.1)∧2*(if f.1<0 then -f.1 else f.1)≤far+f.2.1
instance {f:I3} {far:Int}:Decidable (Level f far):=by unfold Level;infer_instance
theorem Sad.mov{f:I3}{t:I4}(h:Sad f)(d:det t=1):Sad (mov f t):=by
 have e:=Ca (f:=f) d
 exact⟨by rw[e];exact h.no,by rw[e];exact h.pos,by rw[e];exact h.most⟩
abbrev ab(x:Int):Int:=if x<0 then -x else x
theorem Bk(x:Int):(0≤x∧ab x=x)∨(x<0∧ab x=-x):=by
 rcases Int.lt_or_le x 0 with h|h
 ·exact .inr ⟨h,if_pos h⟩
 ·exact .inl ⟨h,if_neg (by omega)⟩
theorem Ci(x:Int):0≤ab x:=by rcases Bk x with⟨h,e⟩|⟨h,e⟩<;>omega
theorem AmD{n:Nat}{x:Int}(h:Bt n x):Bt n (ab x):=by
 rcases Bk x with⟨_,e⟩|⟨_,e⟩<;>rw[e]
 ·exact h
 ·exact h.neg
theorem Aac{n:Nat}{x y:Int}(h:Bt n y)(l:ab x≤ab y):Bt n x:=by
 unfold Bt at *
 rcases Bk x with⟨_,e⟩|⟨_,e⟩<;>rcases Bk y with⟨_,e'⟩|⟨_,e'⟩<;>omega
theorem Tz{n:Nat}{x k:Int}(l:ab x≤k)(hk:k<2 ^ n):Bt n x:=by
 rcases Bk x with⟨_,e⟩|⟨_,e⟩<;>exact Bt.of (by omega) (by omega)
def dB(f:I3)(top:Int):Int:=top-(top+f.2.1).fmod (2*ab f.2.2)
def kB(f:I3)(top:Int):Int:=(f.2.1+dB f top).fdiv (2*f.2.2)
def Dc(f:I3)(top:Int):I4:=(0,-1,1,kB f top)
theorem Dj{f:I3}{top:Int}:det (Dc f top)=1:=by simp[det,Dc]
theorem Mu{f:I3}{top:Int}(h:f.2.2≠0):top-2*ab f.2.2<dB f top∧dB f top≤top:=by
 have hc:0<2*ab f.2.2:=by rcases Bk f.2.2 with⟨_,e⟩|⟨_,e⟩<;>omega
 have:=J7 (top+f.2.1) hc
 unfold dB
 omega
theorem Jf{f:I3}{top:Int}(h:f.2.2≠0):2*f.2.2*kB f top=f.2.1+dB f top:=by
 unfold kB dB
 have e:=Int.fmod_def (top+f.2.1) (2*ab f.2.2)
 generalize (top+f.2.1).fdiv (2*ab f.2.2)=q at *
 have e1:f.2.1+(top-(top+f.2.1).fmod (2*ab f.2.2))=2*ab f.2.2*q:=by omega
 rw[e1]
 rcases Bk f.2.2 with⟨_,e2⟩|⟨_,e2⟩
 ·rw[e2,Int.mul_fdiv_cancel_left _ (by omega)]
 ·have e3:2*ab f.2.2*q=2*f.2.2*(-q):=by rw[e2];grind
  rw[e3,Int.mul_fdiv_cancel_left _ (by omega)]
theorem Py{f:I3}{top:Int}(h:f.2.2≠0):∃e,mov f (Dc f top)=(f.2.2,dB f top,e):=by
 have hk:=Jf (top:=top) h
 obtain⟨a,b,c⟩:=f
 refine⟨(mov (a,b,c) (Dc (a,b,c) top)).2.2,?_⟩
 have e1:(mov (a,b,c) (Dc (a,b,c) top)).1=c:=by simp only[mov,val,Dc];grind
 have e2:(mov (a,b,c) (Dc (a,b,c) top)).2.1=dB (a,b,c) top:=by
  simp only[mov,mid,Dc]
  simp only at hk
  generalize kB (a,b,c) top=k at *
  have:2*a*0 * -1+b*(0*k + -1*1)+2*c*1*k=2*c*k-b:=by grind
  omega
 ext1
 ·exact e1
 ·ext1
  ·exact e2
  ·rfl
theorem W4{D far:Int}(r:Sq D far)(n:¬Gv D):far*far<D:=by
 rcases Int.lt_or_le (far*far) D with h|h
 ·exact h
 ·exact absurd ⟨far,by have:=r.2.1;omega⟩ n
theorem PX{D far:Int}(r:Sq D far)(m:D≤4000):far≤63:=by
 rcases Int.lt_or_le far 64 with h|h
 ·omega
 ·have:=Int.mul_le_mul h h (by decide) r.1
  have:=r.2.1
  omega
theorem Jp{f:I3}(S:Sad f):f.2.2≠0:=fun h=>S.no ⟨f.2.1,by
 obtain⟨a,b,c⟩:=f
 simp only at h
 subst h
 simp only[meas]
 omega⟩
theorem ZV{f:I3}(S:Sad f):f.1≠0:=fun h=>S.no ⟨f.2.1,by
 obtain⟨a,b,c⟩:=f
 simp only at h
 subst h
 simp only[meas]
 omega⟩
theorem Rb(x y:Int):ab x*ab y=ab (x*y):=by
 rcases Bk x with⟨h1,e1⟩|⟨h1,e1⟩<;>rcases Bk y with⟨h2,e2⟩|⟨h2,e2⟩<;>rw[e1,e2]
 ·have:=Int.mul_nonneg h1 h2
  exact(if_neg (by omega)).symm
 ·have:=Int.mul_nonneg h1 (show 0≤-y by omega)
  have e:x * -y=-(x*y):=by grind
  by_cases h:x*y<0
  ·rw[ab,if_pos h,e]
  ·rw[ab,if_neg h];omega
 ·have:=Int.mul_nonneg (show 0≤-x by omega) h2
  have e:-x*y=-(x*y):=by grind
  by_cases h:x*y<0
  ·rw[ab,if_pos h,e]
  ·rw[ab,if_neg h];omega
 ·have:=Int.mul_nonneg (show 0≤-x by omega) (show 0≤-y by omega)
  have e:-x * -y=x*y:=by grind
  rw[ab,if_neg (by omega),e]
theorem Ka{x k:Int}(h:ab x≤k):x*x≤k*k:=by
 have e:x*x=ab x*ab x:=by
  rcases Bk x with⟨_,e⟩|⟨_,e⟩<;>rw[e]
  grind
 rw[e]
 have:=Ci x
 exact Int.mul_le_mul h h this (by omega)
theorem last_eq{c d e D:Int}(h:meas (c,d,e)=D):4*(ab c*ab e)=ab (d*d-D):=by
 have:d*d-D=4*(c*e):=by rw[←h];simp only[meas];grind
 rw[this,Rb]
 rcases Bk (c*e)with⟨h1,e1⟩|⟨h1,e1⟩
 ·rw[e1,ab,if_neg (by omega)]
 ·rw[e1,ab,if_pos (by omega)];omega
theorem AgE{c d e D far:Int}(r:Sq D far)(D0:0<D)(h:meas (c,d,e)=D)(hc:far<ab c)(h1:-ab c<d)(h2:d≤ab c):4*ab e≤ab c:=by
 have k:=last_eq h
 have hd:d*d≤ab c*ab c:=by
  refine Ka ?_
  rcases Bk d with⟨_,e1⟩|⟨_,e1⟩<;>omega
 have hD:D≤ab c*ab c:=by
  have:=Int.mul_le_mul (show far+1≤ab c by omega) (show far+1≤ab c by omega) (by have:=r.1;omega) (Ci c)
  have:=r.2.2
  omega
 have h0:=sq_nonneg d
 have:ab (d*d-D)≤ab c*ab c:=by
  rcases Bk (d*d-D)with⟨_,e1⟩|⟨_,e1⟩<;>omega
 have hc0:0<ab c:=by have:=r.1;omega
 rcases Int.lt_or_le (ab c) (4*ab e)with z|z
 ·exfalso
  have:=Int.mul_lt_mul_of_pos_left z hc0
  have e2:ab c*(4*ab e)=4*(ab c*ab e):=by grind
  omega
 ·exact z
theorem AcT{c d e D far:Int}(r:Sq D far)(n:¬Gv D)(h:meas (c,d,e)=D)(hc:ab c≤far)(hc2:far<2*ab c)(h1:far-2*ab c<d)(h2:d≤far):2*ab e≤far:=by
 have k:=last_eq h
 have hf:=W4 r n
 have hd:d*d≤far*far:=by
  refine Ka ?_
  rcases Bk d with⟨_,e1⟩|⟨_,e1⟩<;>omega
 have h0:=sq_nonneg d
 have hD:=r.2.2
 have:ab (d*d-D)<(far+1)*(far+1):=by
  rcases Bk (d*d-D)with⟨_,e1⟩|⟨_,e1⟩<;>omega
 rcases Int.lt_or_le far (2*ab e)with z|z
 ·exfalso
  have:=Int.mul_le_mul (show far+1≤2*ab c by omega) (show far+1≤2*ab e by omega) (by have:=r.1;omega) (by have:=Ci c;omega)
  have e2:2*ab c*(2*ab e)=4*(ab c*ab e):=by grind
  omega
 ·exact z
theorem Zq{c d e far:Int}(hc:2*ab c≤far)(h1:far-2*ab c<d)(h2:d≤far):Level (c,d,e) far:=by
 refine⟨⟨?_,h2⟩,?_,?_⟩
 ·show 0<d;omega
 ·show far-d<2*ab c;omega
 ·show 2*ab c≤far+d;omega
theorem Xu{c d e D far:Int}(r:Sq D far)(hm:D≤4000)(D0:0<D)(h:meas (c,d,e)=D)(c0:c≠0)(hd:ab d≤far):ab e≤1000:=by
 have k:=last_eq h
 have h2:d*d≤far*far:=Ka hd
 have h0:=sq_nonneg d
 have h3:=r.2.1
 have:ab (d*d-D)≤4000:=by
  rcases Bk (d*d-D)with⟨_,e1⟩|⟨_,e1⟩<;>omega
 have hc:1≤ab c:=by rcases Bk c with⟨_,e1⟩|⟨_,e1⟩<;>omega
 have:=Int.mul_le_mul_of_nonneg_right hc (Ci e)
 omega
theorem JF{f:I3}{far:Int}(r:Sq (meas f) far)(n:¬Gv (meas f))(L:Level f far):far-f.2.1<2*ab f.2.2∧2*ab f.2.2≤far+f.2.1:=by
 obtain⟨a,b,c⟩:=f
 obtain⟨⟨l1,l2⟩,l3,l4⟩:=L
 have l1:0<b:=l1
 have l2:b≤far:=l2
 have l3:far-b<2*ab a:=l3
 have l4:2*ab a≤far+b:=l4
 show far-b<2*ab c∧2*ab c≤far+b
 have hf:=W4 r n
 have hD:=r.2.2
 have k:4*(ab a*ab c)=ab (b*b-meas (a,b,c)):=last_eq (c:=a) (d:=b) (e:=c) rfl
 generalize meas (a,b,c)=D at *
 have hb:b*b≤far*far:=Int.mul_le_mul l2 l2 (by omega) (by omega)
 have k2:(2*ab a)*(2*ab c)=D-b*b:=by
  have e1:(2*ab a)*(2*ab c)=4*(ab a*ab c):=by grind
  rcases Bk (b*b-D)with⟨_,e⟩|⟨_,e⟩<;>omega
 generalize 2*ab a=A at *
 have hC0:0≤2*ab c:=by have:=Ci c;omega
 generalize 2*ab c=C at *
 constructor
 ·rcases Int.lt_or_le (far-b) C with z|z
  ·exact z
  ·exfalso
   have z1:A*C≤(far+b)*(far-b):=Int.mul_le_mul l4 z hC0 (by omega)
   have e1:(far+b)*(far-b)=far*far-b*b:=by grind
   omega
 ·rcases Int.lt_or_le (far+b) C with z|z
  ·exfalso
   have z1:(far-b+1)*(far+b+1)≤A*C:=Int.mul_le_mul (by omega) (by omega) (by omega) (by omega)
   have e1:(far-b+1)*(far+b+1)=(far+1)*(far+1)-b*b:=by grind
   omega
  ·exact z
theorem Xp{f:I3}{far:Int}(S:Sad f)(r:Sq (meas f) far)(L:Level f far):Level (mov f (Dc f far)) far:=by
 have hc:=Jp S
 obtain⟨e,he⟩:=Py (top:=far) hc
 rw[he]
 have ⟨d1,d2⟩:=Mu (top:=far) hc
 have ⟨c1,c2⟩:=JF r S.no L
 obtain⟨⟨l1,l2⟩,_,_⟩:=L
 have hk:=Jf (top:=far) hc
 have d3:far-2*ab f.2.2<dB f far:=d1
 by_cases hC:2*ab f.2.2≤far
 ·exact Zq hC d1 d2
 ·
  have hd:dB f far=2*ab f.2.2-f.2.1:=by
   have e1:f.2.1+dB f far=2*(f.2.2*kB f far):=by rw[←hk];grind
   have hx:ab (f.2.2*kB f far)=ab f.2.2*ab (kB f far):=(Rb _ _).symm
   have hpos:0<f.2.2*kB f far:=by omega
   have hx2:f.2.2*kB f far=ab f.2.2*ab (kB f far):=by rw[←hx,ab,if_neg (by omega)]
   have hk0:0<ab (kB f far):=by
    rcases Int.lt_or_le 0 (ab (kB f far))with z|z
    ·exact z
    ·have:ab (kB f far)=0:=by have:=Ci (kB f far);omega
     rw[this]at hx2
     omega
   have hk1:ab (kB f far)=1:=by
    rcases Int.lt_or_le (ab (kB f far)) 2 with z|z
    ·omega
    ·exfalso
     have:=Int.mul_le_mul_of_nonneg_left z (Ci f.2.2)
     omega
   rw[hk1]at hx2
   omega
  refine⟨⟨?_,d2⟩,?_,?_⟩
  ·show 0<dB f far;omega
  ·show far-dB f far<2*ab f.2.2;omega
  ·show 2*ab f.2.2≤far+dB f far;omega
theorem V1{f:I3}{far:Int}(S:Sad f)(r:Sq (meas f) far)(L:Level f far):B3 7 f:=by
 have ⟨c1,c2⟩:=JF r S.no L
 have h6:=PX r S.most
 obtain⟨⟨l1,l2⟩,l3,l4⟩:=L
 have l4:2*ab f.1≤far+f.2.1:=l4
 exact⟨Tz (k:=63) (by omega) (by decide),Bt.of (by omega) (by omega),Tz (k:=63) (by omega) (by decide)⟩
abbrev bl(x:Int):Nat:=Builtin.Int.intBits x
theorem Z0{x:Int}:Bt (bl x) x:=intBits_le_iff.mp (Nat.le_refl _)
theorem AaA{n:Nat}{x:Int}(h:Bt n x):bl x≤n:=intBits_le_iff.mpr h
theorem Yl{x:Int}(h:x≠0):1≤bl x:=by
 rcases Nat.lt_or_ge 0 (bl x)with z|z
 ·exact z
 ·have:=Z0 (x:=x)
  unfold Bt at this
  rw[show bl x=0 by omega]at this
  omega
theorem Ach{x:Int}(h:x≠0):2 ^ (bl x-1)≤x.natAbs:=by
 rcases Nat.lt_or_ge x.natAbs (2 ^ (bl x-1))with z|z
 ·have:=AaA (n:=bl x-1) z
  have:=Yl h
  omega
 ·exact z
theorem Abm{x y:Int}(h:4*ab x≤ab y)(hy:y≠0):bl x+2≤bl y∨x=0:=by
 by_cases hx:x=0
 ·exact .inr hx
 ·refine .inl ?_
  have h1:=Ach hx
  have h2:=Z0 (x:=y)
  unfold Bt at h2
  have p:=Yl hx
  rcases Nat.lt_or_ge (bl y) (bl x+2)with z|z
  ·exfalso
   have h3:2 ^ bl y≤2 ^ (bl x-1+2):=Nat.pow_le_pow_right (by decide) (by omega)
   rw[Nat.pow_add]at h3
   have h4:4*x.natAbs≤y.natAbs:=by
    rcases Bk x with⟨_,e⟩|⟨_,e⟩<;>rcases Bk y with⟨_,e'⟩|⟨_,e'⟩<;>omega
   omega
  ·exact z
theorem Wd{b c d k:Int}{x:Nat}(hc:c≠0)(hb:Bt x b)(hx:bl c≤x)(hd:ab d≤ab c)(hk:2*c*k=b+d):Bt (x+1-bl c) k:=by
 have h1:=Ach hc
 have h2:=Z0 (x:=c)
 have hp:=Yl hc
 unfold Bt at *
 have e1:2*(c.natAbs*k.natAbs)=(b+d).natAbs:=by
  rw[←hk,Int.mul_assoc,Int.natAbs_mul,Int.natAbs_mul];rfl
 have e2:(b+d).natAbs<2 ^ x+2 ^ bl c:=by
  rcases Bk d with⟨_,e⟩|⟨_,e⟩<;>rcases Bk c with⟨_,e'⟩|⟨_,e'⟩<;>omega
 have e3:2 ^ bl c≤2 ^ x:=Nat.pow_le_pow_right (by decide) hx
 rcases Nat.lt_or_ge k.natAbs (2 ^ (x+1-bl c))with z|z
 ·exact z
 ·exfalso
  have:=Nat.mul_le_mul h1 z
  rw[←Nat.pow_add,show bl c-1+(x+1-bl c)=x by omega]at this
  omega
theorem QX{f:I3}{top:Int}{m:Nat}(h:Bt m (kB f top))(hm:1≤m):B4 m (Dc f top):=⟨Bt.zero.le (by omega),(Bt.one.le hm).neg,Bt.one.le hm,h⟩
def R8(n:Nat)(far:Int)(f0:I3)(t:I4):Prop :=
 det t=1∧B3 n (mov f0 t) ∧
 (if far<ab (mov f0 t).2.2 then ∃β x,B4 β t∧Bt x (mov f0 t).2.1∧bl (mov f0 t).2.2≤x∧β+x+bl (mov f0 t).2.2≤2*n+1
  else if Level (mov f0 t) far then B4 (5*n+30) t else if far<2*ab (mov f0 t).2.2 then B4 (3*n+10) t else B4 (4*n+20) t)
def eM(far:Int)(f:I3):Nat:=if far<ab f.2.2 then(ab f.2.2).toNat+3 else if Level f far then 0 else if far<2*ab f.2.2 then 2 else 1
theorem R8.b4{n:Nat}{far:Int}{f0:I3}{t:I4}(h:R8 n far f0 t):B4 (5*n+30) t:=by
 obtain⟨_,_,h⟩:=h
 split at h
 ·obtain⟨β,x,hb,_,_,_⟩:=h
  exact hb.le (by omega)
 ·split at h
  ·exact h
  ·split at h
   ·exact h.le (by omega)
   ·exact h.le (by omega)
theorem R8.start{n:Nat}{far:Int}{f:I3}(hn:1≤n)(hf:B3 n f):R8 n far f (1,0,0,1):=by
 have one:B4 1 (1,0,0,1):=⟨Bt.one,Bt.zero.le (by omega),Bt.zero.le (by omega),Bt.one⟩
 unfold R8
 rw[Dy]
 refine⟨rfl,hf,?_⟩
 split
 ·exact⟨1,n,one,hf.2.1,AaA hf.2.2,by have:=AaA hf.2.2;omega⟩
 ·split
  ·exact one.le (by omega)
  ·split
   ·exact one.le (by omega)
   ·exact one.le (by omega)
theorem AaW{n:Nat}{far:Int}{f0:I3}{t:I4}(hn:12≤n)(S:Sad f0)(r:Sq (meas f0) far)(I:R8 n far f0 t)(nl:¬Level (mov f0 t) far) :
  R8 n far f0 (Aq t (Dc (mov f0 t) (if far>ab (mov f0 t).2.2 then far else ab (mov f0 t).2.2))) ∧
  eM far (mov f0 (Aq t (Dc (mov f0 t) (if far>ab (mov f0 t).2.2 then far else ab (mov f0 t).2.2))))<eM far (mov f0 t) ∧
  B4 (n+3) (Dc (mov f0 t) (if far>ab (mov f0 t).2.2 then far else ab (mov f0 t).2.2)):=by
 have hb4:=I.b4
 obtain⟨hd,hb,hI⟩:=I
 have Sf:=S.mov hd
 have hm:=Ca (f:=f0) hd
 have rf:Sq (meas (mov f0 t)) far:=by rw[hm];exact r
 have f63:=PX rf Sf.most
 have agD:=r.1
 simp only[R8,←BK]
 rw[Dl,hd,Dj]
 generalize hf:mov f0 t=f at *
 have hc:=Jp Sf
 have c1:1≤ab f.2.2:=by rcases Bk f.2.2 with⟨_,e1⟩|⟨_,e1⟩<;>omega
 by_cases h1:far<ab f.2.2
 ·
  rw[if_pos h1]at hI
  obtain⟨β,x,hβ,hx,hlx,hsum⟩:=hI
  rw[if_neg (show ¬far>ab f.2.2 by omega)]
  have ⟨d1,d2⟩:=Mu (top:=ab f.2.2) hc
  have hk:=Jf (top:=ab f.2.2) hc
  obtain⟨e,he⟩:=Py (top:=ab f.2.2) hc
  have hme:meas (f.2.2,dB f (ab f.2.2),e)=meas f:=by rw[←he,Ca Dj]
  have hdc:ab (dB f (ab f.2.2))≤ab f.2.2:=by rcases Bk (dB f (ab f.2.2))with⟨_,e1⟩|⟨_,e1⟩<;>omega
  have h4:=AgE rf Sf.pos hme h1 (by omega) d2
  have kbt:=Wd hc hx hlx hdc hk
  have k1:1≤x+1-bl f.2.2:=by omega
  have acW:=QX kbt k1
  have hxn:bl f.2.2≤n:=AaA hb.2.2
  have hS':=Sf.mov (t:=Dc f (ab f.2.2)) Dj
  rw[he]at hS'
  have he0:e≠0:=Jp hS'
  have agy:=(Abm h4 hc).resolve_right he0
  have hβ':=B4.then hβ acW
  rw[he]
  refine⟨⟨rfl,⟨hb.2.2,Aac hb.2.2 hdc,Aac hb.2.2 (show ab e≤ab f.2.2 by have:=Ci e;omega)⟩,?_⟩,?_,?_⟩
  ·show if far<ab e then _ else _
   split
   ·refine⟨_,bl f.2.2,hβ',?_,?_,?_⟩
    ·exact Aac Z0 hdc
    ·show bl e≤bl f.2.2;omega
    ·show _+bl f.2.2+bl e≤_;omega
   ·split
    ·exact hβ'.le (by omega)
    ·split
     ·exact hβ'.le (by omega)
     ·exact hβ'.le (by omega)
  ·unfold eM
   rw[if_pos h1]
   show(if far<ab e then(ab e).toNat+3 else _)<_
   split
   ·have:=Ci e;omega
   ·split
    ·omega
    ·split<;>omega
  ·
   have:Bt (n+1-bl f.2.2) (kB f (ab f.2.2)):=Wd hc hb.2.1 hxn hdc hk
   exact(QX this (by omega)).le (by omega)
 ·rw[if_neg h1,if_neg nl]at hI
  have etop:(if far>ab f.2.2 then far else ab f.2.2)=far:=by split<;>omega
  rw[etop]
  have ⟨d1,d2⟩:=Mu (top:=far) hc
  have hk:=Jf (top:=far) hc
  obtain⟨e,he⟩:=Py (top:=far) hc
  have hme:meas (f.2.2,dB f far,e)=meas f:=by rw[←he,Ca Dj]
  have hdf:ab (dB f far)≤far:=by rcases Bk (dB f far)with⟨_,e1⟩|⟨_,e1⟩<;>omega
  have hel:=Xu rf Sf.most Sf.pos hme hc hdf
  have kb:Bt (n+2) (kB f far):=by
   have e1:2*(ab f.2.2*ab (kB f far))=ab (f.2.1+dB f far):=by
    rw[←hk,Rb]
    have:2*f.2.2*kB f far=2*(f.2.2*kB f far):=by grind
    rw[this]
    rcases Bk (f.2.2*kB f far)with⟨h1,e1⟩|⟨h1,e1⟩
    ·rw[e1,ab,if_neg (by omega)]
    ·rw[e1,ab,if_pos (by omega)];omega
   have e2:=Int.mul_le_mul_of_nonneg_right c1 (Ci (kB f far))
   have e3:Bt (n+1) (f.2.1+dB f far):=by
    have:=(hb.2.1).add (show Bt 7 (dB f far)from Tz (k:=63) (by omega) (by decide))
    exact this.le (by omega)
   refine Bt.le (n:=n+1) (Aac e3 ?_) (by omega)
   have:=Ci (kB f far)
   omega
  have acW:=QX kb (by omega)
  rw[he]
  have hB:B3 n (f.2.2,dB f far,e):=⟨hb.2.2,Bt.le (n:=7) (Tz (k:=63) (show ab (dB f far)≤63 by omega) (by decide)) (by omega),Bt.le (n:=12) (Tz (x:=e) hel (by decide)) (by omega)⟩
  by_cases h2:far<2*ab f.2.2
  ·rw[if_pos h2]at hI
   have hβ':=B4.then hI acW
   have hh:=AcT rf Sf.no hme (by omega) h2 (by omega) d2
   have h3:¬far<ab e:=by have:=Ci e;omega
   refine⟨⟨rfl,hB,?_⟩,?_,acW.le (by omega)⟩
   ·show if far<ab e then _ else _
    rw[if_neg h3]
    split
    ·exact hβ'.le (by omega)
    ·rw[if_neg (show ¬far<2*ab (f.2.2,dB f far,e).2.2 by show ¬far<2*ab e;omega)]
     exact hβ'.le (by omega)
   ·unfold eM
    rw[if_neg h1,if_neg nl,if_pos h2]
    show(if far<ab e then _ else _)<2
    rw[if_neg h3]
    split
    ·omega
    ·rw[if_neg (show ¬far<2*ab (f.2.2,dB f far,e).2.2 by show ¬far<2*ab e;omega)]
     omega
  ·rw[if_neg h2]at hI
   have hβ':=B4.then hI acW
   have hL:Level (f.2.2,dB f far,e) far:=Zq (by omega) d1 d2
   have h3:¬far<ab e:=by
    have:=(JF (f:=(f.2.2,dB f far,e)) (by rw[hme];exact rf) (by rw[hme];exact Sf.no) hL).2
    simp only at this
    omega
   refine⟨⟨rfl,hB,?_⟩,?_,acW.le (by omega)⟩
   ·show if far<ab e then _ else _
    rw[if_neg h3,if_pos hL]
    exact hβ'.le (by omega)
   ·unfold eM
    rw[if_neg h1,if_neg nl,if_neg h2]
    show(if far<ab e then _ else _)<1
    rw[if_neg h3,if_pos hL]
    omega
def Riv(f:I3):Prop:=(0<f.1∧f.2.2<0)∧¬Gv (meas f)
abbrev tR:I4:=(1,1,0,1)
abbrev tL:I4:=(1,0,1,1)
def sm(f:I3):Int:=f.1+f.2.1+f.2.2
theorem AbK{a b c:Int}:mov (a,b,c) tR=(a,b+2*a,a+b+c):=by
 simp only[mov,val,mid,Prod.mk.injEq]
 refine⟨?_,?_,?_⟩<;>grind
theorem AcS{a b c:Int}:mov (a,b,c) tL=(a+b+c,b+2*c,c):=by
 simp only[mov,val,mid,Prod.mk.injEq]
 refine⟨?_,?_,?_⟩<;>grind
theorem Ahn{f:I3}(n:¬Gv (meas f)):sm f≠0:=fun h=>n ⟨f.1-f.2.2,by
 obtain⟨a,b,c⟩:=f
 simp only[sm,meas]at *
 have:b=-(a+c):=by omega
 subst this
 grind⟩
def stT(f:I3):I4:=if sm f<0 then tR else tL
def nx(f:I3):I3:=mov f (stT f)
theorem AiQ{f:I3}:det (stT f)=1:=by unfold stT;split<;>rfl
theorem Riv.next{f:I3}(h:Riv f):Riv (nx f):=by
 have hm:=Ca (f:=f) (AiQ (f:=f))
 refine⟨?_,by unfold nx;rw[hm];exact h.2⟩
 have hs:=Ahn h.2
 obtain⟨a,b,c⟩:=f
 obtain⟨⟨h1,h2⟩,_⟩:=h
 by_cases h:sm (a,b,c)<0
 ·have e:nx (a,b,c)=(a,b+2*a,a+b+c):=by unfold nx;rw[show stT (a,b,c)=tR from if_pos h];exact AbK
  rw[e];exact⟨h1,h⟩
 ·have e:nx (a,b,c)=(a+b+c,b+2*c,c):=by unfold nx;rw[show stT (a,b,c)=tL from if_neg h];exact AcS
  rw[e]
  refine⟨?_,h2⟩
  simp only[sm]at h hs ⊢
  omega
structure NN(t:I4):Prop where
 p:1≤t.1
 q:0≤t.2.1
 r:0≤t.2.2.1
 s:1≤t.2.2.2
 d:det t=1
def sz(t:I4):Nat:=(t.1+t.2.1+t.2.2.1+t.2.2.2).toNat
theorem NN.split{t:I4}(h:NN t):t=(1,0,0,1)∨(∃u,NN u∧t=Aq tR u∧sz u<sz t)∨(∃u,NN u∧t=Aq tL u∧sz u<sz t):=by
 obtain⟨p,q,r,s⟩:=t
 obtain⟨hp,hq,hr,hs,hd⟩:=h
 simp only[det]at *
 by_cases c1:r≤p∧s≤q
 ·refine .inr (.inl ⟨(p-r,q-s,r,s),⟨?_,by simp only;omega,hr,hs,?_⟩,?_,?_⟩)
  ·show 1≤p-r
   have e:(p-r)*s-(q-s)*r=1:=by grind
   have z:=Int.mul_nonneg (show 0≤q-s by omega) hr
   rcases Int.lt_or_le (p-r) 1 with w|w
   ·have:(p-r)*s≤0*s:=Int.mul_le_mul_of_nonneg_right (by omega) (by omega)
    omega
   ·exact w
  ·show(p-r)*s-(q-s)*r=1
   grind
  ·simp only[Aq,Prod.mk.injEq]
   refine⟨?_,?_,?_,?_⟩<;>omega
  ·simp only[sz];omega
 ·by_cases c2:p≤r∧q≤s
  ·refine .inr (.inr ⟨(p,q,r-p,s-q),⟨hp,hq,by simp only;omega,?_,?_⟩,?_,?_⟩)
   ·show 1≤s-q
    have e:p*(s-q)-q*(r-p)=1:=by grind
    have z:=Int.mul_nonneg hq (show 0≤r-p by omega)
    rcases Int.lt_or_le (s-q) 1 with w|w
    ·have:p*(s-q)≤p*0:=Int.mul_le_mul_of_nonneg_left (by omega) (by omega)
     omega
    ·exact w
   ·show p*(s-q)-q*(r-p)=1
    grind
   ·simp only[Aq,Prod.mk.injEq]
    refine⟨?_,?_,?_,?_⟩<;>omega
   ·simp only[sz];omega
  ·rcases Int.lt_or_le r p with w|w
   ·
    have w2:q<s:=by omega
    have z:=Int.mul_le_mul (show r+1≤p by omega) (show q+1≤s by omega) (by omega) (by omega)
    have e:(r+1)*(q+1)=r*q+r+q+1:=by grind
    have e2:r*q=q*r:=Int.mul_comm r q
    have r0:r=0:=by omega
    have q0:q=0:=by omega
    subst r0 q0
    left
    have hps:p*s=1:=by omega
    have p1:p=1:=by
     rcases Int.lt_or_le p 2 with v|v
     ·omega
     ·have:=Int.mul_le_mul v hs (by decide) (by omega)
      omega
    subst p1
    have:s=1:=by omega
    rw[this]
   ·
    have w2:s<q:=by omega
    have w3:p<r:=by
     rcases Int.lt_or_le p r with v|v
     ·exact v
     ·have:p=r:=by omega
      subst this
      exfalso
      have e:p*s-q*p=p*(s-q):=by grind
      have:=Int.mul_le_mul_of_nonneg_left (show s-q≤-1 by omega) (show 0≤p by omega)
      omega
    exfalso
    have z:=Int.mul_le_mul (show p≤r-1 by omega) (show s≤q-1 by omega) (by omega) (by omega)
    have e:(r-1)*(q-1)=q*r-r-q+1:=by grind
    omega
def wd:Nat→I3→I4
 |0,_=>(1,0,0,1)
 |n+1,f=>Aq (stT f) (wd n (nx f))
def nxs:Nat→I3→I3
 |0,f=>f
 |n+1,f=>nxs n (nx f)
theorem Ju{t:I4}:Aq (1,0,0,1) t=t:=by
 obtain⟨p,q,r,s⟩:=t
 simp only[Aq,Prod.mk.injEq]
 refine⟨?_,?_,?_,?_⟩<;>omega
theorem HJ{t:I4}:Aq t (1,0,0,1)=t:=by
 obtain⟨p,q,r,s⟩:=t
 simp only[Aq,Prod.mk.injEq]
 refine⟨?_,?_,?_,?_⟩<;>omega
theorem then_assoc{t u v:I4}:Aq (Aq t u) v=Aq t (Aq u v):=by
 obtain⟨a,b,c,d⟩:=t;obtain⟨e,f,g,h⟩:=u;obtain⟨i,j,k,l⟩:=v
 simp only[Aq,Prod.mk.injEq]
 refine⟨?_,?_,?_,?_⟩<;>grind
theorem LR:∀(n:Nat)(f:I3),mov f (wd n f)=nxs n f
 |0,f=>Dy
 |n+1,f=>by rw[wd,←BK];exact LR n (nx f)
theorem Zh{a b c x y:Int}(ha:0<a)(hb:0<b)(hc:0<c)(hx:0≤x)(hy:0≤y):0≤val (a,b,c) (x,y):=by
 have e:val (a,b,c) (x,y)=a*(x*x)+b*(x*y)+c*(y*y):=by simp only[val];grind
 have h1:=Int.mul_nonneg (show 0≤a by omega) (Int.mul_nonneg hx hx)
 have h2:=Int.mul_nonneg (show 0≤b by omega) (Int.mul_nonneg hx hy)
 have h3:=Int.mul_nonneg (show 0≤c by omega) (Int.mul_nonneg hy hy)
 omega
theorem neg_val{a b c x y:Int}(ha:a<0)(hb:b<0)(hc:c<0)(hx:0≤x)(hy:0≤y):val (a,b,c) (x,y)≤0:=by
 have:=Zh (a:=-a) (b:=-b) (c:=-c) (by omega) (by omega) (by omega) hx hy
 have e:val (-a,-b,-c) (x,y)=-val (a,b,c) (x,y):=by simp only[val];grind
 omega
theorem along:∀(m:Nat)(f:I3)(t:I4),sz t≤m→Riv f→NN t→Riv (mov f t)→∃n,t=wd n f:=by
 intro m
 induction m with
 | zero =>
  intro f t hs _ hN _
  exfalso
  have:=hN.p;have:=hN.q;have:=hN.r;have:=hN.s
  unfold sz at hs
  omega
 | succ m ih =>
  intro f t hs hf hN hg
  rcases hN.split with e|⟨u,hu,e,hl⟩|⟨u,hu,e,hl⟩
  ·exact⟨0,e⟩
  ·have hsm:sm f<0:=by
    have hne:=Ahn hf.2
    rcases Int.lt_or_le (sm f) 0 with z|z
    ·exact z
    ·exfalso
     rw[e,←BK]at hg
     obtain⟨a,b,c⟩:=f
     obtain⟨p,q,r,s⟩:=u
     rw[AbK]at hg
     have h1:(mov (a,b+2*a,a+b+c) (p,q,r,s)).2.2<0:=hg.1.2
     have h2:0<a:=hf.1.1
     have h3:c<0:=hf.1.2
     simp only[sm]at hne z
     have h4:0≤val (a,b+2*a,a+b+c) (q,s):=Zh h2 (by omega) (by omega) hu.q (by have:=hu.s;simp only at this;omega)
     have h5:(mov (a,b+2*a,a+b+c) (p,q,r,s)).2.2=val (a,b+2*a,a+b+c) (q,s):=rfl
     omega
   have hst:stT f=tR:=by unfold stT;rw[if_pos hsm]
   have hnx:nx f=mov f tR:=by unfold nx;rw[hst]
   have hr:=hf.next
   obtain⟨n,en⟩:=ih (nx f) u (by omega) hr hu (by rw[hnx,BK,←e];exact hg)
   exact⟨n+1,by rw[wd,hst,←en];exact e⟩
  ·have hsm:¬sm f<0:=by
    intro z
    rw[e,←BK]at hg
    obtain⟨a,b,c⟩:=f
    obtain⟨p,q,r,s⟩:=u
    rw[AcS]at hg
    have h1:0<(mov (a+b+c,b+2*c,c) (p,q,r,s)).1:=hg.1.1
    have h2:0<a:=hf.1.1
    have h3:c<0:=hf.1.2
    simp only[sm]at z
    have h4:val (a+b+c,b+2*c,c) (p,r)≤0:=neg_val (by omega) (by omega) h3 (by have:=hu.p;simp only at this;omega) hu.r
    have h5:(mov (a+b+c,b+2*c,c) (p,q,r,s)).1=val (a+b+c,b+2*c,c) (p,r):=rfl
    omega
   have hst:stT f=tL:=by unfold stT;rw[if_neg hsm]
   have hnx:nx f=mov f tL:=by unfold nx;rw[hst]
   have hr:=hf.next
   obtain⟨n,en⟩:=ih (nx f) u (by omega) hr hu (by rw[hnx,BK,←e];exact hg)
   exact⟨n+1,by rw[wd,hst,←en];exact e⟩
def Ik(t:I4):I4:=(-t.1,-t.2.1,-t.2.2.1,-t.2.2.2)
theorem Px{f:I3}{t:I4}:mov f (Ik t)=mov f t:=by
 obtain⟨a,b,c⟩:=f;obtain⟨p,q,r,s⟩:=t
 simp only[mov,val,mid,Ik,Prod.mk.injEq]
 refine⟨?_,?_,?_⟩<;>grind
theorem neg_neg{t:I4}:Ik (Ik t)=t:=by
 obtain⟨p,q,r,s⟩:=t
 simp only[Ik,Prod.mk.injEq]
 refine⟨?_,?_,?_,?_⟩<;>omega
theorem AeJ{t:I4}:det (Ik t)=det t:=by
 obtain⟨p,q,r,s⟩:=t
 simp only[det,Ik];grind
theorem Vj{t:I4}:Ax (Ik t)=Ik (Ax t):=by
 obtain⟨p,q,r,s⟩:=t
 simp only[Ax,Ik]
theorem signs{f:I3}{t:I4}(hf:Riv f)(hd:det t=1)(hg:Riv (mov f t))(hp:0≤t.1):NN t∨NN (Ax t):=by
 obtain⟨a,b,c⟩:=f
 obtain⟨p,q,r,s⟩:=t
 have ha:0<a:=hf.1.1
 have hc:c<0:=hf.1.2
 have hu:0<val (a,b,c) (p,r):=hg.1.1
 have hv:val (a,b,c) (q,s)<0:=hg.1.2
 have hp:0≤p:=hp
 have p0:p≠0:=fun e=>by
  subst e
  rw[YJ]at hu
  have:=Int.mul_nonneg (show 0≤-c by omega) (sq_nonneg r)
  have e:-c*(r*r)=-(c*(r*r)):=by grind
  omega
 have s0:s≠0:=fun e=>by
  subst e
  rw[Le]at hv
  have:=Int.mul_nonneg (show 0≤a by omega) (sq_nonneg q)
  omega
 have hd':p*s-q*r=1:=hd
 have key:val (a,b,c) (p,r)*(q*s)-val (a,b,c) (q,s)*(p*r)=(p*s-q*r)*(a*(p*q)-c*(r*s)):=by simp only[val];grind
 have hs:0<s:=by
  rcases Int.lt_or_le 0 s with z|z
  ·exact z
  ·exfalso
   have z:s≤-1:=by omega
   have h1:p*s≤1 * -1:=by
    have:=Int.mul_le_mul_of_nonneg_left z (show 0≤p by omega)
    omega
   have hqr:q*r≤-2:=by omega
   rw[hd',Int.one_mul]at key
   rcases Int.lt_or_le q 0 with hq|hq
   ·have hr:0<r:=by
     rcases Int.lt_or_le 0 r with w|w
     ·exact w
     ·have:=Int.mul_nonneg_of_nonpos_of_nonpos (show q≤0 by omega) w
      omega
    have k1:=Int.mul_pos hu (Int.mul_pos_of_neg_of_neg hq (show s<0 by omega))
    have k2:=Int.mul_neg_of_neg_of_pos hv (Int.mul_pos (show 0<p by omega) hr)
    have k3:=Int.mul_neg_of_pos_of_neg ha (Int.mul_neg_of_pos_of_neg (show 0<p by omega) hq)
    have k4:=Int.mul_pos_of_neg_of_neg hc (Int.mul_neg_of_pos_of_neg hr (show s<0 by omega))
    omega
   ·have hq':0<q:=by
     rcases Int.lt_or_le 0 q with w|w
     ·exact w
     ·have:q=0:=by omega
      subst this
      omega
    have hr:r<0:=by
     rcases Int.lt_or_le r 0 with w|w
     ·exact w
     ·have:=Int.mul_nonneg hq w
      omega
    have k1:=Int.mul_neg_of_pos_of_neg hu (Int.mul_neg_of_pos_of_neg hq' (show s<0 by omega))
    have k2:=Int.mul_pos_of_neg_of_neg hv (Int.mul_neg_of_pos_of_neg (show 0<p by omega) hr)
    have k3:=Int.mul_pos ha (Int.mul_pos (show 0<p by omega) hq')
    have k4:=Int.mul_neg_of_neg_of_pos hc (Int.mul_pos_of_neg_of_neg hr (show s<0 by omega))
    omega
 have hps:=Int.mul_le_mul (show 1≤p by omega) (show 1≤s by omega) (by decide) (by omega)
 by_cases hq:0≤q∧0≤r
 ·exact .inl ⟨by simp only;omega,hq.1,hq.2,by simp only;omega,hd⟩
 ·right
  have hqr:q≤0∧r≤0:=by
   rcases Int.lt_trichotomy q 0 with w|w|w
   ·refine⟨by omega,?_⟩
    rcases Int.lt_or_le 0 r with v|v
    ·have:=Int.mul_neg_of_neg_of_pos w v;omega
    ·exact v
   ·omega
   ·exfalso
    have:r<0:=by omega
    have:=Int.mul_neg_of_pos_of_neg w this
    omega
  exact⟨by simp only[Ax];omega,by simp only[Ax];omega,by simp only[Ax];omega,by simp only[Ax];omega,Ez.trans hd⟩
theorem AlU{f:I3}{t:I4}(hf:Riv f)(hd:det t=1)(hg:Riv (mov f t)) :
  (∃n,t=wd n f∨t=Ik (wd n f))∨(∃n,Ax t=wd n (mov f t)∨Ax t=Ik (wd n (mov f t))):=by
 have core:∀t:I4,det t=1→Riv (mov f t)→0≤t.1→(∃n,t=wd n f)∨(∃n,Ax t=wd n (mov f t)):=fun t hd hg hp=>by
  rcases signs hf hd hg hp with h|h
  ·exact .inl (along _ f t (Nat.le_refl _) hf h hg)
  ·exact .inr (along _ (mov f t) (Ax t) (Nat.le_refl _) hg h (by rw[Cm hd];exact hf))
 rcases Int.le_total 0 t.1 with hp|hp
 ·rcases core t hd hg hp with⟨n,h⟩|⟨n,h⟩
  ·exact .inl ⟨n,.inl h⟩
  ·exact .inr ⟨n,.inl h⟩
 ·rcases core (Ik t) (AeJ.trans hd) (by rw[Px];exact hg) (by show 0≤-t.1;omega)with⟨n,h⟩|⟨n,h⟩
  ·exact .inl ⟨n,.inr (by rw[←h,neg_neg])⟩
  ·rw[Px,Vj]at h
   exact .inr ⟨n,.inr (by rw[←h,neg_neg])⟩
structure Lv(far:Int)(f:I3):Prop where
 S:Sad f
 r:Sq (meas f) far
 L:Level f far
abbrev aft(far:Int)(f:I3):I3:=mov f (Dc f far)
theorem Lv.next{far:Int}{f:I3}(h:Lv far f):Lv far (aft far f) :=
 ⟨h.S.mov Dj,by rw[Ca Dj];exact h.r,Xp h.S h.r h.L⟩
theorem Lv.ac{far:Int}{f:I3}(h:Lv far f):f.1*f.2.2<0:=by
 have hf:=W4 h.r h.S.no
 obtain⟨⟨l1,l2⟩,_,_⟩:=h.L
 obtain⟨a,b,c⟩:=f
 have l1:0<b:=l1
 have l2:b≤far:=l2
 have hb:b*b≤far*far:=Int.mul_le_mul l2 l2 (by omega) (by omega)
 have e:meas (a,b,c)=b*b-4*(a*c):=by simp only[meas];grind
 show a*c<0
 omega
theorem Lv.neg{far:Int}{f:I3}(h:Lv far f)(ha:0<f.1):f.2.2<0:=by
 rcases Int.lt_or_le f.2.2 0 with z|z
 ·exact z
 ·have:=h.ac
  have:=Int.mul_nonneg (show 0≤f.1 by omega) z
  omega
theorem Lv.pos{far:Int}{f:I3}(h:Lv far f)(ha:f.1<0):0<f.2.2:=by
 rcases Int.lt_or_le 0 f.2.2 with z|z
 ·exact z
 ·have:=h.ac
  have:=Int.mul_nonneg_of_nonpos_of_nonpos (show f.1≤0 by omega) z
  omega
theorem Hv{far:Int}{f:I3}(h:Lv far f):(aft far f).1=f.2.2∧(aft far f).2.1=dB f far∧(aft far f).2.2=f.1-f.2.1*kB f far+f.2.2*(kB f far*kB f far):=by
 obtain⟨e,he⟩:=Py (top:=far) (Jp h.S)
 refine⟨by show(mov f (Dc f far)).1=_;rw[he],by show(mov f (Dc f far)).2.1=_;rw[he],?_⟩
 show val f (-1,kB f far)=_
 simp only[val];grind
theorem Lv.riv{far:Int}{f:I3}(h:Lv far f)(ha:0<f.1):Riv f:=⟨⟨ha,h.neg ha⟩,h.S.no⟩
theorem Aap{far:Int}{f g:I3}(hf:Lv far f)(hg:Lv far g)(hm:meas f=meas g)(h:aft far f=aft far g):f=g:=by
 have ⟨f1,f2,_⟩:=Hv hf
 have ⟨g1,g2,_⟩:=Hv hg
 have hc:f.2.2=g.2.2:=by rw[←f1,h,g1]
 have hd:dB f far=dB g far:=by rw[←f2,h,g2]
 have kf:=Jf (top:=far) (Jp hf.S)
 have kg:=Jf (top:=far) (Jp hg.S)
 have cf:=(JF hf.r hf.S.no hf.L).1
 have cg:=(JF hg.r hg.S.no hg.L).1
 have lf:=hf.L.1.2
 have lg:=hg.L.1.2
 have c0:=Jp hf.S
 obtain⟨a,b,c⟩:=f
 obtain⟨a',b',c'⟩:=g
 simp only at hc hd kf kg cf cg lf lg c0
 subst hc
 rw[←hd]at kg
 have hb:b=b':=by
  have e:b-b'=2*(c*(kB (a,b,c) far-kB (a',b',c) far)):=by
   have:2*(c*(kB (a,b,c) far-kB (a',b',c) far))=2*c*kB (a,b,c) far-2*c*kB (a',b',c) far:=by grind
   omega
  generalize kB (a,b,c) far-kB (a',b',c) far=k at *
  have hx:ab (c*k)=ab c*ab k:=(Rb c k).symm
  have hk:ab k=0:=by
   rcases Int.lt_or_le (ab k) 1 with z|z
   ·have:=Ci k;omega
   ·exfalso
    have:=Int.mul_le_mul_of_nonneg_left z (Ci c)
    rcases Bk (c*k)with⟨_,e1⟩|⟨_,e1⟩<;>omega
  rw[hk]at hx
  have:c*k=0:=by rcases Bk (c*k)with⟨_,e1⟩|⟨_,e1⟩<;>omega
  omega
 subst hb
 have e1:4*c*a=4*c*a':=by
  simp only[meas]at hm
  have x1:4*a*c=4*c*a:=by grind
  have x2:4*a'*c=4*c*a':=by grind
  omega
 have:a=a':=Int.eq_of_mul_eq_mul_left (show 4*c≠0 by omega) e1
 rw[this]
theorem AlL:∀(k:Nat)(a b c:Int),(∀j:Nat,1≤j→j≤k→0<a+b*j+c*(j*j))→wd k (a,b,c)=(1,0,(k:Int),1)
 |0,_,_,_,_=>rfl
 | k+1,a,b,c,h=>by
  have h1:=h 1 (by omega) (by omega)
  have hs:¬sm (a,b,c)<0:=by simp only[sm];simp at h1;omega
  have e:nx (a,b,c)=(a+b+c,b+2*c,c):=by unfold nx;rw[show stT (a,b,c)=tL from if_neg hs];exact AcS
  rw[wd,e,show stT (a,b,c)=tL from if_neg hs,AlL k _ _ _ fun j j1 jk=>?_]
  ·simp only[Aq,Prod.mk.injEq]
   refine⟨by omega,by omega,by push_cast;omega,by omega⟩
  ·have:=h (j+1) (by omega) (by omega)
   have e2:a+b+c+(b+2*c)*(j:Int)+c*((j:Int)*j)=a+b*((j+1:Nat):Int)+c*(((j+1:Nat):Int)*((j+1:Nat):Int)):=by push_cast;grind
   rw[e2];exact this
theorem Amk:∀(k:Nat)(a b c:Int),(∀j:Nat,1≤j→j≤k→a*(j*j)+b*j+c<0)→wd k (a,b,c)=(1,(k:Int),0,1)
 |0,_,_,_,_=>rfl
 | k+1,a,b,c,h=>by
  have h1:=h 1 (by omega) (by omega)
  have hs:sm (a,b,c)<0:=by simp only[sm];simp at h1;omega
  have e:nx (a,b,c)=(a,b+2*a,a+b+c):=by unfold nx;rw[show stT (a,b,c)=tR from if_pos hs];exact AbK
  rw[wd,e,show stT (a,b,c)=tR from if_pos hs,Amk k _ _ _ fun j j1 jk=>?_]
  ·simp only[Aq,Prod.mk.injEq]
   refine⟨by omega,by push_cast;omega,by omega,by omega⟩
  ·have:=h (j+1) (by omega) (by omega)
   have e2:a*((j:Int)*j)+(b+2*a)*(j:Int)+(a+b+c)=a*(((j+1:Nat):Int)*((j+1:Nat):Int))+b*((j+1:Nat):Int)+c:=by push_cast;grind
   rw[e2];exact this
theorem Yi:∀(m n:Nat)(f:I3),wd (m+n) f=Aq (wd m f) (wd n (nxs m f))
 |0,n,f=>by rw[Nat.zero_add];exact Ju.symm
 | m+1,n,f=>by
  rw[show m+1+n=(m+n)+1 by omega,wd,Yi m n (nx f),wd,then_assoc];rfl
theorem Uc:∀(m n:Nat)(f:I3),nxs (m+n) f=nxs n (nxs m f)
 |0,n,f=>by rw[Nat.zero_add];rfl
 |m+1,n,f=>by rw[show m+1+n=(m+n)+1 by omega];exact Uc m n (nx f)
theorem AkX{a b c k j:Int}(hc:c≤0)(h0:0<a)(hk:0<a+b*k+c*(k*k))(j0:0≤j)(jk:j≤k)(k0:0<k):0<a+b*j+c*(j*j):=by
 have e:k*(a+b*j+c*(j*j))=(k-j)*a+j*(a+b*k+c*(k*k))+(-c)*(j*(k-j)*k):=by grind
 have h1:=Int.mul_nonneg (show 0≤k-j by omega) (show 0≤a by omega)
 have h2:=Int.mul_nonneg j0 (show 0≤a+b*k+c*(k*k) by omega)
 have h3:=Int.mul_nonneg (show 0≤-c by omega) (Int.mul_nonneg (Int.mul_nonneg j0 (show 0≤k-j by omega)) (show 0≤k by omega))
 have h4:0<(k-j)*a+j*(a+b*k+c*(k*k)):=by
  by_cases z:j=k
  ·subst z
   have:=Int.mul_pos k0 hk
   omega
  ·have:=Int.mul_pos (show 0<k-j by omega) h0
   omega
 rcases Int.lt_or_le 0 (a+b*j+c*(j*j))with z|z
 ·exact z
 ·have:=Int.mul_le_mul_of_nonneg_left z (show 0≤k by omega)
  omega
theorem Lv.adJ{far:Int}{f:I3}(h:Lv far f):(0<f.1→kB f far<0)∧(f.1<0→0<kB f far):=by
 have hk:=Jf (top:=far) (Jp h.S)
 have hd:0<dB f far:=by
  have:=h.next.L.1.1
  rw[(Hv h).2.1]at this
  exact this
 have hb:=h.L.1.1
 constructor
 ·intro ha
  have hc:=h.neg ha
  rcases Int.lt_or_le (kB f far) 0 with z|z
  ·exact z
  ·have:=Int.mul_nonneg (show 0≤-(2*f.2.2) by omega) z
   have e:-(2*f.2.2)*kB f far=-(2*f.2.2*kB f far):=by grind
   omega
 ·intro ha
  have hc:=h.pos ha
  rcases Int.lt_or_le 0 (kB f far)with z|z
  ·exact z
  ·have:=Int.mul_nonneg (show 0≤2*f.2.2 by omega) (show 0≤-kB f far by omega)
   have e:2*f.2.2 * -kB f far=-(2*f.2.2*kB f far):=by grind
   omega
theorem Abd{far:Int}{f:I3}(h:Lv far f)(ha:0<f.1) :
  ∃N:Nat,2≤N∧nxs N f=aft far (aft far f)∧wd N f=Ik (Aq (Dc f far) (Dc (aft far f) far))∧∀j,0<j→j<N→¬Lv far (nxs j f):=by
 have h':=h.next
 have h'':=h'.next
 have hc:=h.neg ha
 have ⟨g1,g2,g3⟩:=Hv h
 have a':(aft far f).1<0:=by rw[g1];exact hc
 have he:=h'.pos a'
 have ⟨q1,q2,q3⟩:=Hv h'
 have a'':0<(aft far (aft far f)).1:=by rw[q1];exact he
 have aes:=h''.neg a''
 have kn:=h.adJ.1 ha
 have kp:=h'.adJ.2 a'
 have hk1:=Jf (top:=far) (Jp h.S)
 have hk2:=Jf (top:=far) (Jp h'.S)
 have lb:=h.L.1.2
 have ld':=h''.L.1.2
 rw[q2]at ld'
 rw[g2]at hk2
 rw[q3,g1,g2]at aes
 rw[g3]at he
 have afb:Dc f far=(0,-1,1,kB f far):=rfl
 have afc:Dc (aft far f) far=(0,-1,1,kB (aft far f) far):=rfl
 rw[afb,afc]
 have e22:(aft far f).2.2=f.1-f.2.1*kB f far+f.2.2*(kB f far*kB f far):=g3
 generalize hF:aft far (aft far f)=F at *
 generalize hd':dB (aft far f) far=d' at *
 generalize afs:kB (aft far f) far=k2 at *
 have hform:nxs 0 f=f:=rfl
 generalize hg:aft far f=g at *
 generalize hd:dB f far=d at *
 generalize hk1':kB f far=k1 at *
 obtain⟨a,b,c⟩:=f
 have ha:0<a:=ha
 have hc:c<0:=hc
 have lb:b≤far:=lb
 have he:0<a-b*k1+c*(k1*k1):=he
 have hk1:2*c*k1=b+d:=hk1
 have aes:c-d*k2+g.2.2*(k2*k2)<0:=aes
 have e22:g.2.2=a-b*k1+c*(k1*k1):=e22
 rw[e22]at aes hk2
 obtain⟨n1,hn1⟩:∃n:Nat,-k1=n:=⟨(-k1).toNat,by omega⟩
 obtain⟨n2,hn2⟩:∃n:Nat,k2=n:=⟨k2.toNat,by omega⟩
 have aeu:k1=-(n1:Int):=by omega
 have hw1:∀i:Nat,i≤n1→wd i (a,b,c)=(1,0,(i:Int),1):=fun i hi=>AlL i a b c fun j j1 ji=>by
  refine AkX (k:=n1) (by omega) ha ?_ (by omega) (by omega) (by omega)
  have:a+b*(n1:Int)+c*((n1:Int)*n1)=a-b*k1+c*(k1*k1):=by rw[aeu];grind
  omega
 have hF1:nxs n1 (a,b,c)=(a-b*k1+c*(k1*k1),-d,c):=by
  rw[←LR,hw1 n1 (Nat.le_refl _)]
  have e1:-d=b+2*c*n1:=by
   have:2*c*(n1:Int)=-(2*c*k1):=by rw[aeu];grind
   omega
  rw[e1,aeu]
  simp only[mov,val,mid,Prod.mk.injEq]
  refine⟨?_,?_,?_⟩<;>grind
 generalize hee:a-b*k1+c*(k1*k1)=e at *
 have hw2:∀i:Nat,i≤n2→wd i (e,-d,c)=(1,(i:Int),0,1):=fun i hi=>Amk i e (-d) c fun j j1 ji=>by
  have:=AkX (a:=-c) (b:=d) (c:=-e) (k:=n2) (j:=j) (by omega) (by omega) (by
   have:-c+d*(n2:Int) + -e*((n2:Int)*n2)=-(c-d*k2+e*(k2*k2)):=by rw[hn2];grind
   omega) (by omega) (by omega) (by omega)
  have e1:e*((j:Int)*j) + -d*j+c=-(-c+d*(j:Int) + -e*((j:Int)*j)):=by grind
  omega
 have hF2:∀i:Nat,i≤n2→nxs (n1+i) (a,b,c)=(e,-d+2*e*i,e*((i:Int)*i)-d*i+c):=fun i hi=>by
  rw[Uc,hF1,←LR,hw2 i hi]
  simp only[mov,val,mid,Prod.mk.injEq]
  refine⟨?_,?_,?_⟩<;>grind
 have hwd:wd (n1+n2) (a,b,c)=Ik (Aq (0,-1,1,k1) (0,-1,1,k2)):=by
  rw[Yi,hF1,hw1 n1 (Nat.le_refl _),hw2 n2 (Nat.le_refl _),aeu,hn2]
  simp only[Aq,Ik,Prod.mk.injEq]
  refine⟨?_,?_,?_,?_⟩<;>grind
 refine⟨n1+n2,by omega,?_,hwd,?_⟩
 ·rw[←LR,hwd,Px,←BK,←hF,←hg]
  show mov (mov (a,b,c) (0,-1,1,k1)) (0,-1,1,k2)=_
  rw[←hk1',←afs,←hg];rfl
 ·intro j j0 jn hL
  rcases Nat.lt_or_ge n1 j with z|z
  ·obtain⟨i,rfl⟩:∃i,j=n1+i:=⟨j-n1,by omega⟩
   rw[hF2 i (by omega)]at hL
   have l1:=hL.L.2.1
   have l1:far-(-d+2*e*i)<2*ab e:=l1
   rw[show ab e=e from if_neg (by omega)]at l1
   have hi:(i:Int)≤n2-1:=by omega
   have:=Int.mul_le_mul_of_nonneg_left hi (show 0≤2*e by omega)
   have e1:2*e*((n2:Int)-1)=2*e*k2-2*e:=by rw[hn2];grind
   omega
  ·have hj:nxs j (a,b,c)=(a+b*j+c*((j:Int)*j),b+2*c*j,c):=by
    rw[←LR,hw1 j z]
    simp only[mov,val,mid,Prod.mk.injEq]
    refine⟨?_,?_,?_⟩<;>grind
   rw[hj]at hL
   have l1:=(JF hL.r hL.S.no hL.L).1
   have l1:far-(b+2*c*j)<2*ab c:=l1
   rw[show ab c=-c from if_pos hc]at l1
   have:=Int.mul_le_mul_of_nonneg_left (show(1:Int)≤j by omega) (show 0≤-(2*c) by omega)
   have e1:-(2*c)*(j:Int)=-(2*c*j):=by grind
   omega
def Sg(t u:I4):Prop:=t=u∨t=Ik u
theorem Vn{t u:I4}:Aq (Ik t) u=Ik (Aq t u):=by
 obtain⟨a,b,c,d⟩:=t;obtain⟨e,f,g,h⟩:=u
 simp only[Aq,Ik,Prod.mk.injEq]
 refine⟨?_,?_,?_,?_⟩<;>grind
theorem Vz{t u:I4}:Aq t (Ik u)=Ik (Aq t u):=by
 obtain⟨a,b,c,d⟩:=t;obtain⟨e,f,g,h⟩:=u
 simp only[Aq,Ik,Prod.mk.injEq]
 refine⟨?_,?_,?_,?_⟩<;>grind
theorem GQ{t:I4}:Ax (Ax t)=t:=by
 obtain⟨a,b,c,d⟩:=t
 simp only[Ax,Prod.mk.injEq]
 refine⟨trivial,?_,?_,trivial⟩<;>omega
theorem Rx{t u:I4}:Ax (Aq t u)=Aq (Ax u) (Ax t):=by
 obtain⟨a,b,c,d⟩:=t;obtain⟨e,f,g,h⟩:=u
 simp only[Aq,Ax,Prod.mk.injEq]
 refine⟨?_,?_,?_,?_⟩<;>grind
theorem Sg.refl{t:I4}:Sg t t:=.inl rfl
theorem Sg.trans{t u v:I4}(h:Sg t u)(k:Sg u v):Sg t v:=by
 rcases h with rfl|rfl<;>rcases k with rfl|rfl
 ·exact .inl rfl
 ·exact .inr rfl
 ·exact .inr rfl
 ·exact .inl neg_neg
theorem Sg.then{t u t' u':I4}(h:Sg t t')(k:Sg u u'):Sg (Aq t u) (Aq t' u'):=by
 rcases h with rfl|rfl<;>rcases k with rfl|rfl
 ·exact .inl rfl
 ·exact .inr Vz
 ·exact .inr Vn
 ·exact .inl (by rw[Vn,Vz,neg_neg])
theorem Sg.back{t u:I4}(h:Sg t u):Sg (Ax t) (Ax u):=by
 rcases h with rfl|rfl
 ·exact .inl rfl
 ·exact .inr Vj
theorem Sg.mov{f:I3}{t u:I4}(h:Sg t u):mov f t=mov f u:=by
 rcases h with rfl|rfl
 ·rfl
 ·exact Px
def rF(far:Int):Nat→I3→I3
 |0,f=>f
 |n+1,f=>rF far n (aft far f)
def rT(far:Int):Nat→I3→I4
 |0,_=>(1,0,0,1)
 |n+1,f=>Aq (Dc f far) (rT far n (aft far f))
theorem Hg{far:Int}:∀(n:Nat)(f:I3),mov f (rT far n f)=rF far n f
 |0,_=>Dy
 |n+1,f=>by rw[rT,←BK];exact Hg n (aft far f)
theorem Qy{far:Int}:∀(n:Nat)(f:I3),det (rT far n f)=1
 |0,_=>rfl
 |n+1,f=>by rw[rT,Dl,Dj,Qy n (aft far f)];rfl
theorem Gp{far:Int}:∀(m n:Nat)(f:I3),rF far (m+n) f=rF far n (rF far m f)
 |0,n,f=>by rw[Nat.zero_add];rfl
 |m+1,n,f=>by rw[show m+1+n=(m+n)+1 by omega];exact Gp m n (aft far f)
theorem Ui{far:Int}:∀(m n:Nat)(f:I3),rT far (m+n) f=Aq (rT far m f) (rT far n (rF far m f))
 |0,n,f=>by rw[Nat.zero_add];exact Ju.symm
 |m+1,n,f=>by rw[show m+1+n=(m+n)+1 by omega,rT,Ui m n (aft far f),rT,then_assoc];rfl
theorem ZF{far:Int}{n:Nat}{f:I3}:rF far (n+1) f=aft far (rF far n f):=by rw[Gp];rfl
theorem ZD{far:Int}{n:Nat}{f:I3}:rT far (n+1) f=Aq (rT far n f) (Dc (rF far n f) far):=by
 rw[Ui]
 show Aq _ (Aq _ (1,0,0,1))=_
 rw[HJ]
theorem Lv.rF{far:Int}:∀(n:Nat){f:I3},Lv far f→Lv far (rF far n f)
 |0,_,h=>h
 |n+1,_,h=>Lv.rF n h.next
theorem MF{far:Int}(n:Nat)(f:I3):meas (rF far n f)=meas f:=by rw[←Hg,Ca (Qy n f)]
theorem AaG{far:Int}:∀(n:Nat)(f:I3),Lv far f→0<f.1→Lv far (nxs n f)→∃m,Sg (wd n f) (rT far m f):=by
 intro n
 induction n using Nat.strongRecOn with
 | ind n ih =>
  intro f hf ha hg
  by_cases h0:n=0
  ·subst h0
   exact⟨0,Sg.refl⟩
  ·obtain⟨N,hN,e1,e2,e3⟩:=Abd hf ha
   have hn:N≤n:=by
    rcases Nat.lt_or_ge n N with z|z
    ·exact absurd hg (e3 n (by omega) z)
    ·exact z
   obtain⟨k,rfl⟩:∃k,n=N+k:=⟨n-N,by omega⟩
   have a2:0<(aft far (aft far f)).1:=by
    rw[(Hv hf.next).1]
    exact hf.next.pos (by rw[(Hv hf).1];exact hf.neg ha)
   rw[Uc,e1]at hg
   obtain⟨m,hm⟩:=ih k (by omega) (aft far (aft far f)) hf.next.next a2 hg
   refine⟨m+2,?_⟩
   rw[Yi,e1,e2]
   show Sg _ (Aq (Dc f far) (Aq (Dc (aft far f) far) (rT far m (aft far (aft far f)))))
   rw[←then_assoc]
   exact Sg.then (.inr rfl) hm
def Ring(far:Int)(f g:I3)(t:I4):Prop:=(∃m,Sg t (rT far m f))∨(∃m,Sg (Ax t) (rT far m g))
theorem Ring.swap{far:Int}{f g:I3}{t:I4}(h:Ring far f g t):Ring far g f (Ax t):=by
 rcases h with⟨m,h⟩|⟨m,h⟩
 ·exact .inr ⟨m,by rw[GQ];exact h⟩
 ·exact .inl ⟨m,h⟩
theorem Zu{far:Int}{f g:I3}{t:I4}(hf:Lv far f)(hg:Lv far g)(hd:det t=1)(e:mov f t=g)(fa:0<f.1)(ga:0<g.1):Ring far f g t:=by
 have hr:Riv (mov f t):=by rw[e];exact hg.riv ga
 rcases AlU (hf.riv fa) hd hr with⟨n,h⟩|⟨n,h⟩
 ·have hs:Sg t (wd n f):=h
  have hn:Lv far (nxs n f):=by rw[←LR,←hs.mov,e];exact hg
  obtain⟨m,hm⟩:=AaG n f hf fa hn
  exact .inl ⟨m,hs.trans hm⟩
 ·rw[e]at h
  have hs:Sg (Ax t) (wd n g):=h
  have hn:Lv far (nxs n g):=by rw[←LR,←hs.mov,←e,Cm hd];exact hf
  obtain⟨m,hm⟩:=AaG n g hg ga hn
  exact .inr ⟨m,hs.trans hm⟩
theorem Aai{far:Int}{f g:I3}{t:I4}{m:Nat}(hf:Lv far f)(hg:Lv far g)(hm:meas f=meas g)(h:Sg (Aq t (Dc g far)) (rT far m f))(e:rF far m f=aft far g):(∃k,Sg t (rT far k f))∨Sg t (Ax (Dc g far)):=by
 have cancel:∀{u:I4},Sg (Aq t (Dc g far)) (Aq u (Dc g far))→Sg t u:=fun{u} h=>by
  have:=Sg.then h (Sg.refl (t:=Ax (Dc g far)))
  rw[then_assoc,then_assoc,Kq Dj,HJ,HJ]at this
  exact this
 match m,h,e with
 | 0,h,e =>
  right
  refine cancel (h.trans ?_)
  rw[Tn Dj]
  exact Sg.refl
 | m+1,h,e =>
  left
  rw[ZF]at e
  have e':=Aap (Lv.rF m hf) hg (by rw[MF];exact hm) e
  rw[ZD,e']at h
  exact⟨m,cancel h⟩
theorem U9{far:Int}{f g:I3}{t:I4}(hf:Lv far f)(hg:Lv far g)(hd:det t=1)(e:mov f t=g)(fa:0<f.1)(ga:g.1<0):Ring far f g t:=by
 have hm:meas f=meas g:=by rw[←e,Ca hd]
 have hd':det (Aq t (Dc g far))=1:=by rw[Dl,hd,Dj];rfl
 have e':mov f (Aq t (Dc g far))=aft far g:=by rw[←BK,e]
 have ga':0<(aft far g).1:=by rw[(Hv hg).1];exact hg.pos ga
 rcases Zu hf hg.next hd' e' fa ga' with⟨m,h⟩|⟨m,h⟩
 ·have er:rF far m f=aft far g:=by rw[←Hg,←h.mov,e']
  rcases Aai hf hg hm h er with h|h
  ·exact .inl h
  ·refine .inr ⟨1,?_⟩
   have:=h.back
   rw[GQ]at this
   show Sg _ (Aq (Dc g far) (1,0,0,1))
   rw[HJ]
   exact this
 ·refine .inr ⟨m+1,?_⟩
  have h2:=Sg.then (Sg.refl (t:=Dc g far)) h
  rw[Rx,←then_assoc,Kq Dj,Ju]at h2
  exact h2
theorem Q6{far:Int}{f g:I3}{t:I4}(hf:Lv far f)(hg:Lv far g)(hd:det t=1)(e:mov f t=g):Ring far f g t:=by
 have fa:=ZV hf.S
 have ga:=ZV hg.S
 have eb:mov g (Ax t)=f:=by rw[←e,Cm hd]
 have hdb:det (Ax t)=1:=Ez.trans hd
 rcases Int.lt_or_lt_of_ne fa with fa|fa
 ·rcases Int.lt_or_lt_of_ne ga with ga|ga
  ·
   have fa':0<(aft far f).1:=by rw[(Hv hf).1];exact hf.pos fa
   have hd':det (Aq (Ax (Dc f far)) t)=1:=by rw[Dl,Ez,Dj,hd];rfl
   have e':mov (aft far f) (Aq (Ax (Dc f far)) t)=g:=by
    rw[←BK,Cm Dj,e]
   have hm:meas g=meas f:=by rw[←e,Ca hd]
   rcases U9 hf.next hg hd' e' fa' ga with⟨m,h⟩|⟨m,h⟩
   ·refine .inl ⟨m+1,?_⟩
    have h2:=Sg.then (Sg.refl (t:=Dc f far)) h
    rw[←then_assoc,Kq Dj,Ju]at h2
    exact h2
   ·rw[Rx,GQ]at h
    have er:rF far m g=aft far f:=by rw[←Hg,←h.mov,←BK,eb]
    rcases Aai hg hf hm h er with h|h
    ·exact .inr h
    ·refine .inl ⟨1,?_⟩
     have:=h.back
     rw[GQ,GQ]at this
     show Sg _ (Aq (Dc f far) (1,0,0,1))
     rw[HJ]
     exact this
  ·have:=(U9 hg hf hdb eb ga fa).swap
   rw[GQ]at this
   exact this
 ·rcases Int.lt_or_lt_of_ne ga with ga|ga
  ·exact U9 hf hg hd e fa ga
  ·exact Zu hf hg hd e fa ga
theorem Aiq:∀(M:Nat)(x:Nat→Nat),(∀i,i≤M→x i<M)→∃i j,i<j∧j≤M∧x i=x j:=by
 intro M
 induction M with
 |zero=>intro x h;exact absurd (h 0 (Nat.le_refl _)) (by omega)
 | succ M ih =>
  intro x h
  by_cases hex:∃i j,i<j∧j≤M+1∧x i=x j
  ·exact hex
  ·have ne:∀i j,i<j→j≤M+1→x i≠x j:=fun i j h1 h2 h3=>hex ⟨i,j,h1,h2,h3⟩
   obtain⟨i,j,h1,h2,h3⟩:=ih (fun i=>if x i=M then x (M+1)else x i) (fun i hi=>by
    have h1:=h i (by omega)
    have h2:=h (M+1) (Nat.le_refl _)
    have h3:=ne i (M+1) (by omega) (Nat.le_refl _)
    show(if x i=M then x (M+1)else x i)<M
    split<;>omega)
   exfalso
   have n1:=ne i j h1 (by omega)
   have n2:=ne i (M+1) (by omega) (Nat.le_refl _)
   have n3:=ne j (M+1) (by omega) (Nat.le_refl _)
   have h3:(if x i=M then x (M+1)else x i)=(if x j=M then x (M+1)else x j):=h3
   split at h3<;>split at h3<;>omega
theorem Nm{far:Int}:∀(i:Nat){f g:I3},Lv far f→Lv far g→meas f=meas g→rF far i f=rF far i g→f=g
 |0,_,_,_,_,_,h=>h
 |i+1,f,g,hf,hg,hm,h=>Aap hf hg hm (Nm i hf.next hg.next (by rw[Ca Dj,Ca Dj];exact hm) h)
def Wi(f:I3):Nat:=((f.1+63)*64+f.2.1).toNat
theorem Lv.range{far:Int}{f:I3}(h:Lv far f):(-63≤f.1∧f.1≤63)∧(0<f.2.1∧f.2.1≤63):=by
 have h6:=PX h.r h.S.most
 obtain⟨⟨l1,l2⟩,_,l4⟩:=h.L
 have l4:2*ab f.1≤far+f.2.1:=l4
 rcases Bk f.1 with⟨_,e⟩|⟨_,e⟩<;>omega
theorem code_inj{far:Int}{f g:I3}(hf:Lv far f)(hg:Lv far g)(hm:meas f=meas g)(h:Wi f=Wi g):f=g:=by
 have rf:=hf.range
 have rg:=hg.range
 have ha:=ZV hf.S
 obtain⟨a,b,c⟩:=f
 obtain⟨a',b',c'⟩:=g
 simp only[Wi]at h rf rg ha
 have e1:a=a':=by omega
 have e2:b=b':=by omega
 subst e1 e2
 have e3:4*a*c=4*a*c':=by simp only[meas]at hm;omega
 have:c=c':=Int.eq_of_mul_eq_mul_left (show 4*a≠0 by omega) e3
 rw[this]
theorem V6{far:Int}{f:I3}(h:Lv far f):∃N,0<N∧N≤8128∧rF far N f=f∧∀j,0<j→j<N→rF far j f≠f:=by
 have ex:∃N,0<N∧N≤8128∧rF far N f=f:=by
  obtain⟨i,j,hij,hj,e⟩:=Aiq 8128 (fun i=>Wi (rF far i f)) (fun i _=>by
   have:=(Lv.rF i h).range
   unfold Wi
   omega)
  have e':=code_inj (Lv.rF i h) (Lv.rF j h) (by rw[MF,MF]) e
  obtain⟨k,rfl⟩:∃k,j=k+i:=⟨j-i,by omega⟩
  rw[Gp k i f]at e'
  have:=Nm i h (Lv.rF k h) (by rw[MF]) e'
  exact⟨k,by omega,by omega,this.symm⟩
 have least:∀M,(∃N,0<N∧N≤M∧rF far N f=f)→∃N,0<N∧N≤M∧rF far N f=f∧∀j,0<j→j<N→rF far j f≠f:=by
  intro M
  induction M with
  |zero=>intro⟨N,h1,h2,_⟩;omega
  | succ M ih =>
   intro hN
   by_cases hM:∃N,0<N∧N≤M∧rF far N f=f
   ·obtain⟨N,h1,h2,h3,h4⟩:=ih hM
    exact⟨N,h1,by omega,h3,h4⟩
   ·obtain⟨N,h1,h2,h3⟩:=hN
    exact⟨N,h1,h2,h3,fun j j0 jN e=>hM ⟨j,j0,by omega,e⟩⟩
 exact least 8128 ex
theorem Y9{f:I3}{far:Int}(h:Lv far f):Bt 9 (kB f far):=by
 have hc:=Jp h.S
 have hk:=Jf (top:=far) hc
 have ⟨d1,d2⟩:=Mu (top:=far) hc
 have h6:=PX h.r h.S.most
 have ⟨c1,c2⟩:=JF h.r h.S.no h.L
 obtain⟨⟨l1,l2⟩,_,_⟩:=h.L
 have e1:2*(ab f.2.2*ab (kB f far))=ab (f.2.1+dB f far):=by
  rw[←hk,Rb]
  have:2*f.2.2*kB f far=2*(f.2.2*kB f far):=by grind
  rw[this]
  rcases Bk (f.2.2*kB f far)with⟨h1,e1⟩|⟨h1,e1⟩
  ·rw[e1,ab,if_neg (by omega)]
  ·rw[e1,ab,if_pos (by omega)];omega
 have c0:1≤ab f.2.2:=by rcases Bk f.2.2 with⟨_,e1⟩|⟨_,e1⟩<;>omega
 have e2:=Int.mul_le_mul_of_nonneg_right c0 (Ci (kB f far))
 have e3:ab (f.2.1+dB f far)≤252:=by rcases Bk (f.2.1+dB f far)with⟨_,e1⟩|⟨_,e1⟩<;>omega
 have:=Ci (kB f far)
 exact Tz (k:=252) (by omega) (by decide)
theorem Ahw{far:Int}:∀(n:Nat){f:I3},Lv far f→B4 (10*n+1) (rT far n f)
 |0,_,_=>⟨Bt.one,Bt.zero.le (by omega),Bt.zero.le (by omega),Bt.one⟩
 | n+1,f,h=>by
  have h1:=QX (Y9 h) (by decide)
  exact(B4.then h1 (Ahw n h.next)).le (by omega)
def tr(t:I4):Int:=t.1+t.2.2.2
theorem AgO{t x:I4}(h:det x=1):tr (Aq (Aq x t) (Ax x))=tr t:=by
 obtain⟨p,q,r,s⟩:=t;obtain⟨a,b,c,d⟩:=x
 simp only[det]at h
 have:tr (Aq (Aq (a,b,c,d) (p,q,r,s)) (Ax (a,b,c,d)))=(a*d-b*c)*(p+s):=by simp only[tr,Aq,Ax];grind
 rw[this,h,Int.one_mul];rfl
theorem Ack{t x:I4}(h:det x=1):tr (Aq (Aq (Ax x) t) x)=tr t:=by
 have:=AgO (t:=t) (x:=Ax x) (Ez.trans h)
 rw[GQ]at this
 exact this
theorem Ail{f:I3}{d:Int}(h1:d∣f.1)(h2:d∣f.2.1)(h3:d∣f.2.2):d∣(g3 f:Int):=Int.dvd_coe_gcd (Int.dvd_coe_gcd h1 h2) h3
theorem Qj{f:I3}{t:I4}:(g3 f:Int)∣(g3 (mov f t):Int):=by
 obtain⟨⟨x,hx⟩,⟨y,hy⟩,⟨z,hz⟩⟩:=AcL f
 refine Ail ⟨val (x,y,z) (t.1,t.2.2.1),?_⟩ ⟨mid (x,y,z) (t.1,t.2.2.1) (t.2.1,t.2.2.2),?_⟩ ⟨val (x,y,z) (t.2.1,t.2.2.2),?_⟩
 ·show val f (t.1,t.2.2.1)=_
  simp only[val];rw[hx,hy,hz];grind
 ·show mid f (t.1,t.2.2.1) (t.2.1,t.2.2.2)=_
  simp only[mid];rw[hx,hy,hz];grind
 ·show val f (t.2.1,t.2.2.2)=_
  simp only[val];rw[hx,hy,hz];grind
theorem Ad2{f:I3}{t:I4}(h:det t=1):g3 (mov f t)=g3 f:=by
 have h1:(g3 f:Int)∣(g3 (mov f t):Int):=Qj
 have h2:(g3 (mov f t):Int)∣(g3 f:Int):=by
  have:=Qj (f:=mov f t) (t:=Ax t)
  rw[Cm h]at this
  exact this
 exact Nat.dvd_antisymm (Int.ofNat_dvd.mp h2) (Int.ofNat_dvd.mp h1)
def pl(f:I3):I3:=(f.1 / (g3 f:Int),f.2.1 / (g3 f:Int),f.2.2 / (g3 f:Int))
theorem YT{far:Int}{f:I3}{N m:Nat}(e:rF far N f=f):tr (rT far N (rF far m f))=tr (rT far N f):=by
 have h1:=Ui (far:=far) m N f
 have h2:=Ui (far:=far) N m f
 rw[e,Nat.add_comm N m]at h2
 have hd:=Qy (far:=far) m f
 have:rT far N (rF far m f)=Aq (Aq (Ax (rT far m f)) (rT far N f)) (rT far m f):=by
  rw[then_assoc,←h2,h1,←then_assoc,Tn hd,Ju]
 rw[this,Ack hd]
theorem WT{far:Int}{f:I3}{N M m:Nat}(h:Lv far f)(e:rF far N f=f)(min:∀j,0<j→j<N→rF far j f≠f)(e':rF far M (rF far m f)=rF far m f)(min':∀j,0<j→j<M→rF far j (rF far m f)≠rF far m f)(hN:0<N)(hM:0<M):N=M:=by
 have a1:rF far M f=f:=by
  rw[←Gp,Nat.add_comm,Gp]at e'
  exact Nm m (Lv.rF M h) h (by rw[MF]) e'
 have a2:rF far N (rF far m f)=rF far m f:=by rw[←Gp,Nat.add_comm,Gp,e]
 rcases Nat.lt_trichotomy N M with z|z|z
 ·exact absurd a2 (min' N hN z)
 ·exact z
 ·exact absurd a1 (min M hM z)
theorem TJ{far:Int}{f g:I3}{t:I4}{N M:Nat}(hf:Lv far f)(hg:Lv far g)(hd:det t=1)(e:mov f t=g)(eN:rF far N f=f)(afd:∀j,0<j→j<N→rF far j f≠f)(eM:rF far M g=g)(afe:∀j,0<j→j<M→rF far j g≠g)(hN:0<N)(hM:0<M):N=M∧tr (rT far M g)=tr (rT far N f):=by
 rcases Q6 hf hg hd e with⟨m,h⟩|⟨m,h⟩
 ·have eg:rF far m f=g:=by rw[←Hg,←h.mov,e]
  subst eg
  have:=WT hf eN afd eM afe hN hM
  subst this
  exact⟨rfl,YT eN⟩
 ·have ef:rF far m g=f:=by rw[←Hg,←h.mov,←e,Cm hd]
  subst ef
  have:=WT hg eM afe eN afd hM hN
  subst this
  exact⟨rfl,(YT eM).symm⟩
def above(n x1 y1 x2 y2:Int):Prop:=(x1*y2+x2*y1)*(x1*y2+x2*y1)<n*(2*y1*y2)*(2*y1*y2)
def pw(s:I4):Nat→I4
 |0=>(1,0,0,1)
 |n+1=>Aq (pw s n) s
def FA(p q:I4):I3:=(p.1*q.2.1-p.2.1*q.1,p.1*q.2.2.2-p.2.2.2*q.1+p.2.2.1*q.2.1-p.2.1*q.2.2.1,p.2.2.1*q.2.2.2-p.2.2.2*q.2.2.1)
def FB(p q:I4):I3:=(p.1*q.2.2.1-p.2.2.1*q.1,p.1*q.2.2.2-p.2.2.2*q.1+p.2.1*q.2.2.1-p.2.2.1*q.2.1,p.2.1*q.2.2.2-p.2.2.2*q.2.1)
def FC(p q:I4):I3:=(q.2.1*q.2.2.1-q.1*q.2.2.2,p.1*q.2.2.2+p.2.2.2*q.1-p.2.1*q.2.2.1-p.2.2.1*q.2.1,p.2.1*p.2.2.1-p.1*p.2.2.2)
def Comp(f g F:I3):Prop:=∃p q:I4,FA p q=f∧FB p q=g∧FC p q=F
theorem AjF{f g:I3}(h1:f.1=g.1)(h2:f.2.1=g.2.1)(h3:f.2.2=g.2.2):f=g:=Prod.ext h1 (Prod.ext h2 h3)
theorem Comp.swap{f g F:I3}(h:Comp f g F):Comp g f F:=by
 obtain⟨⟨p0,p1,p2,p3⟩,⟨q0,q1,q2,q3⟩,rfl,rfl,rfl⟩:=h
 refine⟨(p0,p2,p1,p3),(q0,q2,q1,q3),?_,?_,?_⟩<;>simp only[FA,FB,FC,Prod.mk.injEq]<;>(refine⟨?_,?_,?_⟩<;>grind)
theorem Comp.meas{f g F:I3}(h:Comp f g F):meas f=meas g∧meas F=meas g:=by
 obtain⟨⟨p0,p1,p2,p3⟩,⟨q0,q1,q2,q3⟩,rfl,rfl,rfl⟩:=h
 constructor<;>simp only[FA,FB,FC,My.meas]<;>grind
def QM(p:I4)(t:I4):I4:=(t.1*p.1+t.2.2.1*p.2.2.1,t.1*p.2.1+t.2.2.1*p.2.2.2,t.2.1*p.1+t.2.2.2*p.2.2.1,t.2.1*p.2.1+t.2.2.2*p.2.2.2)
theorem AnH{p q t:I4}:FA (QM p t) (QM q t)=mov (FA p q) t:=by
 obtain⟨p0,p1,p2,p3⟩:=p;obtain⟨q0,q1,q2,q3⟩:=q;obtain⟨a,b,c,d⟩:=t
 simp only[FA,QM,mov,val,mid,Prod.mk.injEq]
 refine⟨?_,?_,?_⟩<;>grind
theorem Apf{p q t:I4}(h:det t=1):FB (QM p t) (QM q t)=FB p q:=by
 obtain⟨p0,p1,p2,p3⟩:=p;obtain⟨q0,q1,q2,q3⟩:=q;obtain⟨a,b,c,d⟩:=t
 have h:a*d-b*c=1:=h
 have e:∀x:Int,x=(a*d-b*c)*x:=fun x=>by rw[h];omega
 simp only[FB,QM,Prod.mk.injEq]
 refine⟨?_,?_,?_⟩
 ·rw[e (p0*q2-p2*q0)];grind
 ·rw[e (p0*q3-p3*q0+p1*q2-p2*q1)];grind
 ·rw[e (p1*q3-p3*q1)];grind
theorem AnE{p q t:I4}(h:det t=1):FC (QM p t) (QM q t)=FC p q:=by
 obtain⟨p0,p1,p2,p3⟩:=p;obtain⟨q0,q1,q2,q3⟩:=q;obtain⟨a,b,c,d⟩:=t
 have h:a*d-b*c=1:=h
 have e:∀x:Int,x=(a*d-b*c)*x:=fun x=>by rw[h];omega
 simp only[FC,QM,Prod.mk.injEq]
 refine⟨?_,?_,?_⟩
 ·rw[e (q1*q2-q0*q3)];grind
 ·rw[e (p0*q3+p3*q0-p1*q2-p2*q1)];grind
 ·rw[e (p1*p2-p0*p3)];grind
theorem Comp.aeU{f g F:I3}{t:I4}(h:Comp f g F)(dt:det t=1):Comp (mov f t) g F:=by
 obtain⟨p,q,rfl,rfl,rfl⟩:=h
 exact⟨QM p t,QM q t,AnH,Apf dt,AnE dt⟩
theorem Comp.afu{f g F:I3}{t:I4}(h:Comp f g F)(dt:det t=1):Comp f (mov g t) F:=(h.swap.aeU dt).swap
def Nq(p q t:I4):I4:=(t.2.2.2*p.1-t.2.1*q.1,t.2.2.2*p.2.1-t.2.1*q.2.1,t.2.2.2*p.2.2.1-t.2.1*q.2.2.1,t.2.2.2*p.2.2.2-t.2.1*q.2.2.2)
def Nk(p q t:I4):I4:=(t.1*q.1-t.2.2.1*p.1,t.1*q.2.1-t.2.2.1*p.2.1,t.1*q.2.2.1-t.2.2.1*p.2.2.1,t.1*q.2.2.2-t.2.2.1*p.2.2.2)
theorem Aks{p q t:I4}(h:det t=1):FA (Nq p q t) (Nk p q t)=FA p q:=by
 obtain⟨p0,p1,p2,p3⟩:=p;obtain⟨q0,q1,q2,q3⟩:=q;obtain⟨a,b,c,d⟩:=t
 have h:a*d-b*c=1:=h
 have e:∀x:Int,x=(a*d-b*c)*x:=fun x=>by rw[h];omega
 simp only[FA,Nq,Nk,Prod.mk.injEq]
 refine⟨?_,?_,?_⟩
 ·rw[e (p0*q1-p1*q0)];grind
 ·rw[e (p0*q3-p3*q0+p2*q1-p1*q2)];grind
 ·rw[e (p2*q3-p3*q2)];grind
theorem AlD{p q t:I4}(h:det t=1):FB (Nq p q t) (Nk p q t)=FB p q:=by
 obtain⟨p0,p1,p2,p3⟩:=p;obtain⟨q0,q1,q2,q3⟩:=q;obtain⟨a,b,c,d⟩:=t
 have h:a*d-b*c=1:=h
 have e:∀x:Int,x=(a*d-b*c)*x:=fun x=>by rw[h];omega
 simp only[FB,Nq,Nk,Prod.mk.injEq]
 refine⟨?_,?_,?_⟩
 ·rw[e (p0*q2-p2*q0)];grind
 ·rw[e (p0*q3-p3*q0+p1*q2-p2*q1)];grind
 ·rw[e (p1*q3-p3*q1)];grind
theorem AjM{p q t:I4}:FC (Nq p q t) (Nk p q t)=mov (FC p q) t:=by
 obtain⟨p0,p1,p2,p3⟩:=p;obtain⟨q0,q1,q2,q3⟩:=q;obtain⟨a,b,c,d⟩:=t
 simp only[FC,Nq,Nk,mov,val,mid,Prod.mk.injEq]
 refine⟨?_,?_,?_⟩<;>grind
theorem Comp.afv{f g F:I3}{t:I4}(h:Comp f g F)(dt:det t=1):Comp f g (mov F t):=by
 obtain⟨p,q,rfl,rfl,rfl⟩:=h
 exact⟨Nq p q t,Nk p q t,Aks dt,AlD dt,AjM⟩
theorem bez:∀(n:Nat)(a b:Int),b.natAbs≤n→∃u v:Int,u*a+v*b=(Int.gcd a b:Int)
 | n,a,b,h=>by
  by_cases hb:b=0
  ·subst hb
   rw[Int.gcd_zero_right]
   rcases Int.lt_or_le a 0 with z|z
   ·exact⟨-1,0,by omega⟩
   ·exact⟨1,0,by omega⟩
  ·have l:=Kr (a:=a) hb
   match n,h with
   |0,h=>omega
   | n+1,h =>
    obtain⟨u,v,e⟩:=bez n b (a.fmod b) (by omega)
    rw[Q7]at e
    refine⟨v,u-v*a.fdiv b,?_⟩
    rw[←e,Int.fmod_def]
    grind
theorem Xm{f:I3}(h:g3 f=1):∃i j k:Int,i*f.1+j*f.2.1+k*f.2.2=1:=by
 obtain⟨u,v,e1⟩:=bez _ f.1 f.2.1 (Nat.le_refl _)
 obtain⟨x,y,e2⟩:=bez _ ((Int.gcd f.1 f.2.1:Nat):Int) f.2.2 (Nat.le_refl _)
 have e3:((Int.gcd ((Int.gcd f.1 f.2.1:Nat):Int) f.2.2:Nat):Int)=1:=by
  have:(g3 f:Int)=1:=by rw[h];rfl
  exact this
 rw[e3,←e1]at e2
 exact⟨x*u,x*v,y,by rw[←e2];grind⟩
theorem Ho{pm pi pj qm qi qj rm ri rj sm si sj:Int}(h1:pm*qi-pi*qm=rm*si-ri*sm)(h2:pm*qj-pj*qm=rm*sj-rj*sm)(h3:pi*qj-pj*qi=ri*sj-rj*si) :
  rm*(pi*qj-pj*qi)=pm*(ri*qj-rj*qi)+qm*(pi*rj-pj*ri):=by
 have a1:rm*(pi*qj-pj*qi)=rm*(ri*sj-rj*si):=by rw[h3]
 have a2:ri*(pm*qj-pj*qm)=ri*(rm*sj-rj*sm):=by rw[h2]
 have a3:rj*(pm*qi-pi*qm)=rj*(rm*si-ri*sm):=by rw[h1]
 grind
theorem Hq{pm pi pj qm qi qj rm ri rj sm si sj:Int}(h1:pm*qi-pi*qm=rm*si-ri*sm)(h2:pm*qj-pj*qm=rm*sj-rj*sm)(h3:pi*qj-pj*qi=ri*sj-rj*si) :
  sm*(pi*qj-pj*qi)=pm*(si*qj-sj*qi)+qm*(pi*sj-pj*si):=by
 have a1:sm*(pi*qj-pj*qi)=sm*(ri*sj-rj*si):=by rw[h3]
 have a2:si*(pm*qj-pj*qm)=si*(rm*sj-rj*sm):=by rw[h2]
 have a3:sj*(pm*qi-pi*qm)=sj*(rm*si-ri*sm):=by rw[h1]
 grind
theorem J4{pm qm rm A B C D c1 c2 c3 c4 x1 x2 x3 x4 y1 y2 y3 y4:Int}(e1:rm*A=pm*x1+qm*y1)(e2:rm*B=pm*x2+qm*y2)(e3:rm*C=pm*x3+qm*y3)(e4:rm*D=pm*x4+qm*y4)(h:c1*A+c2*B+c3*C+c4*D=1) :
  rm=(c1*x1+c2*x2+c3*x3+c4*x4)*pm+(c1*y1+c2*y2+c3*y3+c4*y4)*qm:=by
 have:rm=rm*(c1*A+c2*B+c3*C+c4*D):=by rw[h];omega
 have e:rm*(c1*A+c2*B+c3*C+c4*D)=c1*(rm*A)+c2*(rm*B)+c3*(rm*C)+c4*(rm*D):=by grind
 rw[e,e1,e2,e3,e4]at this
 rw[this]
 grind
theorem Abi{p q r s:I4}(ha:FA p q=FA r s)(hb:FB p q=FB r s)(pl:g3 (FA p q)=1):∃t:I4,det t=1∧r=Nq p q t∧s=Nk p q t:=by
 obtain⟨i,j,k,afg⟩:=Xm pl
 obtain⟨p0,p1,p2,p3⟩:=p
 obtain⟨q0,q1,q2,q3⟩:=q
 obtain⟨r0,r1,r2,r3⟩:=r
 obtain⟨s0,s1,s2,s3⟩:=s
 simp only[FA,FB,Prod.mk.injEq]at ha hb afg
 obtain⟨m01,mA,m23⟩:=ha
 obtain⟨m02,mB,m13⟩:=hb
 have m03:p0*q3-p3*q0=r0*s3-r3*s0:=by omega
 have m12:p1*q2-p2*q1=r1*s2-r2*s1:=by omega
 have h1:i*(p0*q1-p1*q0)+j*(p0*q3-p3*q0)+(-j)*(p1*q2-p2*q1)+k*(p2*q3-p3*q2)=1:=by rw[←afg];grind
 have z:∀{x y:Int},x*y-x*y=0:=fun{x y}=>by omega
 have nn:∀{a b c d:Int},a*b-c*d=0-(c*d-a*b):=fun{a b c d}=>by omega
 have m10:p1*q0-p0*q1=r1*s0-r0*s1:=by omega
 have m20:p2*q0-p0*q2=r2*s0-r0*s2:=by omega
 have m30:p3*q0-p0*q3=r3*s0-r0*s3:=by omega
 have m21:p2*q1-p1*q2=r2*s1-r1*s2:=by omega
 have m31:p3*q1-p1*q3=r3*s1-r1*s3:=by omega
 have m32:p3*q2-p2*q3=r3*s2-r2*s3:=by omega
 have m00:p0*q0-p0*q0=r0*s0-r0*s0:=by omega
 have m11:p1*q1-p1*q1=r1*s1-r1*s1:=by omega
 have m22:p2*q2-p2*q2=r2*s2-r2*s2:=by omega
 have m33:p3*q3-p3*q3=r3*s3-r3*s3:=by omega
 have R0:=J4 (Ho m00 m01 m01) (Ho m00 m03 m03) (Ho m01 m02 m12) (Ho m02 m03 m23) h1
 have R1:=J4 (Ho m10 m11 m01) (Ho m10 m13 m03) (Ho m11 m12 m12) (Ho m12 m13 m23) h1
 have R2:=J4 (Ho m20 m21 m01) (Ho m20 m23 m03) (Ho m21 m22 m12) (Ho m22 m23 m23) h1
 have R3:=J4 (Ho m30 m31 m01) (Ho m30 m33 m03) (Ho m31 m32 m12) (Ho m32 m33 m23) h1
 have S0:=J4 (Hq m00 m01 m01) (Hq m00 m03 m03) (Hq m01 m02 m12) (Hq m02 m03 m23) h1
 have S1:=J4 (Hq m10 m11 m01) (Hq m10 m13 m03) (Hq m11 m12 m12) (Hq m12 m13 m23) h1
 have S2:=J4 (Hq m20 m21 m01) (Hq m20 m23 m03) (Hq m21 m22 m12) (Hq m22 m23 m23) h1
 have S3:=J4 (Hq m30 m31 m01) (Hq m30 m33 m03) (Hq m31 m32 m12) (Hq m32 m33 m23) h1
 obtain⟨al,eal⟩:∃x,x=i*(r0*q1-r1*q0)+j*(r0*q3-r3*q0) + -j*(r1*q2-r2*q1)+k*(r2*q3-r3*q2):=⟨_,rfl⟩
 obtain⟨be,ebe⟩:∃x,x=i*(p0*r1-p1*r0)+j*(p0*r3-p3*r0) + -j*(p1*r2-p2*r1)+k*(p2*r3-p3*r2):=⟨_,rfl⟩
 obtain⟨ga,ega⟩:∃x,x=i*(s0*q1-s1*q0)+j*(s0*q3-s3*q0) + -j*(s1*q2-s2*q1)+k*(s2*q3-s3*q2):=⟨_,rfl⟩
 obtain⟨de,ede⟩:∃x,x=i*(p0*s1-p1*s0)+j*(p0*s3-p3*s0) + -j*(p1*s2-p2*s1)+k*(p2*s3-p3*s2):=⟨_,rfl⟩
 rw[←eal,←ebe]at R0 R1 R2 R3
 rw[←ega,←ede]at S0 S1 S2 S3
 refine⟨(de,-be,-ga,al),?_,?_,?_⟩
 ·show de*al - -be * -ga=1
  have k1:(de*al - -be * -ga)*(p0*q1-p1*q0)=p0*q1-p1*q0:=by rw[m01,R0,R1,S0,S1];grind
  have k2:(de*al - -be * -ga)*(p0*q3-p3*q0)=p0*q3-p3*q0:=by rw[m03,R0,R3,S0,S3];grind
  have k3:(de*al - -be * -ga)*(p1*q2-p2*q1)=p1*q2-p2*q1:=by rw[m12,R1,R2,S1,S2];grind
  have k4:(de*al - -be * -ga)*(p2*q3-p3*q2)=p2*q3-p3*q2:=by rw[m23,R2,R3,S2,S3];grind
  generalize de*al - -be * -ga=D at *
  have:D=D*(i*(p0*q1-p1*q0)+j*(p0*q3-p3*q0) + -j*(p1*q2-p2*q1)+k*(p2*q3-p3*q2)):=by rw[h1];omega
  have e:D*(i*(p0*q1-p1*q0)+j*(p0*q3-p3*q0) + -j*(p1*q2-p2*q1)+k*(p2*q3-p3*q2))=i*(D*(p0*q1-p1*q0))+j*(D*(p0*q3-p3*q0)) + -j*(D*(p1*q2-p2*q1))+k*(D*(p2*q3-p3*q2)):=by grind
  rw[e,k1,k2,k3,k4,h1]at this
  exact this
 ·simp only[Nq,Prod.mk.injEq]
  refine⟨?_,?_,?_,?_⟩
  ·rw[R0];grind
  ·rw[R1];grind
  ·rw[R2];grind
  ·rw[R3];grind
 ·simp only[Nk,Prod.mk.injEq]
  refine⟨?_,?_,?_,?_⟩
  ·rw[S0];grind
  ·rw[S1];grind
  ·rw[S2];grind
  ·rw[S3];grind
theorem Comp.same{f g F G:I3}(A:Comp f g F)(B:Comp f g G)(pl:g3 f=1):∃t,det t=1∧mov F t=G:=by
 obtain⟨p,q,a1,a2,a3⟩:=A
 obtain⟨r,s,b1,b2,b3⟩:=B
 obtain⟨t,dt,er,es⟩:=Abi (p:=p) (q:=q) (r:=r) (s:=s) (a1.trans b1.symm) (a2.trans b2.symm) (by rw[a1];exact pl)
 refine⟨t,dt,?_⟩
 rw[←b3,er,es,AjM,a3]
theorem Wg{a b d e:Int}:Comp (a,b,d*e) (d,b,a*e) (a*d,b,e):=by
 refine⟨(1,0,0,-e),(0,a,d,b),?_,?_,?_⟩<;>simp only[FA,FB,FC,Prod.mk.injEq]<;>(refine⟨?_,?_,?_⟩<;>grind)
def jS(f h:I3):Int:=(f.2.1+h.2.1).fdiv 2
def jA(f h:I3)(g:Int):Int:=(f.1*h.1).fdiv (g*g)
def jB(f h:I3)(g j k:Int):Int:=(h.2.1+2*h.1.fdiv g*(j*(jS f h-h.2.1)-k*h.2.2)).fmod (2*jA f h g)
def jF(f h:I3)(g j k:Int):I3:=(jA f h g,jB f h g j k,(jB f h g j k*jB f h g j k-meas f).fdiv (4*jA f h g))
def jP(f h:I3)(g B:Int):I4:=(g,(g*(h.2.1-B)).fdiv (2*h.1),(g*(f.2.1-B)).fdiv (2*f.1),(g*(f.2.1*h.2.1+meas f-2*B*jS f h)).fdiv (4*f.1*h.1))
def jQ(f h:I3)(g:Int):I4:=(0,f.1.fdiv g,h.1.fdiv g,(jS f h).fdiv g)
theorem SQ{f h:I3}(hm:meas f=meas h):f.2.1+h.2.1=2*jS f h:=by
 have hm:f.2.1*f.2.1-4*f.1*f.2.2=h.2.1*h.2.1-4*h.1*h.2.2:=hm
 have e:(f.2.1+h.2.1) % 2=0:=by
  have e1:f.2.1*f.2.1-h.2.1*h.2.1=4*(f.1*f.2.2-h.1*h.2.2):=by grind
  have e2:(f.2.1+h.2.1)*(f.2.1-h.2.1)=4*(f.1*f.2.2-h.1*h.2.2):=by rw[←e1];grind
  rcases(show(f.2.1+h.2.1) % 2=0∨(f.2.1+h.2.1) % 2=1 by omega)with z|z
  ·exact z
  ·obtain⟨x,hx⟩:∃x,f.2.1+h.2.1=2*x+1:=⟨(f.2.1+h.2.1) / 2,by omega⟩
   obtain⟨y,hy⟩:∃y,f.2.1-h.2.1=2*y+1:=⟨(f.2.1-h.2.1) / 2,by omega⟩
   rw[hx,hy]at e2
   have:(2*x+1)*(2*y+1)=2*(2*(x*y)+x+y)+1:=by grind
   omega
 unfold jS
 rw[Int.fdiv_eq_ediv_of_nonneg _ (by decide)]
 omega
theorem AcJ{f h:I3}{g i j k:Int}(ha:f.1≠0)(hd:h.1≠0)(hm:meas f=meas h)(g0:g≠0)(ga:g∣f.1)(gd:g∣h.1)(gs:g∣jS f h)(hB:i*f.1+j*h.1+k*jS f h=g) :
  FA (jP f h g (jB f h g j k)) (jQ f h g)=f∧FB (jP f h g (jB f h g j k)) (jQ f h g)=h∧FC (jP f h g (jB f h g j k)) (jQ f h g)=jF f h g j k:=by
 have hs:=SQ hm
 obtain⟨a,b,c⟩:=f
 obtain⟨d,e,c'⟩:=h
 obtain⟨s,es⟩:∃s,jS (a,b,c) (d,e,c')=s:=⟨_,rfl⟩
 have hm':b*b-4*a*c=e*e-4*d*c':=hm
 unfold jF jP jQ
 have eA:jA (a,b,c) (d,e,c') g=jA (a,b,c) (d,e,c') g:=rfl
 rw[es]at hs gs hB
 unfold jB jA
 rw[es]
 simp only at *
 obtain⟨a1,rfl⟩:=ga
 obtain⟨d1,rfl⟩:=gd
 obtain⟨s1,rfl⟩:=gs
 have fa:(g*a1).fdiv g=a1:=Int.mul_fdiv_cancel_left _ g0
 have fd:(g*d1).fdiv g=d1:=Int.mul_fdiv_cancel_left _ g0
 have fs:(g*s1).fdiv g=s1:=Int.mul_fdiv_cancel_left _ g0
 have fA:(g*a1*(g*d1)).fdiv (g*g)=a1*d1:=by
  have:g*a1*(g*d1)=g*g*(a1*d1):=by grind
  rw[this]
  exact Int.mul_fdiv_cancel_left _ (Int.mul_ne_zero g0 g0)
 rw[fa,fd,fs,fA]
 have a0:a1≠0:=fun z=>ha (by rw[z];simp)
 have d0:d1≠0:=fun z=>hd (by rw[z];simp)
 have one:i*a1+j*d1+k*s1=1:=by
  have:g*(i*a1+j*d1+k*s1)=g*1:=by rw[←hB];grind
  exact Int.eq_of_mul_eq_mul_left g0 this
 have eb:b=2*(g*s1)-e:=by omega
 have key:s1*(g*s1-e)=a1*c-d1*c':=by
  refine Int.eq_of_mul_eq_mul_left (a:=4*g) (by omega) ?_
  have:b*b-e*e=4*(g*a1)*c-4*(g*d1)*c':=by omega
  rw[eb]at this
  grind
 obtain⟨u,eu⟩:∃u,u=j*(g*s1-e)-k*c':=⟨_,rfl⟩
 obtain⟨v,ev⟩:∃v,v=-(i*(g*s1-e))-k*c:=⟨_,rfl⟩
 rw[←eu]
 have uv:u*d1-v*a1=g*s1-e:=by
  have:u*d1-v*a1=(g*s1-e)*(i*a1+j*d1+k*s1)-k*(s1*(g*s1-e)-(a1*c-d1*c')):=by rw[eu,ev];grind
  rw[this,one,key];omega
 have k1:(i*c'+j*c)*d1-v*s1=c:=by
  have:(i*c'+j*c)*d1-v*s1=c*(i*a1+j*d1+k*s1)+i*(s1*(g*s1-e)-(a1*c-d1*c')):=by rw[ev];grind
  rw[this,one,key];omega
 have k2:(i*c'+j*c)*a1-u*s1=c':=by
  have:(i*c'+j*c)*a1-u*s1=c'*(i*a1+j*d1+k*s1)-j*(s1*(g*s1-e)-(a1*c-d1*c')):=by rw[eu];grind
  rw[this,one,key];omega
 obtain⟨M,eM⟩:∃M,(e+2*d1*u).fmod (2*(a1*d1))=e+2*d1*u-2*(a1*d1)*M:=⟨(e+2*d1*u).fdiv (2*(a1*d1)),by rw[Int.fmod_def]⟩
 rw[eM]
 have A0:a1*d1≠0:=Int.mul_ne_zero a0 d0
 have q1:(g*(e-(e+2*d1*u-2*(a1*d1)*M))).fdiv (2*(g*d1))=a1*M-u:=by
  have:g*(e-(e+2*d1*u-2*(a1*d1)*M))=2*(g*d1)*(a1*M-u):=by grind
  rw[this]
  exact Int.mul_fdiv_cancel_left _ (by have:=Int.mul_ne_zero g0 d0;omega)
 have q2:(g*(b-(e+2*d1*u-2*(a1*d1)*M))).fdiv (2*(g*a1))=d1*M-v:=by
  have:g*(b-(e+2*d1*u-2*(a1*d1)*M))=2*(g*a1)*(d1*M-v):=by
   have:g*(b-(e+2*d1*u-2*(a1*d1)*M))=2*(g*a1)*(d1*M-v)+2*g*((g*s1-e)-(u*d1-v*a1)):=by rw[eb];grind
   rw[this,uv];omega
  rw[this]
  exact Int.mul_fdiv_cancel_left _ (by have:=Int.mul_ne_zero g0 a0;omega)
 have q3:(g*(b*e+meas (g*a1,b,c)-2*(e+2*d1*u-2*(a1*d1)*M)*(g*s1))).fdiv (4*(g*a1)*(g*d1))=s1*M-(i*c'+j*c):=by
  have e1:meas (g*a1,b,c)=e*e-4*(g*d1)*c':=hm
  have:g*(b*e+meas (g*a1,b,c)-2*(e+2*d1*u-2*(a1*d1)*M)*(g*s1))=4*(g*a1)*(g*d1)*(s1*M-(i*c'+j*c)):=by
   rw[e1]
   have:g*(b*e+(e*e-4*(g*d1)*c')-2*(e+2*d1*u-2*(a1*d1)*M)*(g*s1))=4*(g*a1)*(g*d1)*(s1*M-(i*c'+j*c))+4*(g*g*d1)*(((i*c'+j*c)*a1-u*s1)-c'):=by rw[eb];grind
   rw[this,k2];omega
  rw[this]
  refine Int.mul_fdiv_cancel_left _ ?_
  have:=Int.mul_ne_zero (Int.mul_ne_zero g0 a0) (Int.mul_ne_zero g0 d0)
  have:4*(g*a1)*(g*d1)=4*(g*a1*(g*d1)):=by grind
  omega
 rw[q1,q2,q3]
 have eB:e+2*d1*u-2*(a1*d1)*M=g*s1-(a1*M-u)*d1-(d1*M-v)*a1:=by
  have:e+2*d1*u-2*(a1*d1)*M=g*s1-(a1*M-u)*d1-(d1*M-v)*a1+((u*d1-v*a1)-(g*s1-e)):=by grind
  rw[this,uv];omega
 have hA:FA (g,a1*M-u,d1*M-v,s1*M-(i*c'+j*c)) (0,a1,d1,s1)=(g*a1,b,c):=by
  simp only[FA,Prod.mk.injEq]
  refine⟨by omega,?_,?_⟩
  ·rw[eb]
   have:g*s1-(s1*M-(i*c'+j*c))*0+(d1*M-v)*a1-(a1*M-u)*d1=g*s1+(u*d1-v*a1):=by grind
   rw[this,uv];omega
  ·have:(d1*M-v)*s1-(s1*M-(i*c'+j*c))*d1=(i*c'+j*c)*d1-v*s1:=by grind
   rw[this,k1]
 have hBf:FB (g,a1*M-u,d1*M-v,s1*M-(i*c'+j*c)) (0,a1,d1,s1)=(g*d1,e,c'):=by
  simp only[FB,Prod.mk.injEq]
  refine⟨by omega,?_,?_⟩
  ·have:g*s1-(s1*M-(i*c'+j*c))*0+(a1*M-u)*d1-(d1*M-v)*a1=g*s1-(u*d1-v*a1):=by grind
   rw[this,uv];omega
  ·have:(a1*M-u)*s1-(s1*M-(i*c'+j*c))*a1=(i*c'+j*c)*a1-u*s1:=by grind
   rw[this,k2]
 refine⟨hA,hBf,?_⟩
 have hC:=(Comp.meas ⟨_,_,hA,hBf,rfl⟩).2
 have e1:(FC (g,a1*M-u,d1*M-v,s1*M-(i*c'+j*c)) (0,a1,d1,s1)).1=a1*d1:=by simp only[FC];omega
 have e2:(FC (g,a1*M-u,d1*M-v,s1*M-(i*c'+j*c)) (0,a1,d1,s1)).2.1=e+2*d1*u-2*(a1*d1)*M:=by rw[eB];simp only[FC];omega
 refine AjF e1 e2 ?_
 generalize FC (g,a1*M-u,d1*M-v,s1*M-(i*c'+j*c)) (0,a1,d1,s1)=Z at *
 obtain⟨z1,z2,z3⟩:=Z
 have e1:z1=a1*d1:=e1
 have e2:z2=e+2*d1*u-2*(a1*d1)*M:=e2
 have hC:z2*z2-4*z1*z3=meas (g*d1,e,c'):=hC
 show z3=_
 rw[←e2,←e1]
 have:z2*z2-meas (g*a1,b,c)=4*z1*z3:=by rw[hm];omega
 rw[this]
 exact(Int.mul_fdiv_cancel_left _ (by rw[e1];omega)).symm
theorem Ac8{p q:I4}(x y z w:Int):val (FC p q) (p.1*(x*z)+p.2.1*(x*w)+p.2.2.1*(y*z)+p.2.2.2*(y*w),q.1*(x*z)+q.2.1*(x*w)+q.2.2.1*(y*z)+q.2.2.2*(y*w))=val (FA p q) (x,y)*val (FB p q) (z,w):=by
 obtain⟨p0,p1,p2,p3⟩:=p;obtain⟨q0,q1,q2,q3⟩:=q
 simp only[FA,FB,FC,val]
 grind
theorem Ago{c:Int}{F:I3}(h1:c∣F.1)(h2:c∣F.2.1)(h3:c∣F.2.2)(v:I2):c∣val F v:=by
 obtain⟨a,ha⟩:=h1
 obtain⟨b,hb⟩:=h2
 obtain⟨d,hd⟩:=h3
 refine⟨a*v.1*v.1+b*v.1*v.2+d*v.2*v.2,?_⟩
 show F.1*v.1*v.1+F.2.1*v.1*v.2+F.2.2*v.2*v.2=_
 rw[ha,hb,hd]
 grind
theorem Comp.plain{f g F:I3}(C:Comp f g F)(pf:g3 f=1)(pg:g3 g=1):g3 F=1:=by
 obtain⟨p,q,hf,hg,hF⟩:=C
 obtain⟨d1,d2,d3⟩:=AcL F
 have D:∀x y z w:Int,(g3 F:Int)∣val f (x,y)*val g (z,w):=fun x y z w=>by
  rw[←hf,←hg,←Ac8 x y z w,hF]
  exact Ago d1 d2 d3 _
 obtain⟨i,j,k,e1⟩:=Xm pf
 obtain⟨l,m,n,e2⟩:=Xm pg
 have v1:val f (1,0)=f.1:=by simp[val]
 have v2:val f (0,1)=f.2.2:=by simp[val]
 have v3:val f (1,1)=f.1+f.2.1+f.2.2:=by simp[val]
 have w1:val g (1,0)=g.1:=by simp[val]
 have w2:val g (0,1)=g.2.2:=by simp[val]
 have w3:val g (1,1)=g.1+g.2.1+g.2.2:=by simp[val]
 have one:(g3 F:Int)∣1:=by
  have E:∀z w:Int,(g3 F:Int)∣val g (z,w):=fun z w=>by
   have a1:=D 1 0 z w
   have a2:=D 0 1 z w
   have a3:=D 1 1 z w
   rw[v1]at a1;rw[v2]at a2;rw[v3]at a3
   obtain⟨b1,h1⟩:=a1
   obtain⟨b2,h2⟩:=a2
   obtain⟨b3,h3⟩:=a3
   refine⟨i*b1+j*(b3-b1-b2)+k*b2,?_⟩
   have:val g (z,w)=(i*f.1+j*f.2.1+k*f.2.2)*val g (z,w):=by rw[e1];omega
   rw[this]
   generalize val g (z,w)=V at *
   have:(i*f.1+j*f.2.1+k*f.2.2)*V=i*(f.1*V)+j*((f.1+f.2.1+f.2.2)*V-f.1*V-f.2.2*V)+k*(f.2.2*V):=by grind
   rw[this,h1,h2,h3]
   grind
  have a1:=E 1 0
  have a2:=E 0 1
  have a3:=E 1 1
  rw[w1]at a1;rw[w2]at a2;rw[w3]at a3
  obtain⟨b1,h1⟩:=a1
  obtain⟨b2,h2⟩:=a2
  obtain⟨b3,h3⟩:=a3
  refine⟨l*b1+m*(b3-b1-b2)+n*b2,?_⟩
  rw[←e2]
  have:l*g.1+m*g.2.1+n*g.2.2=l*g.1+m*((g.1+g.2.1+g.2.2)-g.1-g.2.2)+n*g.2.2:=by grind
  rw[this,h3,h1,h2]
  grind
 have:=Int.eq_one_of_dvd_one (by omega) one
 omega
theorem Aa2{a b c:Int}:Comp (1,b,a*c) (a,b,c) (a,b,c):=by
 have:=Wg (a:=1) (b:=b) (d:=a) (e:=c)
 rw[Int.one_mul,Int.one_mul]at this
 exact this
def r4(t:I4):List Int:=[t.1,t.2.1,t.2.2.1,t.2.2.2]
def Eqv(F G:I3):Prop:=∃t,det t=1∧mov F t=G
theorem Eqv.refl(F:I3):Eqv F F:=⟨(1,0,0,1),by decide,Dy⟩
theorem Comp.eqv{f g F f' g' F':I3}(C:Comp f g F)(hf:Eqv f f')(hg:Eqv g g')(hF:Eqv F F'):Comp f' g' F':=by
 obtain⟨t,dt,rfl⟩:=hf
 obtain⟨u,du,rfl⟩:=hg
 obtain⟨v,dv,rfl⟩:=hF
 exact((C.aeU dt).afu du).afv dv
structure Gd(D:Int)(f:I3):Prop where
 m:meas f=D
 p:g3 f=1
 n:¬Gv D
theorem Adr{U V:I3}(h1:U.1=1)(h2:V.1=1)(m:meas U=meas V):Eqv U V:=by
 obtain⟨a,s,g⟩:=U
 obtain⟨a',b,c⟩:=V
 dsimp only at h1 h2
 subst h1 h2
 have m:s*s-4*1*g=b*b-4*1*c:=m
 have par:∃n,b=s+2*n:=by
  have hp:b % 2=s % 2:=by
   obtain⟨k,hk⟩:∃k,b=2*k+b % 2:=⟨b / 2,by omega⟩
   obtain⟨l,hl⟩:∃k,s=2*k+s % 2:=⟨s / 2,by omega⟩
   rcases(show b % 2=0∨b % 2=1 by omega)with z|z<;>rcases(show s % 2=0∨s % 2=1 by omega)with y|y
   ·omega
   ·rw[z]at hk;rw[y]at hl
    have e1:b*b=4*(k*k):=by rw[hk];grind
    have e2:s*s=4*(l*l+l)+1:=by rw[hl];grind
    omega
   ·rw[z]at hk;rw[y]at hl
    have e1:b*b=4*(k*k+k)+1:=by rw[hk];grind
    have e2:s*s=4*(l*l):=by rw[hl];grind
    omega
   ·omega
  exact⟨b / 2-s / 2,by omega⟩
 obtain⟨n,rfl⟩:=par
 refine⟨(1,n,0,1),by simp[det],?_⟩
 simp only[mov,val,mid,Prod.mk.injEq]
 refine⟨by omega,by grind,?_⟩
 grind
theorem YB{D:Int}{U f:I3}(u1:U.1=1)(um:meas U=D)(fm:meas f=D):Comp U f f:=by
 have:=Aa2 (a:=f.1) (b:=f.2.1) (c:=f.2.2)
 refine this.eqv (Adr rfl u1 ?_) (Eqv.refl _) (Eqv.refl _)
 rw[um,←fm]
 unfold meas
 grind
section
variable{D:Int}{U f:I3}(u1:U.1=1)(um:meas U=D)(hf:Gd D f)
end
def hs(M:Nat):Nat→Nat
 |0=>0
 |i+1=>hs M i+2 ^ (10*(i*i % (4*M)))
def tbL:List Nat:=[1,2,2,2,2,4,2,4,3,4,2,4,2,4,4,4,2,6,2,4,4,4,2,8,5,4,6,4,2,8,2,8,4,4,4,6,2,4,4,8,2,8,2,4,6,4,2,8,7,10,4,4,2,12,4,8,4,4,2,8,2,4,6,8,4,8,2,4,4,8,2,12,2,4,10,4,4,8,2,8,9,4,2,8,4,4,4,8,2,12,4,4,4,4,4,16,2,14,6,10,2,8,2,8,8,4,2,12,2,8,4,8,2,8,4,4,6,4,4,16,11,4,4,4,10,12,2,16,4,8,2,8,4,4,12,8,2,8,2,8,4,4,4,12,4,4,14,4,2,20,2,8,6,8,4,8,2,4,4,16,4,18,2,4,8,4,2,16,13,8,6,4,2,8,10,8,4,4,2,12,2,8,4,8,4,8,4,4,12,8,2,16,2,4,8,14,2,12,2,20,4,4,4,8,4,4,6,8,4,16,2,4,4,4,4,24,4,4,4,8,4,8,2,16,15,4,2,8,2,8,8,8,2,12,4,4,4,8,2,16,2,22,18,4,14,8,4,8,4,20,2,12,4,4,8,16,2,8,4,8,6,4,2,16,4,8,4,4,2,24,2,8,8,4,10,8,2,4,6,16,2,8,2,4,8,8,4,24,17,8,4,4,2,28,4,8,12,4,4,20,4,4,4,8,4,12,2,8,4,8,2,16,2,4,12,4,2,8,4,16,4,8,4,18,10,4,4,8,4,16,2,4,6,4,4,16,2,26,4,8,4,12,14,8,8,4,2,8,2,20,12,16,2,8,4,4,8,4,2,24,19,4,22,8,4,8,2,8,6,8,4,8,2,8,20,8,4,24,2,8,4,4,2,32,8,4,6,4,2,16,4,28,4,4,4,12,2,4,8,20]
def tb(M:Nat):Nat:=tbL.getD (M-1) 0
def lt3(f g:I3):Prop:=f.1<g.1∨(f.1=g.1∧(f.2.1<g.2.1∨(f.2.1=g.2.1∧f.2.2<g.2.2)))
theorem AhH{f:I3}:¬lt3 f f:=by unfold lt3;omega
def Srt(fs:List I3):Prop:=fs.Pairwise lt3
def Rl(far:Int)(f g:I3):Prop:=∃m,rF far m f=g
def PF(n most:Int)(f:I3):Prop:=f.1≠0∧(-most≤f.1∧f.1≤most)∧(-most≤f.2.1∧f.2.1≤most)∧meas f=n∧g3 f=1
end My
namespace My
open PySem L2
local macro_rules | `(tactic| walk_at "sc") => `(tactic| (exact ⟨rfl, rfl, rfl, by decide +kernel, rfl, by decide +kernel, by decide +kernel⟩))
local macro_rules | `(tactic| walk_at "lE") => `(tactic| (exact fun ds Q ⟨p, e, _⟩ => by rw [e]; rfl))
local macro_rules | `(tactic| walk_at "b0") => `(tactic| (intro _ _ _ _ _ _ us hl; exact match us, hl with | [], _ => rfl))
local macro_rules | `(tactic| walk_at "b1") => `(tactic| (intro _ _ _ _ _ _ us hl; exact match us, hl with | [_], _ => rfl))
local macro_rules | `(tactic| walk_at "b2") => `(tactic| (intro _ _ _ _ _ _ us hl; exact match us, hl with | [_, _], _ => rfl))
local macro_rules | `(tactic| walk_at "b3") => `(tactic| (intro _ _ _ _ _ _ us hl; exact match us, hl with | [_, _, _], _ => rfl))
local macro_rules | `(tactic| walk_at "b4") => `(tactic| (intro _ _ _ _ _ _ us hl; exact match us, hl with | [_, _, _, _], _ => rfl))
local macro_rules | `(tactic| walk_at "rd1") => `(tactic| dsimp only [AkK, Amp, RW, Ahk, dIf, Adv, AhB, Ai7, U6, Al0, Aao, AhA, Y4, T9, Al4, Alv, Zg, dIn, dOp, dUn, AeA, dC, dIx, Aob, An0, Api, AoJ, Anu, AoS, AoF, AoG, Ak5, AkA, Ani, Aj8, Alp, Al2, Ak2, Apm, dI, dI0, dB0, dLt, dLe, dGt, dGe, dEq, dNe, dIs, Apa, AkD, dOr, AfE, UG, Ahr, Ahh, Am4, AoW, AfA, Ag6, dTup, AlS, dCall, dCB, AbG, AcG, Ad1, AoQ, Alx, Aok, Ah4, Z9, Ahm, Ry, Aak, Ld, inner, Ahj, Akm, AdD, Acu, AiH, Ahu, dOf, Ag3, Zo, Ag1, AiR, Acs, Aer, Ahl, Aml, Ady, AgV, Ahi, AbE, AdC, Alr, Om, Ac9, Wm, AmU, AgP, Ag5, Amg, AoR, Aki, Ahd, Al3, AkL, ownAt, Ak1, AiP, AjS, Ajs, Ac6, AiN, Ab6, QF, AgQ, AoV, Aea, Ado, Anc, AoP, Ad0, Z8, Z5, Ahg, Ahx,
 List.length_cons,List.length_nil,List.getElem?_cons_zero,List.getElem?_cons_succ,List.set_cons_zero,List.set_cons_succ,Nat.reduceAdd,List.map_cons,List.map_nil,Option.join_some])
local macro_rules | `(tactic| walk_at "rd2") => `(tactic| simp only [AmH, Al1, Amf, Amc, Ait, Ang, Ak4, Am1, Akc, Am3, AlC, Apl, Aot, ApV, An1, ApQ, AnY, Ajq, AhF, Aik, AiO, AhD, AhK, Ajh, Aj3, AjH, AiX, K6, Ahy, K5, AhC, Ame, AmP, AlE, V9, Ag2, Qd, Qs, Ah7, AhO, Ig, Ac4, AdO, Mz, Zi, Afo, AgM, Afa, Ks, Kw, if_true, if_false, Bool.and_true, Bool.true_and, Bool.false_and, Bool.and_false, Bool.not_true, Bool.not_false, Bool.false_eq_true, true_and, and_true, ite_true, ite_false, List.length_map])
local macro_rules | `(tactic| walk_at "rd") => `(tactic| ((try walk_at "rd1"); (try walk_at "rd2")))
local macro_rules | `(tactic| walk_at "go") => `(tactic| ((try simp only [Wq, V4, Wj]); walk_at "rd"))
local macro_rules | `(tactic| walk_at "bts") => `(tactic| first | assumption | (with_reducible apply Bt.mul<;>walk_at "bts") | (with_reducible apply Bt.add<;>walk_at "bts") | (with_reducible apply Bt.sub<;>walk_at "bts") | (with_reducible apply Bt.neg<;>walk_at "bts") | exact Bt.aA (n := 1) (by decide) | exact Bt.aA (n := 8) (by decide) | exact Bt.aA (n := 400) (by decide))
local macro_rules | `(tactic| walk_at "bt") => `(tactic| exact Bt.le (by walk_at "bts") (by decide))
local macro_rules | `(tactic| walk_at "mul") => `(tactic| exact Bt.aJ (by walk_at "bts") (by walk_at "bts") (by decide) (by decide))
local macro_rules | `(tactic| walk_at "muls") => `(tactic| repeat (refine ⟨by first | walk_at "mul" | exact Ay (by decide) | decide | exact ⟨by decide, by decide⟩, ?_⟩))
def top(i:Nat):Stmt:=PySem.Challenge.pw_formcycle_k49_no_product.main.body.getD i (.Pass ⟨0,0,0,0⟩)
abbrev HB:Stmt:=top 15
theorem Jx:Ak ["one","other","rest"] ["one","other"] (Ag HB):=by walk_at "sc"
abbrev Jo:Stmt:=top 16
theorem Hz:Ak ["one","other","row","lower","rest"] ["one","other"] (Ag Jo):=by walk_at "sc"
abbrev GJ:Stmt:=top 17
theorem Wa:Ak ["row","lower","often"] ["row","lower","often"] (Ag GJ):=by walk_at "sc"
abbrev JB:Stmt:=top 18
theorem Ml:Ak ["number","guess","better"] ["number"] (Ag JB):=by walk_at "sc"
abbrev Ey:Stmt:=top 19
theorem M5:Ak ["number","side"] ["number"] (Ag Ey):=by walk_at "sc"
abbrev NZ:Stmt:=top 20
abbrev Cz:Stmt:=top 21
theorem Ob:Ak ["number","most"] ["number","most"] (Ag Cz):=by walk_at "sc"
abbrev Cu:Stmt:=top 22
theorem Pg:Ak ["number","most"] ["number","most"] (Ag Cu):=by walk_at "sc"
abbrev HN:Stmt:=top 25
theorem X7:Ak ["turn"] ["turn"] (Ag HN):=by walk_at "sc"
abbrev Di:Stmt:=top 26
theorem RV:Ak ["turn"] ["turn"] (Ag Di):=by walk_at "sc"
abbrev Tv:Stmt:=top 27
theorem Ai4:Ak ["turn","point"] ["turn","point"] (Ag Tv):=by walk_at "sc"
abbrev DY:Stmt:=top 28
theorem Sw:Ak ["one","other"] ["one","other"] (Ag DY):=by walk_at "sc"
abbrev Np:Stmt:=top 29
theorem AgH:Ak ["turn"] ["turn"] (Ag Np):=by walk_at "sc"
abbrev Dg:Stmt:=top 31
theorem Xr:Ak ["form"] ["form"] (Ag Dg):=by walk_at "sc"
abbrev Kz:Stmt:=top 32
theorem Qk:Ak ["form","point","x","y"] ["form","point"] (Ag Kz):=by walk_at "sc"
abbrev Gz:Stmt:=top 33
theorem XM:Ak ["form"] ["form"] (Ag Gz):=by walk_at "sc"
abbrev JK:Stmt:=top 34
theorem QJ:Ak ["form","turn","left","right"] ["form","turn"] (Ag JK):=by walk_at "sc"
abbrev Jl:Stmt:=top 35
theorem S9:Ak ["form","left","right","crossed"] ["form","left","right"] (Ag Jl):=by walk_at "sc"
abbrev LC:Stmt:=top 36
abbrev Iu:Stmt:=top 37
theorem Wx:Ak ["form","number"] ["form"] (Ag Iu):=by walk_at "sc"
abbrev Fb:Stmt:=top 39
theorem RJ:Ak ["form"] ["form"] (Ag Fb):=by walk_at "sc"
abbrev CT:Stmt:=top 40
theorem FQ:Ak ["form","a","b","c"] ["form"] (Ag CT):=by walk_at "sc"
abbrev HD:Stmt:=top 41
theorem HX:Ak ["form","turn","lowering"] ["form"] (Ag HD):=by walk_at "sc"
abbrev Ft:Stmt:=top 42
theorem KN:Ak ["form","often"] ["form"] (Ag Ft):=by walk_at "sc"
abbrev Ce:Stmt:=top 45
theorem Pb:Ak ["form"] ["form"] (Ag Ce):=by walk_at "sc"
abbrev Dw:Stmt:=top 46
theorem JW:Ak ["form","far","b"] ["form","far"] (Ag Dw):=by walk_at "sc"
abbrev Eh:Stmt:=top 47
theorem Gm:Ak ["form","top","b","c","d"] ["form","top"] (Ag Eh):=by walk_at "sc"
abbrev Dp:Stmt:=top 48
theorem J8:Ak ["stop","top","turn"] ["stop","top"] (Ag Dp):=by walk_at "sc"
abbrev Ku:Stmt:=top 49
theorem M4:Ak ["form","far","stop"] ["form"] (Ag Ku):=by walk_at "sc"
abbrev Ei:Stmt:=top 50
theorem Ds:Ak ["form","far","first","stops","stop"] ["form"] (Ag Ei):=by walk_at "sc"
abbrev LQ:Stmt:=top 51
abbrev Hy:Stmt:=top 52
theorem XH:Ak ["form"] ["form"] (Ag Hy):=by walk_at "sc"
abbrev CG:Stmt:=top 57
theorem V2:Ak ["form"] ["form"] (Ag CG):=by walk_at "sc"
abbrev GP:Stmt:=top 58
theorem VD:Ak ["form"] ["form"] (Ag GP):=by walk_at "sc"
abbrev Dv:Stmt:=top 60
theorem JN:Ak ["one","other","common","form","lowest"] ["one","other"] (Ag Dv):=by walk_at "sc"
abbrev Fv:Stmt:=top 61
theorem Ja:Ak ["one","other","first","second"] ["one","other"] (Ag Fv):=by walk_at "sc"
abbrev CJ:Stmt:=top 62
theorem Qp:Ak ["form"] ["form"] (Ag CJ):=by walk_at "sc"
abbrev BP:Stmt:=top 63
theorem Lp:Ak ["one","other"] ["one","other"] (Ag BP):=by walk_at "sc"
abbrev Dh:Stmt:=top 64
theorem GD:Ak ["one","other","firsts","whole"] ["one","other"] (Ag Dh):=by walk_at "sc"
abbrev Fe:Stmt:=top 65
theorem Dr:Ak ["one","other","common","g","d","e","first","more","middle"] ["one","other","common"] (Ag Fe):=by walk_at "sc"
abbrev Fo:Stmt:=top 66
theorem CN:Ak ["one","other","g","middle","a","b","d","e","s","last","upper"] ["one","other","g","middle"] (Ag Fo):=by walk_at "sc"
abbrev DN:Stmt:=top 67
theorem Ot:Ak ["turn","rows","pairs"] ["turn","rows"] (Ag DN):=by walk_at "sc"
abbrev Cj:Stmt:=top 70
theorem Oc:Ak ["number"] ["number"] (Ag Cj):=by walk_at "sc"
abbrev Jb:Stmt:=top 71
theorem Aal:Ak ["number","middle"] ["number"] (Ag Jb):=by walk_at "sc"
abbrev Ef:Stmt:=top 72
theorem YD:Ak ["number"] ["number"] (Ag Ef):=by walk_at "sc"
abbrev Dn:Stmt:=top 73
theorem Ql:Ak ["number"] ["number"] (Ag Dn):=by walk_at "sc"
abbrev Hf:Stmt:=top 74
abbrev Dq:Stmt:=top 75
theorem Gk:Ak ["number","most","found","a","b"] ["number","most"] (Ag Dq):=by walk_at "sc"
abbrev GZ:Stmt:=top 76
theorem Ws:Ak ["number","forms"] ["number"] (Ag GZ):=by walk_at "sc"
abbrev CQ:Stmt:=top 77
theorem O9:Ak ["forms","one"] ["forms","one"] (Ag CQ):=by walk_at "sc"
abbrev Cy:Stmt:=top 78
theorem Ny:Ak ["one","other"] ["one","other"] (Ag Cy):=by walk_at "sc"
abbrev Ko:Stmt:=top 79
theorem WW:Ak ["form","count","whole"] ["form","count"] (Ag Ko):=by walk_at "sc"
abbrev DX:Stmt:=top 80
theorem DK:Ak ["form","whole","first","lowest","came","count"] ["form"] (Ag DX):=by walk_at "sc"
abbrev GX:Stmt:=top 82
theorem Wl:Ak ["_law_way","_law_forms_here","_law_number_here"] ["_law_way","_law_forms_here","_law_number_here"] (Ag GX):=by walk_at "sc"
abbrev Gb:Stmt:=top 83
theorem Ht:Ak ["_law_way","_law_forms_here","_law_number_here","_law_told_here","e"] ["_law_way","_law_forms_here","_law_number_here"] (Ag Gb):=by walk_at "sc"
abbrev Fj:Stmt:=top 84
theorem Jc:Ak ["_law_told_here","_law_found","_law_others"] ["_law_told_here"] (Ag Fj):=by walk_at "sc"
abbrev Fd:Stmt:=top 85
theorem RT:Ak ["_law_told_here"] ["_law_told_here"] (Ag Fd):=by walk_at "sc"
abbrev Ea:Stmt:=top 86
theorem WL:Ak ["_law_at","_law_field_here"] ["_law_at","_law_field_here"] (Ag Ea):=by walk_at "sc"
abbrev DQ:Stmt:=top 87
theorem Ec:Ak ["_law_far","_law_dome","_law_flat","_law_wide","_law_bowl","_law_thick"] ["_law_far"] (Ag DQ):=by walk_at "sc"
abbrev GR:Stmt:=top 88
theorem Gf:Ak ["_law_kind","_law_far","_law_dome","_law_flat","_law_wide","_law_bowl","_law_thick"] ["_law_kind","_law_far"] (Ag GR):=by walk_at "sc"
abbrev Gw:Stmt:=top 89
theorem Dz:Ak ["_law_kind","_law_far","_law_way","_law_dome","_law_flat","_law_wide","_law_bowl","_law_thick","_law_low"] ["_law_kind","_law_far","_law_way"] (Ag Gw):=by walk_at "sc"
abbrev Ed:Stmt:=top 90
theorem Qa:Ak ["_law_kind","_law_far","_law_most"] ["_law_kind","_law_far","_law_most"] (Ag Ed):=by walk_at "sc"
abbrev Df:Stmt:=top 91
theorem Fp:Ak ["_law_way","_law_kind","_law_far","_law_most","_law_number_here","_law_at"] ["_law_way","_law_kind","_law_far"] (Ag Df):=by walk_at "sc"
abbrev Fg:Stmt:=top 92
theorem KY:Ak ["_law_last"] [] (Ag Fg):=by walk_at "sc"
abbrev M7:Stmt:=top 93
theorem Gs:Ak ["_law_script","_law_cell","_law_way","_law_far","_law_forms_here","_law_number_here","_law_due_here","_law_told_here"] ["_law_script"] (Ag M7):=by walk_at "sc"
abbrev Gx:Stmt:=inClass (top 4) 0
theorem Vm:Ak ["self","form"] ["self","form"] (Ag Gx):=by walk_at "sc"
abbrev FZ:Stmt:=inClass (top 5) 0
theorem Uz:Ak ["self","number","most"] ["self","number","most"] (Ag FZ):=by walk_at "sc"
abbrev Ge:Stmt:=inClass (top 10) 0
theorem Ux:Ak ["self","form"] ["self","form"] (Ag Ge):=by walk_at "sc"
abbrev Fq:Stmt:=inClass (top 11) 0
theorem RZ:Ak ["self","number"] ["self","number"] (Ag Fq):=by walk_at "sc"
abbrev Jr:Stmt:=inClass (top 54) 0
theorem AaU:Ak ["self","form","lowest"] ["self","form","lowest"] (Ag Jr):=by walk_at "sc"
abbrev KH:Stmt:=inClass (top 55) 0
theorem Ad3:Ak ["self","form"] ["self","form"] (Ag KH):=by walk_at "sc"
abbrev HF:Stmt:=inClass (top 56) 0
theorem Yj:Ak ["self","form"] ["self","form"] (Ag HF):=by walk_at "sc"
abbrev Jv:Stmt:=inClass (top 54) 1
theorem Abf:Ak ["self"] ["self"] (Ag Jv):=by walk_at "sc"
structure Txt(K:W.Frag)(mg:Str→Option Value):Prop where
 aaI:∃C U,XT K mg "Apart" C (.ref U::bmV)∧XC K C U
 jx:Under K mg "Apart" "FormError"
 yq:∃C U fI fd,XRT K mg "NoShape" ["form"] "NoShape.__init__" Gx C U fI fd ["self","form"]
 iV:Under K mg "NoShape" "FormError"
 bC:HY K "NoShape" "form"
 uQ:∃C U fI fd,XRT K mg "TooGreat" ["number","most"] "TooGreat.__init__" FZ C U fI fd ["self","number","most"]
 gq:Under K mg "TooGreat" "FormError"
 aU:HY K "TooGreat" "number"
 aZ:HY K "TooGreat" "most"
 uR:∃C U fI fd,XRT K mg "NotPlain" ["form"] "NotPlain.__init__" Ge C U fI fd ["self","form"]
 gw:Under K mg "NotPlain" "FormError"
 bw:HY K "NotPlain" "form"
 uw:∃C U fI fd,XRT K mg "NoMeasure" ["number"] "NoMeasure.__init__" Fq C U fI fd ["self","number"]
 fJ:Under K mg "NoMeasure" "FormError"
 aQ:HY K "NoMeasure" "number"
 adK:∃C f fd,MkC K mg "Bowl" ["form","measure","lowest"] C f∧Fun K "__init__" "Bowl.__init__" KH f fd∧Binds K fd ["self","form"] []
 aev:IsC K "Bowl"
 yU:HY K "Bowl" "form"
 lV:HY K "Bowl" "measure"
 jy:HY K "Bowl" "lowest"
 aaJ:∃C f fd,MkC K mg "Saddle" ["form","measure","lowest"] C f∧Fun K "__init__" "Saddle.__init__" HF f fd∧Binds K fd ["self","form"] []
 acX:IsC K "Saddle"
 uT:HY K "Saddle" "form"
 jT:HY K "Saddle" "measure"
 gA:HY K "Saddle" "lowest"
 aaK:∃g fd,V8 K mg "Shape" "__init__" g∧Fun K "__init__" "Shape.__init__" Jr g fd∧Binds K fd ["self","form","lowest"] []
 aaL:∃g fd,(∀c∈(["Bowl","Saddle"]:List Str),Zx K c "least" g)∧W.keepIn K (.ref g)=true∧Fun K "least" "Shape.least" Jv g fd∧Binds K fd ["self"] []
 jU:∃U,XU K mg "FormError" U
 uU:∃A,mg "NoAnswer"=some (.ref A)∧Bd K "NoShape" A false∧Bd K "TooGreat" A false∧Bd K "NotPlain" A false∧Bd K "NoMeasure" A false∧Bd K "Apart" A false
 aaM:∃A,mg "NoRoot"=some (.ref A)∧Bd K "NoShape" A false∧Bd K "TooGreat" A false∧Bd K "NotPlain" A false∧Bd K "NoMeasure" A false∧Bd K "Apart" A false
 aaN:∃A,mg "NoTurn"=some (.ref A)∧Bd K "NoShape" A false∧Bd K "TooGreat" A false∧Bd K "NotPlain" A false∧Bd K "NoMeasure" A false∧Bd K "Apart" A false
 uV:∃A,mg "NotLevel"=some (.ref A)∧Bd K "NoShape" A false∧Bd K "TooGreat" A false∧Bd K "NotPlain" A false∧Bd K "NoMeasure" A false∧Bd K "Apart" A false
 aaO:∃A,mg "NotOwn"=some (.ref A)∧Bd K "NoShape" A false∧Bd K "TooGreat" A false∧Bd K "NotPlain" A false∧Bd K "NoMeasure" A false∧Bd K "Apart" A false
 aaP:∃A,mg "Nought"=some (.ref A)∧Bd K "NoShape" A false∧Bd K "TooGreat" A false∧Bd K "NotPlain" A false∧Bd K "NoMeasure" A false∧Bd K "Apart" A false
 sU:∃A,mg "NoShape"=some (.ref A)∧Bd K "NoShape" A true∧Bd K "TooGreat" A false∧Bd K "NotPlain" A false∧Bd K "NoMeasure" A false∧Bd K "Apart" A false
 pN:∃A,mg "TooGreat"=some (.ref A)∧Bd K "NoShape" A false∧Bd K "TooGreat" A true∧Bd K "NotPlain" A false∧Bd K "NoMeasure" A false∧Bd K "Apart" A false
 acL:∃A,mg "Apart"=some (.ref A)∧Bd K "NoShape" A false∧Bd K "TooGreat" A false∧Bd K "NotPlain" A false∧Bd K "NoMeasure" A false∧Bd K "Apart" A true
 pP:∃A,mg "NotPlain"=some (.ref A)∧Bd K "NoShape" A false∧Bd K "TooGreat" A false∧Bd K "NotPlain" A true∧Bd K "NoMeasure" A false∧Bd K "Apart" A false
 mK:∃A,mg "NoMeasure"=some (.ref A)∧Bd K "NoShape" A false∧Bd K "TooGreat" A false∧Bd K "NotPlain" A false∧Bd K "NoMeasure" A true∧Bd K "Apart" A false
 cW:mg "ValueError"=none
 yt:∃f fd,FnT K mg "divisor" HB ["one","other"] f fd
 aaQ:∃f fd,FnT K mg "shares" Jo ["one","other"] f fd
 uW:∃f fd,FnT K mg "row_less" GJ ["row","lower","often"] f fd
 adL:∃f fd,FnT K mg "root" JB ["number"] f fd
 ux:∃f fd,FnT K mg "is_square" Ey ["number"] f fd
 acY:∃f fd,FnT K mg "powered" NZ ["thing","count","put","first"] f fd
 lW:∃f fd,FnT K mg "check_at_most" Cz ["number","most"] f fd
 mL:∃f fd,FnT K mg "check_within" Cu ["number","most"] f fd
 yu:∃f fd,FnT K mg "is_turn" HN ["turn"] f fd
 qW:∃f fd,FnT K mg "check_turn" Di ["turn"] f fd
 aeJ:∃f fd,FnT K mg "led" Tv ["turn","point"] f fd
 qX:∃f fd,FnT K mg "put_behind" DY ["one","other"] f fd
 adM:∃f fd,FnT K mg "back" Np ["turn"] f fd
 yw:∃f fd,FnT K mg "measure" Dg ["form"] f fd
 acM:∃f fd,FnT K mg "value" Kz ["form","point"] f fd
 yx:∃f fd,FnT K mg "content" Gz ["form"] f fd
 acN:∃f fd,FnT K mg "moved" JK ["form","turn"] f fd
 aaR:∃f fd,FnT K mg "middle" Jl ["form","left","right"] f fd
 abM:∃f fd,FnT K mg "opposite" LC ["form"] f fd
 acO:∃f fd,FnT K mg "shape" Iu ["form"] f fd
 qY:∃f fd,FnT K mg "check_bowl" Fb ["form"] f fd
 mQ:∃f fd,FnT K mg "stands_least" CT ["form"] f fd
 yC:∃f fd,FnT K mg "settled" HD ["form"] f fd
 qZ:∃f fd,FnT K mg "turn_lower" Ft ["form"] f fd
 mR:∃f fd,FnT K mg "check_saddle" Ce ["form"] f fd
 mU:∃f fd,FnT K mg "stands_level" Dw ["form","far"] f fd
 pq:∃f fd,FnT K mg "turn_behind" Eh ["form","top"] f fd
 pA:∃f fd,FnT K mg "stop_behind" Dp ["stop","top"] f fd
 acP:∃f fd,FnT K mg "eased" Ku ["form"] f fd
 pB:∃f fd,FnT K mg "stops_round" Ei ["form"] f fd
 abN:∃f fd,FnT K mg "round_of" LQ ["form"] f fd
 yD:∃f fd,FnT K mg "lowered" Hy ["form"] f fd
 uX:∃f fd,FnT K mg "shape_of" CG ["form"] f fd
 uY:∃f fd,FnT K mg "least_of" GP ["form"] f fd
 yE:∃f fd,FnT K mg "product" Dv ["one","other"] f fd
 q9:∃f fd,FnT K mg "check_pair" Fv ["one","other"] f fd
 pC:∃f fd,FnT K mg "check_plain" CJ ["form"] f fd
 jV:∃f fd,FnT K mg "half_of_middles" BP ["one","other"] f fd
 lX:∃f fd,FnT K mg "common_shares" Dh ["one","other"] f fd
 rz:∃f fd,FnT K mg "joint_form" Fe ["one","other","common"] f fd
 rA:∃f fd,FnT K mg "joint_rows" Fo ["one","other","g","middle"] f fd
 uZ:∃f fd,FnT K mg "rows_led" DN ["turn","rows"] f fd
 lY:∃f fd,FnT K mg "check_measure" Cj ["number"] f fd
 adN:∃f fd,FnT K mg "unit" Jb ["number"] f fd
 yF:∃f fd,FnT K mg "classes" Ef ["number"] f fd
 pD:∃f fd,FnT K mg "least_bowls" Dn ["number"] f fd
 uH:∃f fd,FnT K mg "least_saddles" Hf ["number"] f fd
 pG:∃f fd,FnT K mg "plain_forms" Dq ["number","most"] f fd
 acQ:∃f fd,FnT K mg "table" GZ ["number"] f fd
 mV:∃f fd,FnT K mg "row_of_table" CQ ["forms","one"] f fd
 lZ:∃f fd,FnT K mg "least_product" Cy ["one","other"] f fd
 acR:∃f fd,FnT K mg "power" Ko ["form","count"] f fd
 u5:∃f fd,FnT K mg "order_of" DX ["form"] f fd
 u6:∃f fd,FnT K mg "_law_ask" GX ["_law_way","_law_forms_here","_law_number_here"] f fd
 uy:∃f fd,FnT K mg "_law_told" Gb ["_law_way","_law_forms_here","_law_number_here"] f fd
 rB:∃f fd,FnT K mg "_law_kinds" Fj ["_law_told_here"] f fd
 rC:∃f fd,FnT K mg "_law_field" Fd ["_law_told_here"] f fd
 u9:∃f fd,FnT K mg "_law_due" Ea ["_law_at","_law_field_here"] f fd
 rD:∃f fd,FnT K mg "_law_forms" DQ ["_law_far"] f fd
 vd:∃f fd,FnT K mg "_law_two" GR ["_law_kind","_law_far"] f fd
 vf:∃f fd,FnT K mg "_law_one" Gw ["_law_kind","_law_far","_law_way"] f fd
 pH:∃f fd,FnT K mg "_law_number" Ed ["_law_kind","_law_far","_law_most"] f fd
 mj:∃f fd,FnT K mg "_law_numbered" Df ["_law_way","_law_kind","_law_far"] f fd
 rE:∃f fd,FnT K mg "_law_edges" Fg [] f fd
 aeK:∃f fd,FnT K mg "law" M7 ["_law_script"] f fd
 aH:∃t,mg "MOST_MEASURE"=some (.int (4000) t)
 dU:∃t,mg "MOST_OF_TABLE"=some (.int (400) t)
 pI:mg "abs"=none
 aK:mg "isinstance"=none
 vg:mg "len"=none
 yG:mg "max"=none
 yH:mg "min"=none
 jW:mg "range"=none
 kE:mg "tuple"=none
 yI:mg "zip"=none
 abO:∃a,mg "SAME"=some (.ref a)∧∀H,Rp K H (.tup [.int (1),.int (0),.int (0),.int (1)]) (.ref a)
theorem AaZ{P:Program}{w:World}{K:W.Frag}{mg:Str→Option Value}{base:Heap}(T:Txt K mg):∃C U fI fd,XR P w K mg base 1 "NoShape" ["form"] C U fI fd ["self","form"]:=by
 obtain⟨C,U,fI,fd,R⟩:=T.yq
 refine⟨C,U,fI,fd,XRT.mk1 R (R.fn.ok Vm (fun vs H Q E ⟨a,ys,e,l,_⟩=>by rw[e];simpa using l) fun cdv A outer s H vs Q E hr ⟨a,ys,e,l,ha,q⟩=>?_)⟩
 subst e
 obtain⟨y,rfl⟩:∃y,ys=[y]:=List.length_eq_one_iff.mp l
 exact⟨_,Hs (Z4 R.xc (R.tk _ (by simp)) (pv 0) (pv 1)),y,rfl,.ref a,rfl,a,rfl,ha,fun dx h1 h2=>q dx h1 h2⟩
theorem QV{P:Program}{w:World}{K:W.Frag}{mg:Str→Option Value}{base:Heap}(T:Txt K mg):∃C U fI fd,XR P w K mg base 1 "TooGreat" ["number","most"] C U fI fd ["self","number","most"]:=by
 obtain⟨C,U,fI,fd,R⟩:=T.uQ
 refine⟨C,U,fI,fd,XRT.mk1 R (R.fn.ok Uz (fun vs H Q E ⟨a,ys,e,l,_⟩=>by rw[e];simpa using l) fun cdv A outer s H vs Q E hr ⟨a,ys,e,l,ha,q⟩=>?_)⟩
 subst e
 match ys,l with
 | [y,z],_=>exact⟨_,J1 (Z4 R.xc (R.tk _ (by simp)) (pv 0) (pv 1)) (Hs (Amr R.xc (R.tk _ (by simp)) (pv 0) (pv 2))),y,rfl,.ref a,rfl,a,rfl,ha,fun dx h1 h2=>⟨z,rfl,.ref a,rfl,a,dx,_,rfl,Aw,(by rw[Am h2,Aw]),(by show 1≤1000;decide),rfl,by rw[AbO h2];exact q dx h1 h2⟩⟩
theorem XD{P:Program}{w:World}{K:W.Frag}{mg:Str→Option Value}{base:Heap}(T:Txt K mg):∃C U fI fd,XR P w K mg base 1 "NotPlain" ["form"] C U fI fd ["self","form"]:=by
 obtain⟨C,U,fI,fd,R⟩:=T.uR
 refine⟨C,U,fI,fd,XRT.mk1 R (R.fn.ok Ux (fun vs H Q E ⟨a,ys,e,l,_⟩=>by rw[e];simpa using l) fun cdv A outer s H vs Q E hr ⟨a,ys,e,l,ha,q⟩=>?_)⟩
 subst e
 obtain⟨y,rfl⟩:∃y,ys=[y]:=List.length_eq_one_iff.mp l
 exact⟨_,Hs (Z4 R.xc (R.tk _ (by simp)) (pv 0) (pv 1)),y,rfl,.ref a,rfl,a,rfl,ha,fun dx h1 h2=>q dx h1 h2⟩
theorem WQ{P:Program}{w:World}{K:W.Frag}{mg:Str→Option Value}{base:Heap}(T:Txt K mg):∃C U fI fd,XR P w K mg base 1 "NoMeasure" ["number"] C U fI fd ["self","number"]:=by
 obtain⟨C,U,fI,fd,R⟩:=T.uw
 refine⟨C,U,fI,fd,XRT.mk1 R (R.fn.ok RZ (fun vs H Q E ⟨a,ys,e,l,_⟩=>by rw[e];simpa using l) fun cdv A outer s H vs Q E hr ⟨a,ys,e,l,ha,q⟩=>?_)⟩
 subst e
 obtain⟨y,rfl⟩:∃y,ys=[y]:=List.length_eq_one_iff.mp l
 exact⟨_,Hs (Z4 R.xc (R.tk _ (by simp)) (pv 0) (pv 1)),y,rfl,.ref a,rfl,a,rfl,ha,fun dx h1 h2=>q dx h1 h2⟩
abbrev Q9:DSp:=CV (fun t:I4=>[t4 t]) (B4 300000) fun t=>.bl (decide (det t=1))
abbrev G3:DSp:=CV (fun t:I4=>[t4 t]) (fun t=>B4 300000 t∧det t=1) fun _=>.non
abbrev Adw:DSp:=CV (fun p:I4×I2=>[t4 p.1,t2 p.2]) (fun p=>B4 300000 p.1∧det p.1=1∧B2 300000 p.2) fun p=>t2 (Io p.1 p.2)
abbrev Je:DSp:=CV (fun p:I4×I4=>[t4 p.1,t4 p.2]) (fun p=>B4 400000 p.1∧B4 400000 p.2) fun p=>t4 (Aq p.1 p.2)
abbrev AaH:DSp:=CV (fun t:I4=>[t4 t]) (fun t=>B4 300000 t∧det t=1) fun t=>t4 (Ax t)
section
variable(P:Program)(w:World){K:W.Frag}{mg:Str→Option Value}(base:Heap)
theorem YH(T:Txt K mg)
  : Pm P w K mg base 1 "is_turn" HN ["turn"] Q9:=by
 obtain⟨f,fd,F⟩:=T.yu
 refine⟨f,fd,F,F.fn.okD X7 (by walk_at "lE") fun cdv A outer s H E hr=>⟨_,(Ai (Aj (SN hr.units (BR (Al (Ad (dv 0) Ab) (Ad (dv 0) Ab)) (Al (Ad (dv 0) Ab) (Ad (dv 0) Ab))) Ab))),fun ds Q h=>?_⟩⟩
 obtain⟨⟨a,b,c,d⟩,rfl,⟨ha,hb,hc,hd⟩,q⟩:=h
 walk_at "go"
 exact⟨by walk_at "mul",by walk_at "mul",q _ rfl⟩
theorem RX(T:Txt K mg)
  (acZ:Pm P w K mg base 1 "is_turn" HN ["turn"] Q9)
  : Pm P w K mg base 2 "check_turn" Di ["turn"] G3:=by
 obtain⟨f,fd,F⟩:=T.qW
 refine⟨f,fd,F,F.fn.okD RV (by walk_at "lE") fun cdv A outer s H E hr=>⟨_,(Ai (Bw (Va (Jz (Ah Af acZ (hr.mono (by decide)) rfl (Aa (dv 0) Ac)))) (Ai Jj) Bc)),fun ds Q h=>?_⟩⟩
 obtain⟨t,rfl,⟨hb,hd⟩,q⟩:=h
 walk_at "go"
 refine Ar t hb ?_
 walk_at "rd"
 rw[decide_eq_true hd]
 exact q _ rfl
theorem AjB(T:Txt K mg)
  (fK:Pm P w K mg base 2 "check_turn" Di ["turn"] G3)
  : Pm P w K mg base 3 "led" Tv ["turn","point"] Adw:=by
 obtain⟨f,fd,F⟩:=T.aeJ
 refine⟨f,fd,F,F.fn.okD Ai4 (by walk_at "lE") fun cdv A outer s H E hr=>⟨_,(Ae (M6 (Ah Af fK (hr.mono (by decide)) rfl (Aa (dv 0) Ac))) (Ai (Aj (Bf (Aa (Bm (Al (Ad (dv 0) Ab) (Ad (dv 1) Ab)) (Al (Ad (dv 0) Ab) (Ad (dv 1) Ab))) (Aa (Bm (Al (Ad (dv 0) Ab) (Ad (dv 1) Ab)) (Al (Ad (dv 0) Ab) (Ad (dv 1) Ab))) Ac)))))),fun ds Q h=>?_⟩⟩
 obtain⟨⟨⟨a,b,c,d⟩,x,y⟩,rfl,⟨hb,hd,hx,hy⟩,q⟩:=h
 walk_at "go"
 refine Ar (a,b,c,d) ⟨hb,hd⟩ ?_
 obtain⟨ha,hb,hc,hd⟩:=hb
 exact⟨by walk_at "mul",by walk_at "mul",by walk_at "mul",by walk_at "mul",Ay (by decide),q _ rfl⟩
theorem RM(T:Txt K mg)
  : Pm P w K mg base 1 "put_behind" DY ["one","other"] Je:=by
 obtain⟨f,fd,F⟩:=T.qX
 refine⟨f,fd,F,F.fn.okD Sw (by walk_at "lE") fun cdv A outer s H E hr=>⟨_,(Ai (Aj (Bf (Aa (Bm (Al (Ad (dv 0) Ab) (Ad (dv 1) Ab)) (Al (Ad (dv 0) Ab) (Ad (dv 1) Ab))) (Aa (Bm (Al (Ad (dv 0) Ab) (Ad (dv 1) Ab)) (Al (Ad (dv 0) Ab) (Ad (dv 1) Ab))) (Aa (Bm (Al (Ad (dv 0) Ab) (Ad (dv 1) Ab)) (Al (Ad (dv 0) Ab) (Ad (dv 1) Ab))) (Aa (Bm (Al (Ad (dv 0) Ab) (Ad (dv 1) Ab)) (Al (Ad (dv 0) Ab) (Ad (dv 1) Ab))) Ac))))))),fun ds Q h=>?_⟩⟩
 obtain⟨⟨⟨a,b,c,d⟩,e,f,g,i⟩,rfl,⟨⟨ha,hb,hc,hd⟩,he,hf,hg,hi⟩,q⟩:=h
 walk_at "go"
 exact⟨by walk_at "mul",by walk_at "mul",by walk_at "mul",by walk_at "mul",by walk_at "mul",by walk_at "mul",by walk_at "mul",by walk_at "mul",Ay (by decide),q _ rfl⟩
theorem Afz(T:Txt K mg)
  (fK:Pm P w K mg base 2 "check_turn" Di ["turn"] G3)
  : Pm P w K mg base 3 "back" Np ["turn"] AaH:=by
 obtain⟨f,fd,F⟩:=T.adM
 refine⟨f,fd,F,F.fn.okD AgH (by walk_at "lE") fun cdv A outer s H E hr=>⟨_,(Ae (M6 (Ah Af fK (hr.mono (by decide)) rfl (Aa (dv 0) Ac))) (Ai (Aj (Bf (Aa (Ad (dv 0) Ab) (Aa (Cg (Ad (dv 0) Ab)) (Aa (Cg (Ad (dv 0) Ab)) (Aa (Ad (dv 0) Ab) Ac)))))))),fun ds Q h=>?_⟩⟩
 obtain⟨⟨a,b,c,d⟩,rfl,⟨hb,hd⟩,q⟩:=h
 walk_at "go"
 refine Ar (a,b,c,d) ⟨hb,hd⟩ ?_
 exact⟨Ay (by decide),q _ rfl⟩
theorem Af1(T:Txt K mg)
  : Pm P w K mg base 1 "root" JB ["number"] MP:=by
 obtain⟨f,fd,F⟩:=T.adL
 refine⟨f,fd,F,F.fn.okD Ml (by walk_at "lE") fun cdv A outer s H E hr=>⟨_,(Ae (Bw (Q8 (dv 0) Ab) (Ai Jj) Bc) (Ae (Bw (BZ hr.units (dv 0) Ab) (Ai (Aj Ab)) Bc) (Ae (Ao 1 Ml.nd (AhL Ab (Cr (Bm (Af7 (dv 0)) Ab) Ab))) (Ae (Ao 2 Ml.nd (Cr (Bm (dv 1) (Cr (dv 0) (dv 1))) Ab)) (Ae (Ie PassesOwn.never (Q8 (dv 2) (dv 1)) (Ae (Ao 1 Ml.nd (dv 2)) (Ai (Ao 2 Ml.nd (Cr (Bm (dv 1) (Cr (dv 0) (dv 1))) Ab))))) (Ai (Aj (dv 1)))))))),fun ds Q h=>?_⟩⟩
 obtain⟨n,rfl,⟨h0,hb⟩,q⟩:=h
 walk_at "go"
 refine CP (decide_eq_false (by omega)) ?_
 by_cases hz:n=0
 ·subst hz
  exact ift rfl (q _ ⟨0,rfl,⟨by omega,by omega,by omega⟩,Bt.zero.le (by decide)⟩)
 refine CP (decide_eq_false hz) ?_
 obtain⟨c1,c2,c3⟩:=Ve hb
 have hu:=AdZ h0
 refine⟨⟨by decide,by decide⟩,c1,?_⟩
 generalize (1*2 ^ ((((Builtin.Int.intBits n:Nat):Int)+1).fdiv 2).toNat:Int)=g at *
 refine⟨Bt.jw c2 (by omega),⟨by decide,by decide⟩,?_⟩
 rw[Y0 c3]
 refine HW (fun m ρ=>∃g:Int,ρ=[some (.is (.int n)),some (.is (.int g)),some (.is (.int ((g+n / g) / 2)))]∧0<g∧Bt 2001 g∧n<(g+1)*(g+1)∧m=g.toNat) _ ⟨g,rfl,c3,c2,hu,rfl⟩ ?_
 rintro m _ ⟨g,rfl,hg,hgb,hgu,rfl⟩
 walk_at "rd"
 refine Er (fun hw=>?_) (fun hw=>?_)
 ·have hw:=of_decide_eq_true hw
  have hp:=X4 (show 1≤n by omega) hg
  have hu':=Aa5 h0 hg
  have hbb:Bt 2001 ((g+n / g) / 2):=by unfold Bt at *;omega
  generalize (g+n / g) / 2=b at *
  refine⟨Bt.jw hbb (by omega),⟨by decide,by decide⟩,?_⟩
  rw[Y0 hp]
  exact⟨_,by omega,b,rfl,hp,hbb,hu',rfl⟩
 ·have hw:¬(g+n / g) / 2<g:=fun z=>hw (decide_eq_true z)
  exact q _ ⟨g,rfl,⟨by omega,Ym hg (by omega),hgu⟩,hgb⟩
theorem Vc(T:Txt K mg)
  (pQ:Pm P w K mg base 1 "root" JB ["number"] MP)
  : Pm P w K mg base 2 "is_square" Ey ["number"] JM:=by
 obtain⟨f,fd,F⟩:=T.ux
 refine⟨f,fd,F,F.fn.okD M5 (by walk_at "lE") fun cdv A outer s H E hr=>⟨_,(Ae (Bw (Q8 (dv 0) Ab) (Ai (Aj W3)) Bc) (Ae (Ao 1 M5.nd (Ah Af pQ (hr.mono (by decide)) rfl (Aa (dv 0) Ac))) (Ai (Aj (SN hr.units (Al (dv 1) (dv 1)) (dv 0)))))),fun ds Q h=>?_⟩⟩
 obtain⟨n,rfl,hb,q⟩:=h
 walk_at "go"
 refine Er (fun hw=>?_) (fun hw=>?_)
 ·have hw:=of_decide_eq_true hw
  exact q _ ⟨false,rfl,by simp[G5 hw]⟩
 ·have hw:¬n<0:=fun z=>hw (decide_eq_true z)
  refine Bs n ⟨by omega,hb⟩ ?_
  rintro _ ⟨r,rfl,hs,hr'⟩
  walk_at "rd"
  refine⟨by walk_at "mul",q _ ⟨_,rfl,?_⟩⟩
  rw[Mj hs];simp
abbrev EY:DSp:=CV (fun f:I3=>[t3 f]) (B3 20000) fun f=>.int (meas f)
abbrev VR:DSp:=CV (fun p:I3×I2=>[t3 p.1,t2 p.2]) (fun p=>B3 20000 p.1∧B2 300000 p.2) fun p=>.int (val p.1 p.2)
abbrev Tg:DSp:=CV (fun p:I3×I2×I2=>[t3 p.1,t2 p.2.1,t2 p.2.2]) (fun p=>B3 20000 p.1∧B2 300000 p.2.1∧B2 300000 p.2.2) fun p=>.int (mid p.1 p.2.1 p.2.2)
abbrev QK:DSp:=CV (fun p:I3×I4=>[t3 p.1,t4 p.2]) (fun p=>B3 20000 p.1∧B4 300000 p.2∧det p.2=1) fun p=>t3 (mov p.1 p.2)
theorem Yz(T:Txt K mg)
  : Pm P w K mg base 1 "measure" Dg ["form"] EY:=by
 obtain⟨f,fd,F⟩:=T.yw
 refine⟨f,fd,F,F.fn.okD Xr (by walk_at "lE") fun cdv A outer s H E hr=>⟨_,(Ai (Aj (BR (Al (Ad (dv 0) Ab) (Ad (dv 0) Ab)) (Al (Al Ab (Ad (dv 0) Ab)) (Ad (dv 0) Ab))))),fun ds Q h=>?_⟩⟩
 obtain⟨⟨a,b,c⟩,rfl,⟨ha,hb,hc⟩,q⟩:=h
 walk_at "go"
 have h2:Bt 3 4:=Bt.aA (by decide)
 exact⟨by walk_at "mul",by walk_at "mul",by walk_at "mul",q _ rfl⟩
theorem Ad4(T:Txt K mg)
  : Pm P w K mg base 1 "value" Kz ["form","point"] VR:=by
 obtain⟨f,fd,F⟩:=T.acM
 refine⟨f,fd,F,F.fn.okD Qk (by walk_at "lE") fun cdv A outer s H E hr=>⟨_,(Ae (Ao 2 Qk.nd (Ad (dv 1) Ab)) (Ae (Ao 3 Qk.nd (Ad (dv 1) Ab)) (Ai (Aj (Bm (Bm (Al (Al (Ad (dv 0) Ab) (dv 2)) (dv 2)) (Al (Al (Ad (dv 0) Ab) (dv 2)) (dv 3))) (Al (Al (Ad (dv 0) Ab) (dv 3)) (dv 3))))))),fun ds Q h=>?_⟩⟩
 obtain⟨⟨⟨a,b,c⟩,x,y⟩,rfl,⟨⟨ha,hb,hc⟩,hx,hy⟩,q⟩:=h
 walk_at "go"
 exact⟨by walk_at "mul",by walk_at "mul",by walk_at "mul",by walk_at "mul",by walk_at "mul",by walk_at "mul",q _ rfl⟩
theorem Abv(T:Txt K mg)
  : Pm P w K mg base 1 "middle" Jl ["form","left","right"] Tg:=by
 obtain⟨f,fd,F⟩:=T.aaR
 refine⟨f,fd,F,F.fn.okD S9 (by walk_at "lE") fun cdv A outer s H E hr=>⟨_,(Ae (Ao 3 S9.nd (Bm (Al (Ad (dv 1) Ab) (Ad (dv 2) Ab)) (Al (Ad (dv 2) Ab) (Ad (dv 1) Ab)))) (Ai (Aj (Bm (Bm (Al (Al (Al Ab (Ad (dv 0) Ab)) (Ad (dv 1) Ab)) (Ad (dv 2) Ab)) (Al (Ad (dv 0) Ab) (dv 3))) (Al (Al (Al Ab (Ad (dv 0) Ab)) (Ad (dv 1) Ab)) (Ad (dv 2) Ab)))))),fun ds Q h=>?_⟩⟩
 obtain⟨⟨⟨a,b,c⟩,⟨x,y⟩,u,v⟩,rfl,⟨⟨ha,hb,hc⟩,⟨hx,hy⟩,hu,hv⟩,q⟩:=h
 walk_at "go"
 have h2:Bt 2 2:=Bt.aA (by decide)
 walk_at "muls"
 exact q _ rfl
theorem Adc(T:Txt K mg)
  (fK:Pm P w K mg base 2 "check_turn" Di ["turn"] G3)
  (acS:Pm P w K mg base 1 "value" Kz ["form","point"] VR)
  (adO:Pm P w K mg base 1 "middle" Jl ["form","left","right"] Tg)
  : Pm P w K mg base 3 "moved" JK ["form","turn"] QK:=by
 obtain⟨f,fd,F⟩:=T.acN
 refine⟨f,fd,F,F.fn.okD QJ (by walk_at "lE") fun cdv A outer s H E hr=>⟨_,(Ae (M6 (Ah Af fK (hr.mono (by decide)) rfl (Aa (dv 1) Ac))) (Ae (Ao 2 QJ.nd (Bf (Aa (Ad (dv 1) Ab) (Aa (Ad (dv 1) Ab) Ac)))) (Ae (Ao 3 QJ.nd (Bf (Aa (Ad (dv 1) Ab) (Aa (Ad (dv 1) Ab) Ac)))) (Ai (Aj (Bf (Aa (Ah Af acS (hr.mono (by decide)) rfl (Aa (dv 0) (Aa (dv 2) Ac))) (Aa (Ah Af adO (hr.mono (by decide)) rfl (Aa (dv 0) (Aa (dv 2) (Aa (dv 3) Ac)))) (Aa (Ah Af acS (hr.mono (by decide)) rfl (Aa (dv 0) (Aa (dv 3) Ac))) Ac))))))))),fun ds Q h=>?_⟩⟩
 obtain⟨⟨f,t⟩,rfl,⟨hf,ht,hd⟩,q⟩:=h
 walk_at "go"
 have hl:B2 300000 (t.1,t.2.2.1):=⟨ht.1.le (by decide),ht.2.2.1.le (by decide)⟩
 have hr':B2 300000 (t.2.1,t.2.2.2):=⟨ht.2.1.le (by decide),ht.2.2.2.le (by decide)⟩
 refine Ar t ⟨ht,hd⟩ ⟨Ay (by decide),Ay (by decide),?_⟩
 refine Ar (f,(t.1,t.2.2.1)) ⟨hf,hl⟩ ?_
 refine Ar (f,(t.1,t.2.2.1),(t.2.1,t.2.2.2)) ⟨hf,hl,hr'⟩ ?_
 refine Ar (f,(t.2.1,t.2.2.2)) ⟨hf,hr'⟩ ⟨Ay (by decide),?_⟩
 exact q _ rfl
abbrev Rw:DSp:=CV (fun p:I2=>[.int p.1,.int p.2]) (fun _=>True) fun p=>.int ((Int.gcd p.1 p.2:Nat):Int)
theorem Xa(T:Txt K mg)
  : Pm P w K mg base 1 "divisor" HB ["one","other"] Rw:=by
 obtain⟨f,fd,F⟩:=T.yt
 refine⟨f,fd,F,F.fn.okD Jx (by walk_at "lE") fun cdv A outer s H E hr=>⟨_,(Ae (Ie PassesOwn.never (Ih hr.units (dv 1) Ab) (Ae (Ao 2 Jx.nd (FJ (dv 0) (dv 1))) (Ae (Ao 0 Jx.nd (dv 1)) (Ai (Ao 1 Jx.nd (dv 2)))))) (Ai (Aj (Ru T.pI (Aa (dv 0) Ac))))),fun ds Q h=>?_⟩⟩
 obtain⟨⟨a,b⟩,rfl,_,q⟩:=h
 simp only[Wq,V4,Wj]
 refine HW (fun m ρ=>∃x y z,ρ=[some (.is (.int x)),some (.is (.int y)),z]∧Int.gcd x y=Int.gcd a b∧m=y.natAbs) _ ⟨a,b,none,rfl,rfl,rfl⟩ ?_
 rintro m _ ⟨x,y,z,rfl,hg,rfl⟩
 walk_at "rd"
 by_cases hy:y=0
 ·subst hy
  simp only[decide_true,Bool.not_true]
  walk_at "rd"
  have q':=q _ rfl
  have e:(if x<0 then -x else x)=((Int.gcd a b:Nat):Int):=by rw[←hg,Int.gcd_zero_right];split<;>omega
  rw[e]
  exact q'
 ·simp only[decide_eq_false hy,Bool.not_false,if_true]
  exact⟨hy,_,Kr hy,y,x.fmod y,_,rfl,(Q7 x y).trans hg,rfl⟩
abbrev Ly:DSp:=CV (fun f:I3=>[t3 f]) (fun _=>True) fun f=>.int (g3 f)
theorem YC(T:Txt K mg)
  (yJ:Pm P w K mg base 1 "divisor" HB ["one","other"] Rw)
  : Pm P w K mg base 2 "content" Gz ["form"] Ly:=by
 obtain⟨f,fd,F⟩:=T.yx
 refine⟨f,fd,F,F.fn.okD XM (by walk_at "lE") fun cdv A outer s H E hr=>⟨_,(Ai (Aj (Ah Af yJ (hr.mono (by decide)) rfl (Aa (Ah Af yJ (hr.mono (by decide)) rfl (Aa (Ad (dv 0) Ab) (Aa (Ad (dv 0) Ab) Ac))) (Aa (Ad (dv 0) Ab) Ac))))),fun ds Q h=>?_⟩⟩
 obtain⟨f,rfl,_,q⟩:=h
 walk_at "go"
 exact Ar (f.1,f.2.1) trivial (Ar (_,f.2.2) trivial (q _ rfl))
abbrev Mt:DSp:=spec (fun f:I3=>[t3 f]) (fun f=>B3 1500 f) AcO
theorem AdV(T:Txt K mg)
  (bB:Pm P w K mg base 1 "measure" Dg ["form"] EY)
  (mW:Pm P w K mg base 2 "is_square" Ey ["number"] JM)
  : Pm P w K mg base 3 "shape" Iu ["form"] Mt:=by
 obtain⟨f,fd,F⟩:=T.acO
 refine⟨f,fd,F,F.fn.okD Wx (by walk_at "lE") fun cdv A outer s H E hr=>⟨_,(Ae (Ao 1 Wx.nd (Ah Af bB (hr.mono (by decide)) rfl (Aa (dv 0) Ac))) (Ae (Bw (Jz (Ah Af mW (hr.mono (by decide)) rfl (Aa (dv 1) Ac))) (Ai (Aj Km)) Bc) (Ae (Bw (Vi (dv 1) Ab) (Ai (Aj Km)) Bc) (Ae (Bw (Vi (Ad (dv 0) Ab) Ab) (Ai (Aj Km)) Bc) (Ai (Aj Km)))))),fun ds Q h=>?_⟩⟩
 obtain⟨f,rfl,hf,q⟩:=h
 walk_at "go"
 refine Ar f (hf.le (by decide)) ?_
 have hm:Bt 4000 (meas f):=by
  obtain⟨h1,h2,h3⟩:=hf
  have h4:Bt 3 4:=Bt.aA (by decide)
  exact((h2.mul h2).sub ((h4.mul h1).mul h3)).le (by decide)
 refine Bs (meas f) hm ?_
 rintro _ ⟨b,rfl,hb⟩
 walk_at "rd"
 refine Er (fun h=>q _ (.flat (hb.mp h))) (fun h=>?_)
 have hn:¬Gv (meas f):=fun z=>h (hb.mpr z)
 refine Er (fun h=>q _ (.saddle hn (of_decide_eq_true h))) (fun h=>?_)
 have hp:¬0<meas f:=fun z=>h (decide_eq_true z)
 refine Er (fun h=>q _ (.bowl hn hp (of_decide_eq_true h))) (fun h=>q _ (.dome hn hp fun z=>h (decide_eq_true z)))
abbrev Nz(f:I3):Dt:=.exc "NoShape" ["form"] [t3 f]
abbrev Jg(n m:Int):Dt:=.exc "TooGreat" ["number","most"] [.int n,.int m]
noncomputable def Kg(f:I3):Dt:=@ite _ (0<meas f∧¬Gv (meas f)) (Classical.propDecidable _) (Jg (meas f) 4000) (Nz f)
theorem Aco{f:I3}(h:0<meas f∧¬Gv (meas f)):Kg f=Jg (meas f) 4000:=if_pos h
theorem Xk{f:I3}(h:¬(0<meas f∧¬Gv (meas f))):Kg f=Nz f:=if_neg h
abbrev Gi:HS:=G6 (fun p:I2=>[.int p.1,.int p.2]) (fun _=>True) (fun p=>p.1≤p.2) (fun _ d=>d=.non) fun p=>Jg p.1 p.2
abbrev Gy:HS:=G6 (fun f:I3=>[t3 f]) (fun f=>B3 1500 f) Sad (fun _ d=>d=.non) Kg
abbrev JT:DSp:=CV (fun f:I3=>[t3 f]) (fun f=>B3 1500 f∧Sad f) fun _=>.non
theorem M8(T:Txt K mg)
  : PmX P w K mg base 3 "check_at_most" Cz ["number","most"] Gi:=by
 obtain⟨f,fd,F⟩:=T.lW
 obtain⟨aq,abP,fj,aaS,pR⟩:=QV (P:=P) (w:=w) (base:=base) T
 refine⟨f,fd,F,F.fn.okX Ob (fun ds Q E ⟨p,e,_⟩=>by rw[e];rfl) fun cdv A outer s H E hr=>⟨_,(Bu (Il (Vi (dv 0) (dv 1)) (Bu (Jm pR (hr.mono (by decide)) rfl rfl (Aa (dv 0) (Aa (dv 1) Ac)))) Eu)),fun ds Q Ex h=>?_⟩⟩
 obtain⟨⟨n,m⟩,rfl,_,q,x⟩:=h
 have q:n≤m→∀d,d=.non→Q d:=q
 have x:¬n≤m→Ex (Jg n m):=x
 walk_at "go"
 refine Er (fun hw=>?_) (fun hw=>?_)
 ·have hw:=of_decide_eq_true hw
  exact⟨by decide,x (by omega)⟩
 ·have hw:¬m<n:=fun z=>hw (decide_eq_true z)
  exact q (by omega) _ rfl
theorem NP(T:Txt K mg)
  (gB:PmX P w K mg base 3 "check_at_most" Cz ["number","most"] Gi)
  (rG:Pm P w K mg base 3 "shape" Iu ["form"] Mt)
  (bB:Pm P w K mg base 1 "measure" Dg ["form"] EY)
  : PmX P w K mg base 4 "check_saddle" Ce ["form"] Gy:=by
 obtain⟨f,fd,F⟩:=T.mR
 obtain⟨cG,aH⟩:=T.aH
 obtain⟨aC,ae3,jC,aeV,ac0⟩:=AaZ (P:=P) (w:=w) (base:=base) T
 refine⟨f,fd,F,F.fn.okX Pb (fun ds Q E ⟨p,e,_⟩=>by rw[e];rfl) fun cdv A outer s H E hr=>⟨_,(Az (Il (Ih hr.units (Ah Af rG (hr.mono (by decide)) rfl (Aa (dv 0) Ac)) Km) (Bu (Jm ac0 (hr.mono (by decide)) rfl rfl (Aa (dv 0) Ac))) Eu) (Bu (CZ (Bp Av gB (hr.mono (by decide)) rfl (Aa (Ah Af bB (hr.mono (by decide)) rfl (Aa (dv 0) Ac)) (Aa (Ip (v:=.int (4000)) (d:=.int (4000)) rfl aH ⟨_,rfl⟩ (fun _=>Bl.mpr rfl)) Ac)))))),fun ds Q Ex h=>?_⟩⟩
 obtain⟨f,rfl,hb,q,x⟩:=h
 have nb:Dt.flat 8 (.str "saddle")=true:=by rw[LK];decide +kernel
 have x1:¬(0<meas f∧¬Gv (meas f))→Ex (Nz f):=fun z=>by
  have:=x fun s=>z ⟨s.pos,s.no⟩
  rw[Xk z]at this
  exact this
 walk_at "go"
 refine Bs f hb ?_
 rintro _ hw
 cases hw with
 |flat z=>exact⟨⟨by rw[LK];decide +kernel,nb⟩,ift (by rw[K5];decide) ⟨by decide,x1 fun h=>h.2 z⟩⟩
 |bowl _ z _=>exact⟨⟨by rw[LK];decide +kernel,nb⟩,ift (by rw[K5];decide) ⟨by decide,x1 fun h=>z h.1⟩⟩
 |dome _ z _=>exact⟨⟨by rw[LK];decide +kernel,nb⟩,ift (by rw[K5];decide) ⟨by decide,x1 fun h=>z h.1⟩⟩
 | saddle n p =>
  refine⟨⟨nb,nb⟩,ifn (by rw[K5];rfl) (Ar f (hb.le (by decide)) (Bq (meas f,4000) trivial (fun h _ _=>q ⟨n,p,h⟩ _ rfl) fun h=>?_))⟩
  have:=x fun s=>h s.most
  rw[Aco ⟨p,n⟩]at this
  exact this
theorem Pj{P:Program}{w:World}{K:W.Frag}{mg:Str→Option Value}{base:Heap}(G:PmX P w K mg base 4 "check_saddle" Ce ["form"] Gy)
  : Pm P w K mg base 4 "check_saddle" Ce ["form"] JT:=by
 refine G.pm Av fun ds Q h=>?_
 obtain⟨f,e,⟨hb,hd⟩,q⟩:=h
 exact⟨f,e,hb,fun _ d z=>q d z,fun z=>absurd hd z⟩
abbrev JV:DSp:=CV (fun p:I3×Int=>[t3 p.1,.int p.2]) (fun p=>B3 20000 p.1) fun p=>.bl (decide (Level p.1 p.2))
theorem Pk(T:Txt K mg)
  : Pm P w K mg base 1 "stands_level" Dw ["form","far"] JV:=by
 obtain⟨f,fd,F⟩:=T.mU
 refine⟨f,fd,F,F.fn.okD JW (by walk_at "lE") fun cdv A outer s H E hr=>⟨_,(Ae (Ao 2 JW.nd (Ad (dv 0) Ab)) (Ai (Aj (XS (Wf Ad7 Wc Jd Jd Ab (dv 2) (dv 1)) (P0 (Wf Ad7 Wc Jd Jd (BR (dv 1) (dv 2)) (Al Ab (Ru T.pI (Aa (Ad (dv 0) Ab) Ac))) (Bm (dv 1) (dv 2)))))))),fun ds Q h=>?_⟩⟩
 obtain⟨⟨⟨a,b,c⟩,far⟩,rfl,hb,q⟩:=h
 have q':=q _ rfl
 obtain⟨ha,_,_⟩:=(show B3 20000 (a,b,c)from hb)
 have ha:Bt 20000 a:=ha
 have two:Bt 2 2:=Bt.aA (by decide)
 have ha':Bt 20000 (if a<0 then -a else a):=by split<;>first|exact ha.neg|exact ha
 have q':Q (.bl (decide (Level (a,b,c) far))):=q'
 walk_at "go"
 have hL:Level (a,b,c) far↔(0<b∧b≤far)∧far-b<2*(if a<0 then -a else a)∧2*(if a<0 then -a else a)≤far+b:=Iff.rfl
 generalize (if a<0 then -a else a)=A at *
 by_cases h1:0<b
 ·refine ift (decide_eq_true h1) ?_
  by_cases h2:b≤far
  ·refine ift (decide_eq_true h2) ⟨two.aJ ha',?_⟩
   by_cases h3:far-b<2*A
   ·refine ift (decide_eq_true h3) ?_
    have e:decide (Level (a,b,c) far)=decide (2*A≤far+b):=decide_eq_decide.mpr (hL.trans ⟨fun z=>z.2.2,fun z=>⟨⟨h1,h2⟩,h3,z⟩⟩)
    rw[e]at q'
    exact q'
   ·refine CP (decide_eq_false h3) ?_
    rw[decide_eq_false fun z=>h3 (hL.mp z).2.1]at q'
    exact q'
  ·refine CP (decide_eq_false h2) ?_
   rw[decide_eq_false fun z=>h2 (hL.mp z).1.2]at q'
   exact q'
 ·refine CP (decide_eq_false h1) ?_
  rw[decide_eq_false fun z=>h1 (hL.mp z).1.1]at q'
  exact q'
abbrev K4:DSp:=CV (fun f:I3=>[t3 f]) (fun f=>B3 1500 f∧BJ f) fun _=>.non
abbrev G8:DSp:=CV (fun f:I3=>[t3 f]) (fun _=>True) fun f=>.bl (stands f)
theorem Ss(T:Txt K mg)
  (rG:Pm P w K mg base 3 "shape" Iu ["form"] Mt)
  : Pm P w K mg base 4 "check_bowl" Fb ["form"] K4:=by
 obtain⟨f,fd,F⟩:=T.qY
 refine⟨f,fd,F,F.fn.okD RJ (by walk_at "lE") fun cdv A outer s H E hr=>⟨_,(Ai (Bw (Ih hr.units (Ah Af rG (hr.mono (by decide)) rfl (Aa (dv 0) Ac)) Km) (Ai Jj) Bc)),fun ds Q h=>?_⟩⟩
 obtain⟨f,rfl,⟨hb,h0,h1⟩,q⟩:=h
 walk_at "go"
 have h0:0<f.1:=h0
 have h1:meas f<0:=h1
 refine Bs f hb ?_
 rintro _ hw
 cases hw with
 |flat z=>exact absurd z (G5 h1)
 |saddle _ z=>exact absurd z (by omega)
 |dome _ _ z=>exact absurd h0 z
 |bowl _ _ _=>exact⟨⟨by rw[LK];decide +kernel,by rw[LK];decide +kernel⟩,ifn (by rw[K5];rfl) (q _ rfl)⟩
theorem O8(T:Txt K mg)
  : Pm P w K mg base 1 "stands_least" CT ["form"] G8:=by
 obtain⟨f,fd,F⟩:=T.mQ
 refine⟨f,fd,F,F.fn.okD FQ (by walk_at "lE") fun cdv A outer s H E hr=>⟨_,(Ae (Ao 1 FQ.nd (Ad (dv 0) Ab)) (Ae (Ao 2 FQ.nd (Ad (dv 0) Ab)) (Ae (Ao 3 FQ.nd (Ad (dv 0) Ab)) (Ae (Bw (Va (Abj Wc Wc Wc Jd Jd Jd  (Cg (dv 1)) (dv 2) (dv 1) (dv 3))) (Ai (Aj W3)) Bc) (Ai (Aj (AgR (Akv (dv 2) Ab) (P0 (XS (Ahs hr.units (dv 2) (Cg (dv 1))) (P0 (Ahs hr.units (dv 1) (dv 3)))))))))))),fun ds Q h=>?_⟩⟩
 obtain⟨⟨a,b,c⟩,rfl,_,q⟩:=h
 have q':=q _ rfl
 dsimp only[stands]at q'
 walk_at "go"
 simp only[Bool.decide_and,ne_eq,decide_not]at q'
 generalize decide (-a≤b)=x1 at *
 generalize decide (b≤a)=x2 at *
 generalize decide (a≤c)=x3 at *
 generalize decide (0≤b)=x4 at *
 generalize decide (b=-a)=x5 at *
 generalize decide (a=c)=x6 at *
 cases x1<;>cases x2<;>cases x3<;>cases x4<;>cases x5<;>cases x6<;>exact q'
abbrev K1:DSp:=CV (fun f:I3=>[t3 f]) (fun f=>B3 8000 f∧0<f.1) fun f=>t4 (Ej f)
theorem Sv(T:Txt K mg)
  : Pm P w K mg base 1 "turn_lower" Ft ["form"] K1:=by
 obtain⟨f,fd,F⟩:=T.qZ
 refine⟨f,fd,F,F.fn.okD KN (by walk_at "lE") fun cdv A outer s H E hr=>⟨_,(Ae (Ao 1 KN.nd (Cr (BR (Ad (dv 0) Ab) (Ad (dv 0) Ab)) (Al Ab (Ad (dv 0) Ab)))) (Ae (Bw (Ih hr.units (dv 1) Ab) (Ai (Aj (Bf (Aa Ab (Aa (dv 1) (Aa Ab (Aa Ab Ac))))))) Bc) (Ai (Aj (Bf (Aa Ab (Aa (Cg Ab) (Aa Ab (Aa Ab Ac))))))))),fun ds Q h=>?_⟩⟩
 obtain⟨⟨a,b,c⟩,rfl,⟨⟨h1,h2,h3⟩,h0⟩,q⟩:=h
 have h0:0<a:=h0
 have h1:Bt 8000 a:=h1
 have two:Bt 2 2:=Bt.aA (by decide)
 have q':=q _ rfl
 dsimp only at q'
 walk_at "go"
 refine⟨two.aJ h1,Bt.jw (two.mul h1) (by omega),?_⟩
 by_cases ho:(a-b).fdiv (2*a)=0
 ·refine CP (by rw[decide_eq_true ho];rfl) ⟨Ay (by decide),?_⟩
  rw[Rt (f:=(a,b,c)) ho]at q'
  exact q'
 ·refine ift (by rw[decide_eq_false ho];rfl) ⟨Ay (by decide),?_⟩
  rw[Qc (f:=(a,b,c)) ho]at q'
  exact q'
def LI(f:I3):Nat→I4
 |0=>(1,0,0,1)
 |k+1=>Aq (LI f k) (Ej (mov f (LI f k)))
def Ab5(f:I3)(t:I4):Prop:=∃k,t=LI f k∧(∀i,i<k→stands (mov f (LI f i))=false)∧stands (mov f (LI f k))=true
def Jy(f:I3)(d:Dt):Prop:=∃t:I4,d=.tup [t3 (mov f t),t4 t]∧det t=1∧Eo (mov f t)∧B4 5000 t∧Ab5 f t
abbrev Rf:DSp:=spec (fun f:I3=>[t3 f]) (fun f=>B3 1500 f∧BJ f) Jy
theorem Yx(T:Txt K mg)
  (yV:Pm P w K mg base 4 "check_bowl" Fb ["form"] K4)
  (jD:Pm P w K mg base 1 "stands_least" CT ["form"] G8)
  (yW:Pm P w K mg base 1 "turn_lower" Ft ["form"] K1)
  (yX:Pm P w K mg base 3 "moved" JK ["form","turn"] QK)
  (kI:Pm P w K mg base 1 "put_behind" DY ["one","other"] Je)
  : Pm P w K mg base 5 "settled" HD ["form"] Rf:=by
 obtain⟨f,fd,F⟩:=T.yC
 obtain⟨pU,abQ,abR⟩:=T.abO
 refine⟨f,fd,F,F.fn.okD HX (by walk_at "lE") fun cdv A outer s H E hr=>⟨_,(Ae (M6 (Ah Af yV (hr.mono (by decide)) rfl (Aa (dv 0) Ac))) (Ae (Ao 1 HX.nd (Ip (v:=.ref pU) rfl abQ rfl abR)) (Ae (Ie PassesOwn.never (Va (Jz (Ah Af jD (hr.mono (by decide)) rfl (Aa (dv 0) Ac)))) (Ae (Ao 2 HX.nd (Ah Af yW (hr.mono (by decide)) rfl (Aa (dv 0) Ac))) (Ae (Ao 0 HX.nd (Ah Af yX (hr.mono (by decide)) rfl (Aa (dv 0) (Aa (dv 2) Ac)))) (Ai (Ao 1 HX.nd (Ah Af kI (hr.mono (by decide)) rfl (Aa (dv 1) (Aa (dv 2) Ac)))))))) (Ai (Aj (Bf (Aa (dv 0) (Aa (dv 1) Ac)))))))),fun ds Q h=>?_⟩⟩
 obtain⟨f,rfl,⟨hb,hw⟩,q⟩:=h
 have hw:BJ f:=hw
 have hb:B3 1500 f:=hb
 have hm:Bt 3010 (meas f):=by
  obtain⟨h1,h2,h3⟩:=hb
  have h4:Bt 3 4:=Bt.aA (by decide)
  exact((h2.mul h2).sub ((h4.mul h1).mul h3)).le (by decide)
 walk_at "go"
 refine Ar f ⟨hb,hw⟩ ?_
 refine HW (fun m ρ=>∃t x,(∃k,t=LI f k∧∀i,i<k→stands (mov f (LI f i))=false)∧ρ=[some (.is (t3 (mov f t))),some (.is (t4 t)),x]∧det t=1∧Bt 1500 (mov f t).1∧Bt 1500 (mov f t).2.1∧m=msr (mov f t)) _ ⟨(1,0,0,1),none,⟨0,rfl,fun _ h=>absurd h (by omega)⟩,by rw[Dy],rfl,by rw[Dy];exact hb.1,by rw[Dy];exact hb.2.1,rfl⟩ ?_
 rintro m _ ⟨t,x,⟨k,et,nl⟩,rfl,hd,b1,b2,rfl⟩
 have hg:=V0 hw hd
 have hgb:B3 7000 (mov f t):=(Afs hg b1 b2 (by rw[Ca hd];exact hm)).le (by decide)
 have ht:B4 5000 t:=AgD hw hb hgb (by decide)
 walk_at "rd"
 refine Ar (mov f t) trivial ?_
 walk_at "rd"
 by_cases hs:stands (mov f t)=true
 ·refine CP (by rw[hs];rfl) ⟨Ay (by decide),q _ ⟨t,rfl,hd,Br hg.1 hs,ht,k,et,nl,by rw[←et];exact hs⟩⟩
 ·have hs:stands (mov f t)=false:=by simpa using hs
  refine ift (by rw[hs];rfl) ?_
  have hl:B4 2000 (Ej (mov f t)):=(Ad6 hg.1 b1 b2).le (by decide)
  refine Ar (mov f t) ⟨hgb.le (by decide),hg.1⟩ ?_
  refine Ar (mov f t,Ej (mov f t)) ⟨hgb.le (by decide),hl.le (by decide),SX⟩ ?_
  refine Ar (t,Ej (mov f t)) ⟨ht.le (by decide),hl.le (by decide)⟩ ?_
  have hb':=Ab3 hg hs b1 b2
  have hm':=Aa7 hg hs
  rw[BK]at hb' hm'
  dsimp only
  rw[BK]
  refine⟨_,hm',Aq t (Ej (mov f t)),_,⟨k+1,by rw[et];rfl,fun i hi=>?_⟩,rfl,?_,hb'.1,hb'.2,rfl⟩
  case refine_1 =>
   rcases Nat.lt_or_ge i k with z|z
   ·exact nl i z
   ·rw[show i=k by omega,←et];exact hs
  rw[Dl,hd,SX];rfl
abbrev Ke:DSp:=CV (fun p:I3×Int=>[t3 p.1,.int p.2]) (fun p=>B3 8000 p.1∧p.1.2.2≠0) fun p=>t4 (Dc p.1 p.2)
theorem QT(T:Txt K mg)
  : Pm P w K mg base 1 "turn_behind" Eh ["form","top"] Ke:=by
 obtain⟨f,fd,F⟩:=T.pq
 refine⟨f,fd,F,F.fn.okD Gm (by walk_at "lE") fun cdv A outer s H E hr=>⟨_,(Ae (Ao 2 Gm.nd (Ad (dv 0) Ab)) (Ae (Ao 3 Gm.nd (Ad (dv 0) Ab)) (Ae (Ao 4 Gm.nd (BR (dv 1) (FJ (Bm (dv 1) (dv 2)) (Al Ab (Ru T.pI (Aa (dv 3) Ac)))))) (Ai (Aj (Bf (Aa Ab (Aa (Cg Ab) (Aa Ab (Aa (Cr (Bm (dv 2) (dv 4)) (Al Ab (dv 3))) Ac)))))))))),fun ds Q h=>?_⟩⟩
 obtain⟨⟨⟨a,b,c⟩,top⟩,rfl,⟨⟨_,_,hc⟩,h0⟩,q⟩:=h
 have hc:Bt 8000 c:=hc
 have h0:c≠0:=h0
 have two:Bt 2 2:=Bt.aA (by decide)
 have hac:2*ab c≠0:=by rcases Bk c with⟨_,e⟩|⟨_,e⟩<;>omega
 walk_at "go"
 exact⟨two.aJ (AmD hc),hac,two.aJ hc,Bt.jw (two.mul hc) (by omega),Ay (by decide),q _ rfl⟩
abbrev K7(f:I3)(t:I4):Dt:=.tup [t3 f,t4 t]
abbrev Gg:DSp:=CV (fun p:I3×I4×Int=>[K7 p.1 p.2.1,.int p.2.2]) (fun p=>B3 8000 p.1∧p.1.2.2≠0∧B4 300000 p.2.1∧B4 5000 (Dc p.1 p.2.2)) fun p=>K7 (mov p.1 (Dc p.1 p.2.2)) (Aq p.2.1 (Dc p.1 p.2.2))
theorem Rh(T:Txt K mg)
  (wQ:Pm P w K mg base 1 "turn_behind" Eh ["form","top"] Ke)
  (yX:Pm P w K mg base 3 "moved" JK ["form","turn"] QK)
  (kI:Pm P w K mg base 1 "put_behind" DY ["one","other"] Je)
  : Pm P w K mg base 4 "stop_behind" Dp ["stop","top"] Gg:=by
 obtain⟨f,fd,F⟩:=T.pA
 refine⟨f,fd,F,F.fn.okD J8 (by walk_at "lE") fun cdv A outer s H E hr=>⟨_,(Ae (Ao 2 J8.nd (Ah Af wQ (hr.mono (by decide)) rfl (Aa (Ad (dv 0) Ab) (Aa (dv 1) Ac)))) (Ai (Aj (Bf (Aa (Ah Af yX (hr.mono (by decide)) rfl (Aa (Ad (dv 0) Ab) (Aa (dv 2) Ac))) (Aa (Ah Af kI (hr.mono (by decide)) rfl (Aa (Ad (dv 0) Ab) (Aa (dv 2) Ac))) Ac)))))),fun ds Q h=>?_⟩⟩
 obtain⟨⟨f,t,top⟩,rfl,⟨hf,h0,ht,hb⟩,q⟩:=h
 walk_at "go"
 exact Ar (f,top) ⟨hf,h0⟩ (Ar (f,Dc f top) ⟨B3.le hf (by decide),B4.le hb (by decide),Dj⟩ (Ar (t,Dc f top) ⟨B4.le ht (by decide),B4.le hb (by decide)⟩ ⟨Ay (by decide),q _ rfl⟩))
def EI(far:Int)(f:I3):Nat→I4
 |0=>(1,0,0,1)
 |k+1=>Aq (EI far f k) (Dc (mov f (EI far f k)) (if far>ab (mov f (EI far f k)).2.2 then far else ab (mov f (EI far f k)).2.2))
def AbB(far:Int)(f:I3)(t:I4):Prop:=∃k,t=EI far f k∧(∀i,i<k→¬Level (mov f (EI far f i)) far)∧Level (mov f (EI far f k)) far
def Amn(f:I3)(d:Dt):Prop:=∃(t:I4)(far:Int),d=K7 (mov f t) t∧det t=1∧Sq (meas f) far∧Level (mov f t) far∧B4 7600 t∧AbB far f t
abbrev Vd:DSp:=spec (fun f:I3=>[t3 f]) (fun f=>B3 1500 f∧Sad f) Amn
theorem Vs{f:I3}(S:Sad f):0≤meas f∧Bt 4000 (meas f):=by
 have:=S.pos
 have:=S.most
 exact⟨by omega,Bt.le (n:=13) (Bt.of (by omega) (by omega)) (by decide)⟩
theorem Ab7(T:Txt K mg)
  (vh:Pm P w K mg base 4 "check_saddle" Ce ["form"] JT)
  (pQ:Pm P w K mg base 1 "root" JB ["number"] MP)
  (bB:Pm P w K mg base 1 "measure" Dg ["form"] EY)
  (vm:Pm P w K mg base 1 "stands_level" Dw ["form","far"] JV)
  (iR:Pm P w K mg base 4 "stop_behind" Dp ["stop","top"] Gg)
  : Pm P w K mg base 5 "eased" Ku ["form"] Vd:=by
 obtain⟨f,fd,F⟩:=T.acP
 obtain⟨pU,abQ,abR⟩:=T.abO
 refine⟨f,fd,F,F.fn.okD M4 (by walk_at "lE") fun cdv A outer s H E hr=>⟨_,(Ae (M6 (Ah Af vh (hr.mono (by decide)) rfl (Aa (dv 0) Ac))) (Ae (Ao 1 M4.nd (Ah Af pQ (hr.mono (by decide)) rfl (Aa (Ah Af bB (hr.mono (by decide)) rfl (Aa (dv 0) Ac)) Ac))) (Ae (Ao 2 M4.nd (Bf (Aa (dv 0) (Aa (Ip (v:=.ref pU) rfl abQ rfl abR) Ac)))) (Ae (Ie PassesOwn.never (Va (Jz (Ah Af vm (hr.mono (by decide)) rfl (Aa (Ad (dv 2) Ab) (Aa (dv 1) Ac))))) (Ai (Ao 2 M4.nd (Ah Af iR (hr.mono (by decide)) rfl (Aa (dv 2) (Aa (AiD T.yG (Aa (Ru T.pI (Aa (Ad (Ad (dv 2) Ab) Ab) Ac)) (Aa (dv 1) Ac))) Ac)))))) (Ai (Aj (dv 2))))))),fun ds Q h=>?_⟩⟩
 obtain⟨f,rfl,⟨hb,hS⟩,q⟩:=h
 have hS:Sad f:=hS
 have hb:B3 1500 f:=hb
 walk_at "go"
 refine Ar f ⟨hb,hS⟩ (Ar f (hb.le (by decide)) (Bs (meas f) (Vs hS) ?_))
 rintro _ ⟨far,rfl,hr',hfb⟩
 walk_at "rd"
 refine⟨Ay (by decide),?_⟩
 refine HW (fun m ρ=>∃k,(∀i,i<k→¬Level (mov f (EI far f i)) far)∧ρ=[some (.is (t3 f)),some (.is (.int far)),some (.is (K7 (mov f (EI far f k)) (EI far f k)))]∧R8 1500 far f (EI far f k)∧m=eM far (mov f (EI far f k))) _ ⟨0,fun _ h=>absurd h (by omega),by show _=[_,_,some (En.is (K7 (mov f (1,0,0,1)) (1,0,0,1)))];rw[Dy],R8.start (by decide) hb,rfl⟩ ?_
 rintro m _ ⟨k,nl,rfl,hI,rfl⟩
 have ek:EI far f (k+1)=Aq (EI far f k) (Dc (mov f (EI far f k)) (if far>ab (mov f (EI far f k)).2.2 then far else ab (mov f (EI far f k)).2.2)):=rfl
 obtain⟨t,et⟩:∃t,t=EI far f k:=⟨_,rfl⟩
 rw[←et]at hI ek ⊢
 have hd:=hI.1
 have hg:=hI.2.1
 have ht:=hI.b4
 walk_at "rd"
 refine Ar (mov f t,far) (hg.le (by decide)) ?_
 walk_at "rd"
 by_cases hL:Level (mov f t) far
 ·exact CP (by rw[decide_eq_true hL];rfl) (q _ ⟨t,far,rfl,hd,hr',hL,ht.le (by decide),k,et,nl,by rw[←et];exact hL⟩)
 ·refine ift (by rw[decide_eq_false hL];rfl) ?_
  have hst:=AaW (by decide) hS hr' hI hL
  refine Ar (mov f t,t,_) ⟨hg.le (by decide),Jp (hS.mov hd),ht.le (by decide),hst.2.2.le (by decide)⟩ ?_
  dsimp only
  rw[BK]
  refine⟨_,hst.2.1,k+1,fun i hi=>?_,by rw[ek];rfl,by rw[ek];exact hst.1,by rw[ek]⟩
  rcases Nat.lt_or_ge i k with z|z
  ·exact nl i z
  ·rw[show i=k by omega,←et];exact hL
structure Nt(f:I3)(t0:I4)(far:Int)(N:Nat):Prop where
 d:det t0=1
 r:Sq (meas f) far
 v:Lv far (mov f t0)
 b:B4 7600 t0
 n:0<N
 m:N≤8128
 e:rF far N (mov f t0)=mov f t0
 l:∀j,0<j→j<N→rF far j (mov f t0)≠mov f t0
 a:AbB far f t0
abbrev G9(f:I3)(t0:I4)(far:Int)(i:Nat):Dt:=K7 (rF far i (mov f t0)) (Aq t0 (rT far i (mov f t0)))
theorem Nt.bt{f:I3}{t0:I4}{far:Int}{N:Nat}(R:Nt f t0 far N)(i:Nat)(h:i≤N):B4 90000 (Aq t0 (rT far i (mov f t0))):=by
 have:=R.m
 exact(B4.then R.b (Ahw i R.v)).le (by omega)
abbrev J9:DSp:=spec (fun f:I3=>[t3 f]) (fun f=>B3 1500 f∧Sad f) fun f d=>∃t0 far N,Nt f t0 far N∧d=.lst ((List.range (N+1)).map (G9 f t0 far))
theorem Agi{n:Nat}(h:n≤9000):n<PySem.sizeLine:=by unfold PySem.sizeLine;omega
theorem QW(T:Txt K mg)
  (pQ:Pm P w K mg base 1 "root" JB ["number"] MP)
  (aew:Pm P w K mg base 5 "eased" Ku ["form"] Vd)
  (iR:Pm P w K mg base 4 "stop_behind" Dp ["stop","top"] Gg)
  (bB:Pm P w K mg base 1 "measure" Dg ["form"] EY)
  : Pm P w K mg base 6 "stops_round" Ei ["form"] J9:=by
 obtain⟨f,fd,F⟩:=T.pB
 refine⟨f,fd,F,F.fn.okD Ds (by walk_at "lE") fun cdv A outer s H E hr=>⟨_,(Ae (Ao 1 Ds.nd (Ah Af pQ (hr.mono (by decide)) rfl (Aa (Ah Af bB (hr.mono (by decide)) rfl (Aa (dv 0) Ac)) Ac))) (Ae (Ao 2 Ds.nd (Ah Af aew (hr.mono (by decide)) rfl (Aa (dv 0) Ac))) (Ae (AdG 3 Ds.nd (Aa (dv 2) Ac)) (Ae (Ao 4 Ds.nd (Ah Af iR (hr.mono (by decide)) rfl (Aa (dv 2) (Aa (dv 1) Ac)))) (Ae (Ie PassesOwn.never (Ih hr.units (Ad (dv 4) Ab) (Ad (dv 2) Ab)) (Ae (Yu 3 (dv 4)) (Ai (Ao 4 Ds.nd (Ah Af iR (hr.mono (by decide)) rfl (Aa (dv 4) (Aa (dv 1) Ac))))))) (Ae (Yu 3 (dv 4)) (Ai (AdQ 3 (Aj (dv 3)))))))))),fun ds Q h=>?_⟩⟩
 obtain⟨f,rfl,⟨hb,hS⟩,q⟩:=h
 have hS:Sad f:=hS
 have hb:B3 1500 f:=hb
 walk_at "go"
 refine Ar f (hb.le (by decide)) (Bs (meas f) (Vs hS) ?_)
 rintro _ ⟨far,rfl,hr',hfb⟩
 refine Bs f ⟨hb,hS⟩ ?_
 rintro _ ⟨t0,jE,rfl,dt,hs,hL,bt,ea⟩
 obtain rfl:=hs.uniq hr'
 have hv:Lv jE (mov f t0):=⟨hS.mov dt,by rw[Ca dt];exact hs,hL⟩
 obtain⟨N,n0,nm,ne,nl⟩:=V6 hv
 have R:Nt f t0 jE N:=⟨dt,hs,hv,bt,n0,nm,ne,nl,ea⟩
 walk_at "rd"
 refine⟨Ay (by decide),?_⟩
 have stp:∀{Q:Dt→Prop} (i:Nat),i≤N→Q (G9 f t0 jE (i+1))→Gg [G9 f t0 jE i,.int jE] Q:=fun{Q} i hi h=>by
  have hi':=Lv.rF i hv
  refine Ar (rF jE i (mov f t0),Aq t0 (rT jE i (mov f t0)),jE) ⟨(V1 hi'.S hi'.r hi'.L).le (by decide),Jp hi'.S,(R.bt i hi).le (by decide),(QX (Y9 hi') (by decide)).le (by decide)⟩ ?_
  have h:Q (K7 (rF jE (i+1) (mov f t0)) (Aq t0 (rT jE (i+1) (mov f t0)))):=h
  rw[ZF,ZD,←then_assoc]at h
  exact h
 have e0:K7 (mov f t0) t0=G9 f t0 jE 0:=by
  show K7 (mov f t0) t0=K7 (mov f t0) (Aq t0 (1,0,0,1))
  rw[HJ]
 rw[e0]
 refine stp 0 (by omega) ?_
 have last:(List.range (N+1)).map (G9 f t0 jE)=(List.range N).map (G9 f t0 jE)++[G9 f t0 jE N]:=by rw[List.range_succ,List.map_append];rfl
 refine HW (fun m ρ=>∃i:Nat,1≤i∧i≤N∧ρ=[some (.is (t3 f)),some (.is (.int jE)),some (.is (G9 f t0 jE 0)),some (.own ((List.range i).map (G9 f t0 jE))),some (.is (G9 f t0 jE i))]∧m=N-i) _ ⟨1,by omega,by omega,rfl,rfl⟩ ?_
 rintro m _ ⟨i,i1,iN,rfl,rfl⟩
 walk_at "rd"
 have hl:(List.range i).length<sizeLine:=by rw[List.length_range];exact Agi (by omega)
 refine Er (fun hw=>?_) (fun hw=>?_)
 ·have hi:i<N:=by
   rcases Nat.lt_or_ge i N with z|z
   ·exact z
   ·exfalso
    have:i=N:=by omega
    subst this
    rw[ne]at hw
    simp[rF]at hw
  refine⟨hl,stp i iN ⟨N-(i+1),by omega,i+1,by omega,by omega,?_,rfl⟩⟩
  rw[List.range_succ,List.map_append];rfl
 ·have hi:i=N:=by
   rcases Nat.lt_or_ge i N with z|z
   ·exfalso
    refine nl i (by omega) z ?_
    have hw:rF jE i (mov f t0)=rF jE 0 (mov f t0):=by
     generalize rF jE i (mov f t0)=g at *
     generalize rF jE 0 (mov f t0)=g' at *
     obtain⟨a,b,c⟩:=g
     obtain⟨a',b',c'⟩:=g'
     simp at hw
     obtain⟨h1,h2,h3⟩:=hw
     rw[h1,h2,h3]
    exact hw
   ·omega
  subst hi
  refine⟨hl,q _ ⟨t0,jE,i,R,?_⟩⟩
  rw[last]
def Im(f:I3):List Int:=[f.1,f.2.1,f.2.2]
def AjP(t:I4):List Int:=[t.1,t.2.1,t.2.2.1,t.2.2.2]
def An5(f:I3)(t0:I4)(far:Int)(N:Nat):List (List Int×List Int):=(List.range (N+1)).map fun i=>(Im (rF far i (mov f t0)),AjP (Aq t0 (rT far i (mov f t0))))
def Low(f:I3)(d:Dt):Prop:=∃t0 far N j,Nt f t0 far N∧j≤N∧(∀i,i≤N→HT.lexLt (Im (rF far i (mov f t0))) (Im (rF far j (mov f t0)))=false)∧d=G9 f t0 far j∧j=Lq (An5 f t0 far N)
abbrev Oz:HS:=G6 (fun f:I3=>[t3 f]) (fun f=>B3 1500 f) Sad Low Kg
theorem QB(bt:Nat→Nat→Bool):∀k,argBest bt k≤k
 |0=>Nat.le_refl _
 | k+1=>by
  have:=QB bt k
  unfold argBest
  split<;>omega
theorem Jh(bt:Nat→Nat→Bool)(ir:∀i,bt i i=false)(tr:∀a b c,bt a b=true→bt b c=true→bt a c=true):∀k j,j≤k→bt j (argBest bt k)=false
 | 0,j,h=>by
  have:j=0:=by omega
  subst this
  exact ir 0
 | k+1,j,h=>by
  unfold argBest
  split
  ·rename_i hb
   rcases Nat.lt_or_ge j (k+1)with z|z
   ·cases q:bt j (k+1)with
    |false=>rfl
    | true =>
     have:=Jh bt ir tr k j (by omega)
     rw[tr _ _ _ q hb]at this
     cases this
   ·have:j=k+1:=by omega
    subst this
    exact ir _
  ·rename_i hb
   rcases Nat.lt_or_ge j (k+1)with z|z
   ·exact Jh bt ir tr k j (by omega)
   ·have:j=k+1:=by omega
    subst this
    simpa using hb
theorem Xw:∀a b c:List Int,HT.lexLt a b=true→HT.lexLt b c=true→HT.lexLt a c=true
 | [],[],_,h,_=>by cases h
 | [],_::_,[],_,h=>by cases h
 | [],_::_,_::_,_,_=>rfl
 |_::_,[],_,h,_=>by cases h
 |_::_,_::_,[],_,h=>by cases h
 | x::a,y::b,z::c,h1,h2=>by
  rw[HT.Jw]at h1 h2 ⊢
  by_cases e1:x=y
  ·subst e1
   rw[if_pos rfl]at h1
   by_cases e2:x=z
   ·subst e2
    rw[if_pos rfl]at h2 ⊢
    exact Xw a b c h1 h2
   ·rw[if_neg e2]at h2 ⊢
    exact h2
  ·rw[if_neg e1]at h1
   have h1:=of_decide_eq_true h1
   by_cases e2:y=z
   ·subst e2
    rw[if_neg e1]
    exact decide_eq_true h1
   ·rw[if_neg e2]at h2
    have h2:=of_decide_eq_true h2
    rw[if_neg (by omega)]
    exact decide_eq_true (by omega)
theorem Agk(a b c:List Int×List Int)(h1:Gj a b=true)(h2:Gj b c=true):Gj a c=true:=by
 unfold Gj at *
 by_cases e1:a.1=b.1
 ·rw[if_pos e1]at h1
  by_cases e2:b.1=c.1
  ·rw[if_pos e2]at h2
   rw[if_pos (e1.trans e2)]
   exact Xw _ _ _ h1 h2
  ·rw[if_neg e2]at h2
   rw[if_neg (by rw[e1];exact e2),e1]
   exact h2
 ·rw[if_neg e1]at h1
  by_cases e2:b.1=c.1
  ·rw[←e2,if_neg e1]
   exact h1
  ·rw[if_neg e2]at h2
   have h3:=Xw _ _ _ h1 h2
   by_cases e3:a.1=c.1
   ·rw[e3,MK]at h3
    cases h3
   ·rw[if_neg e3]
    exact h3
theorem AcU(a:List Int×List Int):Gj a a=false:=by
 unfold Gj
 rw[if_pos rfl,MK]
theorem Adt{a b:List Int×List Int}(h:Gj a b=false):HT.lexLt a.1 b.1=false:=by
 unfold Gj at h
 by_cases e:a.1=b.1
 ·rw[e];exact MK _
 ·rw[if_neg e]at h;exact h
theorem Wo(T:Txt K mg)
  (uI:PmX P w K mg base 4 "check_saddle" Ce ["form"] Gy)
  (wR:Pm P w K mg base 6 "stops_round" Ei ["form"] J9)
  : PmX P w K mg base 7 "lowered" Hy ["form"] Oz:=by
 obtain⟨f,fd,F⟩:=T.yD
 refine⟨f,fd,F,F.fn.okX XH (fun ds Q E ⟨p,e,_⟩=>by rw[e];rfl) fun cdv A outer s H E hr=>⟨_,(Az (CZ (Bp Av uI (hr.mono (by decide)) rfl (Aa (dv 0) Ac))) (Bu (Ek (Aj (AeF T.yH (AhE hr.units) (Aa (Ah Af wR (hr.mono (by decide)) rfl (Aa (dv 0) Ac)) Ac)))))),fun ds Q Ex h=>?_⟩⟩
 obtain⟨f,rfl,hb,q,x⟩:=h
 walk_at "go"
 refine Bq f hb (fun hS _ _=>?_) x
 refine Bs f ⟨hb,hS⟩ ?_
 rintro _ ⟨t0,far,N,R,rfl⟩
 have nm:=R.m
 let ps:List (List Int×List Int):=(List.range (N+1)).map fun i=>(Im (rF far i (mov f t0)),AjP (Aq t0 (rT far i (mov f t0))))
 have lp:ps.length=N+1:=by show((List.range (N+1)).map _).length=_;rw[List.length_map,List.length_range]
 have ep:(List.range (N+1)).map (G9 f t0 far)=ps.map Od:=by
  show _=((List.range (N+1)).map _).map Od
  rw[List.map_map]
  rfl
 have at':∀i,i≤N→ps.getD i ([],[])=(Im (rF far i (mov f t0)),AjP (Aq t0 (rT far i (mov f t0)))):=fun i hi=>by
  show((List.range (N+1)).map _).getD i _=_
  simp[List.getD,show i<N+1 by omega]
 have kl:Lq ps≤N:=by
  have:=QB (fun i j=>Gj (ps.getD i ([],[])) (ps.getD j ([],[]))) (ps.length-1)
  unfold Lq
  omega
 have least:∀i,i≤N→Gj (ps.getD i ([],[])) (ps.getD (Lq ps) ([],[]))=false:=fun i hi =>
  Jh (fun i j=>Gj (ps.getD i ([],[])) (ps.getD j ([],[]))) (fun _=>AcU _) (fun _ _ _ h1 h2=>Agk _ _ _ h1 h2) _ i (by omega)
 refine⟨ps,by rw[ep],by omega,by omega,q hS _ ⟨t0,far,N,Lq ps,R,kl,fun i hi=>?_,?_,rfl⟩⟩
 ·have:=Adt (least i hi)
  rw[at' i hi,at' _ kl]at this
  exact this
 ·rw[at' _ kl]
  rfl
abbrev U8(c:Str)(f:I3)(d:Dt):Dt:=.obj c ["form","measure","lowest"] [t3 f,.int (meas f),d]
abbrev N8:DIn:=ZK (fun p:I3×Dt=>[t3 p.1,p.2]) (fun p=>B3 1500 p.1) fun p fds=>fds=[t3 p.1,.int (meas p.1),p.2]
abbrev Vx:DIn:=ZK (fun f:I3=>[t3 f]) (fun f=>B3 1500 f∧BJ f) fun f fds=>∃d,Jy f d∧fds=[t3 f,.int (meas f),d]
theorem Abp(T:Txt K mg)
  (bB:Pm P w K mg base 1 "measure" Dg ["form"] EY)
  : PmC P w K mg base 2 "Shape" ["form","measure","lowest"] N8:=by
 obtain⟨g,fd,M,F,B⟩:=T.aaK
 refine⟨g,fd,_,M,B,F.ok AaU (fun vs H Q E ⟨x,C,dx,ys,F',ds,e,_,_,_,_,_,r,h⟩=>by obtain⟨p,ed,_⟩:=h;rw[e,List.length_cons,r.len,ed];rfl) fun cdv A outer s H vs Q E hr ⟨x,C,dx,ys,F',ds,e,hx,cl,no,xF,th,r,h⟩=>?_⟩
 subst e
 refine⟨_,AdL (dv 1) (Ah Af bB (hr.mono (by decide)) rfl (Aa (dv 1) Ac)) (dv 2) (by decide) (by decide) (by decide),mask [x] H,F',JD ["self","form","lowest"] ds,x,C,dx,(fun fds:List Dt=>∀(ws:List V)(H':Hp),Same (mask [x] H) H'→H' x=some (.ins C dx (List.zip ["form","measure","lowest"] ws))→List.length ["form","measure","lowest"]=fds.length→RpL K (mask F' H') fds ws→Q .non H'),Ma xF th r,xF,DR (by simp),rfl,hx,cl,no,?_,fun fds w ws H' s1 h1 h2 h3=>w ws H' s1 h1 h2 h3⟩
 revert h
 generalize (fun fds:List Dt=>∀(ws:List V)(H':Hp),Same (mask [x] H) H'→H' x=some (.ins C dx (List.zip ["form","measure","lowest"] ws))→List.length ["form","measure","lowest"]=fds.length→RpL K (mask F' H') fds ws→Q .non H')=S
 intro h
 obtain⟨⟨f,l⟩,rfl,hb,hq⟩:=h
 have hb:B3 1500 f:=hb
 have e:JD ["self","form","lowest"] [t3 f,l]=[none,some (.is (t3 f)),some (.is l)]:=rfl
 dsimp only
 rw[e]
 walk_at "rd"
 exact Ar f (hb.le (by decide)) (hq _ rfl)
theorem Acq(T:Txt K mg)
  (vo:PmC P w K mg base 2 "Shape" ["form","measure","lowest"] N8)
  (ac1:Pm P w K mg base 5 "settled" HD ["form"] Rf)
  : PmI P w K mg base 6 "Bowl" ["form","measure","lowest"] Vx:=by
 obtain⟨C0,f,fd,M,F,B⟩:=T.adK
 obtain⟨gC,fdC,psC,MC,BC,GC⟩:=vo
 refine⟨C0,f,fd,_,M,B,F.ok Ad3 (fun vs H Q E ⟨x,C,dx,ys,F',ds,e,_,_,_,_,_,r,h⟩=>by obtain⟨p,ed,_⟩:=h;rw[e,List.length_cons,r.len,ed];rfl) fun cdv A outer s H vs Q E hr ⟨x,C,dx,ys,F',ds,e,hx,cl,no,xF,th,r,h⟩=>?_⟩
 subst e
 refine⟨_,Ads Mh MC rfl GC BC (hr.mono (by decide)) (Aa (dv 1) (Aa (Ah Af ac1 (hr.mono (by decide)) rfl (Aa (dv 1) Ac)) Ac)),mask [x] H,F',JD ["self","form"] ds,x,C,dx,(fun fds:List Dt=>∀(ws:List V)(H':Hp),Same (mask [x] H) H'→H' x=some (.ins C dx (List.zip ["form","measure","lowest"] ws))→List.length ["form","measure","lowest"]=fds.length→RpL K (mask F' H') fds ws→Q .non H'),Ma xF th r,xF,DR (by simp),rfl,hx,cl,no,?_,fun fds w ws H' s1 h1 h2 h3=>w ws H' s1 h1 h2 h3⟩
 revert h
 generalize (fun fds:List Dt=>∀(ws:List V)(H':Hp),Same (mask [x] H) H'→H' x=some (.ins C dx (List.zip ["form","measure","lowest"] ws))→List.length ["form","measure","lowest"]=fds.length→RpL K (mask F' H') fds ws→Q .non H')=S
 intro h
 obtain⟨f,rfl,⟨hb,hw⟩,hq⟩:=h
 have e:JD ["self","form"] [t3 f]=[none,some (.is (t3 f))]:=rfl
 rw[e]
 walk_at "rd"
 refine Bs f ⟨hb,hw⟩ fun d hd=>?_
 refine Q5 (f,d) hb ?_
 rintro _ rfl
 exact hq _ ⟨d,hd,rfl⟩
abbrev O2:Yb:=U0 (fun f:I3=>[t3 f]) (fun f=>B3 1500 f) Sad (fun f fds=>∃d,Low f d∧fds=[t3 f,.int (meas f),d]) Kg
theorem Vo(T:Txt K mg)
  (vo:PmC P w K mg base 2 "Shape" ["form","measure","lowest"] N8)
  (abS:PmX P w K mg base 7 "lowered" Hy ["form"] Oz)
  : Ai1 P w K mg base 8 "Saddle" ["form","measure","lowest"] O2:=by
 obtain⟨C0,f,fd,M,F,B⟩:=T.aaJ
 obtain⟨gC,fdC,psC,MC,BC,GC⟩:=vo
 refine⟨C0,f,fd,_,M,B,F.okE Yj (fun vs H Q E ⟨x,C,dx,ys,F',ds,e,_,_,_,_,_,r,h⟩=>by obtain⟨p,ed,_⟩:=h;rw[e,List.length_cons,r.len,ed];rfl) fun cdv A outer s H vs Q E hr ⟨x,C,dx,ys,F',ds,e,hx,cl,no,xF,th,r,h⟩=>?_⟩
 subst e
 refine⟨_,Abn Mh MC rfl GC BC (hr.mono (by decide)) (Abo (dv 1) (Adg (Bp Av abS (hr.mono (by decide)) rfl (Aa (dv 1) Ac)) Ac)),mask [x] H,F',JD ["self","form"] ds,x,C,dx,(fun fds:List Dt=>∀(ws:List V)(H':Hp),Same (mask [x] H) H'→H' x=some (.ins C dx (List.zip ["form","measure","lowest"] ws))→List.length ["form","measure","lowest"]=fds.length→RpL K (mask F' H') fds ws→Q .non H'),(fun y:Dt=>∀(a:Addr)(H':Hp),Same (mask [x] H) H'→Rp K (mask F' H') y (.ref a)→E (.ref a) none H'),Ma xF th r,xF,DR (by simp),rfl,hx,cl,no,?_,fun fds w ws H' s1 h1 h2 h3=>w ws H' s1 h1 h2 h3,fun y w a H' s1 r1=>Y7 fun H2 s2=>w a H2 (s1.trans s2) (r1.mono s2.mask)⟩
 revert h
 generalize (fun fds:List Dt=>∀(ws:List V)(H':Hp),Same (mask [x] H) H'→H' x=some (.ins C dx (List.zip ["form","measure","lowest"] ws))→List.length ["form","measure","lowest"]=fds.length→RpL K (mask F' H') fds ws→Q .non H')=S
 generalize (fun y:Dt=>∀(a:Addr)(H':Hp),Same (mask [x] H) H'→Rp K (mask F' H') y (.ref a)→E (.ref a) none H')=Ex
 intro h
 obtain⟨f,rfl,hb,hq,hx⟩:=h
 have e:JD ["self","form"] [t3 f]=[none,some (.is (t3 f))]:=rfl
 rw[e]
 walk_at "rd"
 refine Bq f hb (fun hS d hd=>?_) hx
 refine Q5 (f,d) hb ?_
 rintro _ rfl
 exact hq hS _ ⟨d,hd,rfl⟩
abbrev NK:DSp:=CV (fun p:Str×I3×Dt=>[U8 p.1 p.2.1 p.2.2]) (fun p=>p.1="Bowl"∨p.1="Saddle") fun p=>p.2.2
theorem AaQ(T:Txt K mg)
  : PmM P w K mg base 1 ["Bowl","Saddle"] "least" NK:=by
 obtain⟨g,fd,hm,kp,F,B⟩:=T.aaL
 refine⟨g,fd,_,hm,kp,B,F.okD Abf (by walk_at "lE") fun cdv A outer s H E hr=>⟨_,(Ai (Aj (Kv (dv 0)))),fun ds Q h=>?_⟩⟩
 obtain⟨⟨c,f,d⟩,rfl,hc,q⟩:=h
 have q':=q _ rfl
 walk_at "go"
 have na:HY K c "lowest":=by
  rcases hc with e|e
  ·have e:c="Bowl":=e
   rw[e];exact T.jy
  ·have e:c="Saddle":=e
   rw[e];exact T.gA
 exact⟨na,d,rfl,q'⟩
def CK(f:I3):Prop:=BJ f∨Sad f
def ApN(f:I3)(d:Dt):Prop:=∃l,(BJ f∧Jy f l∧d=U8 "Bowl" f l)∨(Sad f∧Low f l∧d=U8 "Saddle" f l)
abbrev Gh:HS:=G6 (fun f:I3=>[t3 f]) (fun f=>B3 1500 f) CK ApN Kg
theorem T6(T:Txt K mg)
  (aex:PmI P w K mg base 6 "Bowl" ["form","measure","lowest"] Vx)
  (abT:Ai1 P w K mg base 8 "Saddle" ["form","measure","lowest"] O2)
  (rG:Pm P w K mg base 3 "shape" Iu ["form"] Mt)
  : PmX P w K mg base 10 "shape_of" CG ["form"] Gh:=by
 obtain⟨f,fd,F⟩:=T.uX
 refine⟨f,fd,F,F.fn.okX V2 (fun ds Q E ⟨p,e,_⟩=>by rw[e];rfl) fun cdv A outer s H E hr=>⟨_,(Az (Ek (Bw (BZ hr.units (Ah Af rG (hr.mono (by decide)) rfl (Aa (dv 0) Ac)) Km) (Ai (Aj (Acx Mh aex (hr.mono (by decide)) rfl (Aa (dv 0) Ac)))) Bc)) (Bu (JG (Abb VL abT (hr.mono (by decide)) rfl (Aa (dv 0) Ac))))),fun ds Q Ex h=>?_⟩⟩
 obtain⟨f,rfl,hb,q,x⟩:=h
 have hb:B3 1500 f:=hb
 walk_at "go"
 refine Bs f hb ?_
 rintro _ hs
 have fb:∀x:Str,(PySem.PyData.str x).canLay0=true→Dt.flat 8 (.str x)=true:=fun x h=>by rw[LK];exact h
 have f1:Dt.flat 8 (.str "bowl")=true:=fb _ (by decide +kernel)
 have mkS:¬BJ f→U0 (fun f:I3=>[t3 f]) (fun f=>B3 1500 f) Sad (fun f fds=>∃d,Low f d∧fds=[t3 f,Dt.int (meas f),d]) Kg [t3 f] (fun fds=>Q (Dt.obj "Saddle" ["form","measure","lowest"] fds)) Ex:=fun nB=>by
  refine AaL f hb (fun hS=>?_) fun nS=>x fun z=>z.elim nB nS
  rintro _ ⟨l,hl,rfl⟩
  exact q (.inr hS) _ ⟨l,.inr ⟨hS,hl,rfl⟩⟩
 cases hs with
 |flat z=>exact⟨⟨fb _ (by decide +kernel),f1⟩,CP (by rw[K5];rfl) (mkS fun h=>absurd z (G5 h.2))⟩
 |saddle _ z=>exact⟨⟨fb _ (by decide +kernel),f1⟩,CP (by rw[K5];rfl) (mkS fun h=>by have:=h.2;omega)⟩
 |dome _ z1 z2=>exact⟨⟨fb _ (by decide +kernel),f1⟩,CP (by rw[K5];rfl) (mkS fun h=>z2 h.1)⟩
 | bowl n z1 z2 =>
  have hw:BJ f:=⟨z2,by have h0:¬meas f=0:=fun e=>n (by rw[e];exact⟨0,rfl⟩);omega⟩
  refine⟨⟨f1,f1⟩,ift (by rw[K5];rfl) (Q5 f ⟨hb,hw⟩ ?_)⟩
  rintro _ ⟨l,hl,rfl⟩
  exact q (.inl hw) _ ⟨l,.inl ⟨hw,hl,rfl⟩⟩
def LF(f g:I3):Prop:=(BJ f∧∃t,det t=1∧Eo (mov f t)∧g=mov f t)∨(Sad f∧∃t0 far N j,Nt f t0 far N∧j≤N∧(∀i,i≤N→HT.lexLt (Im (rF far i (mov f t0))) (Im (rF far j (mov f t0)))=false)∧g=rF far j (mov f t0))
theorem Aax{f g:I3}(h1:HT.lexLt (Im f) (Im g)=false)(h2:HT.lexLt (Im g) (Im f)=false):f=g:=by
 obtain⟨x1,x2,x3⟩:=f
 obtain⟨y1,y2,y3⟩:=g
 simp only[Im,HT.Jw,HT.IV]at h1 h2
 have e1:x1=y1:=by
  rcases Int.lt_trichotomy x1 y1 with z|z|z
  ·rw[if_neg (by omega)]at h1;simp at h1;omega
  ·exact z
  ·rw[if_neg (by omega)]at h2;simp at h2;omega
 subst e1
 rw[if_pos rfl]at h1 h2
 have e2:x2=y2:=by
  rcases Int.lt_trichotomy x2 y2 with z|z|z
  ·rw[if_neg (by omega)]at h1;simp at h1;omega
  ·exact z
  ·rw[if_neg (by omega)]at h2;simp at h2;omega
 subst e2
 rw[if_pos rfl]at h1 h2
 have e3:x3=y3:=by
  rcases Int.lt_trichotomy x3 y3 with z|z|z
  ·rw[if_neg (by omega)]at h1;simp at h1;omega
  ·exact z
  ·rw[if_neg (by omega)]at h2;simp at h2;omega
 rw[e3]
theorem Ls{far:Int}{g:I3}{N:Nat}(e:rF far N g=g):∀q,rF far (N*q) g=g
 |0=>rfl
 |q+1=>by rw[Nat.mul_succ,Gp,Ls e q,e]
theorem PL{far:Int}{g:I3}{N:Nat}(e:rF far N g=g)(n0:0<N)(n:Nat):∃i,i≤N∧rF far n g=rF far i g:=by
 have h1:=Nat.mod_lt n n0
 have h2:=Nat.div_add_mod n N
 refine⟨n % N,by omega,?_⟩
 have:rF far (N*(n / N)+n % N) g=rF far (n % N) g:=by rw[Gp,Ls e]
 rw[h2]at this
 exact this
theorem Ky{far:Int}{g h:I3}{N m:Nat}(e:rF far N h=h)(n0:0<N)(k:rF far m h=g):∃j,rF far j g=h:=by
 refine⟨N*m-m,?_⟩
 rw[←k,←Gp]
 have:m≤N*m:=Nat.le_mul_of_pos_left m n0
 rw[show m+(N*m-m)=N*m by omega,Ls e]
theorem LF.uniq{f g h:I3}(A:LF f g)(B:LF f h):g=h:=by
 rcases A with⟨hb,t,dt,Lt,rfl⟩|⟨hS,t0,far,N,j,R,jl,lj,rfl⟩<;>rcases B with⟨hb',u,du,Lu,rfl⟩|⟨hS',t1,aeW,N1,k,R1,kl,lk,rfl⟩
 ·have e:mov (mov f t) (Aq (Ax t) u)=mov f u:=by rw[←BK,Cm dt]
  have:=Eo.one Lt (t:=Aq (Ax t) u) (by rw[e];exact Lu) (by rw[Dl,Ez,dt,du];rfl)
  rw[e]at this
  exact this.symm
 ·have:=hb.2;have:=hS'.pos;omega
 ·have:=hb'.2;have:=hS.pos;omega
 ·have ef:far=aeW:=R.r.uniq R1.r
  subst ef
  have e1:mov (mov f t0) (Aq (Ax t0) t1)=mov f t1:=by rw[←BK,Cm R.d]
  have d1:det (Aq (Ax t0) t1)=1:=by rw[Dl,Ez,R.d,R1.d];rfl
  have en:N=N1:=(TJ R.v R1.v d1 e1 R.e R.l R1.e R1.l R.n R1.n).1
  subst en
  have hm:∃m,rF far m (mov f t0)=mov f t1:=by
   rcases Q6 R.v R1.v d1 e1 with⟨m,s⟩|⟨m,s⟩
   ·exact⟨m,by rw[←Hg,←s.mov,e1]⟩
   ·have e2:mov (mov f t1) (Ax (Aq (Ax t0) t1))=mov f t0:=by rw[←e1,Cm d1]
    exact Ky (m:=m) R1.e R1.n (by rw[←Hg,←s.mov,e2])
  obtain⟨m,hm⟩:=hm
  obtain⟨m',hm'⟩:=Ky R.e R.n hm
  obtain⟨i1,a1,b1⟩:=PL R.e R.n (m+k)
  obtain⟨i2,a2,b2⟩:=PL R1.e R1.n (m'+j)
  have h1:=lj i1 a1
  have h2:=lk i2 a2
  rw[←b1,Gp,hm]at h1
  rw[←b2,Gp,hm']at h2
  exact(Aax h1 h2).symm
theorem AdX{f:I3}{l:Dt}(h:(BJ f∧Jy f l)∨(Sad f∧Low f l)):∃g:I3,∃x:Dt,l=.tup [t3 g,x]∧LF f g:=by
 rcases h with⟨hb,t,rfl,dt,L,_⟩|⟨hS,t0,far,N,j,R,jl,lj,rfl,_⟩
 ·exact⟨_,_,rfl,.inl ⟨hb,t,dt,L,rfl⟩⟩
 ·exact⟨_,_,rfl,.inr ⟨hS,t0,far,N,j,R,jl,lj,rfl⟩⟩
abbrev Kl:DSp:=spec (fun f:I3=>[t3 f]) (fun f=>B3 1500 f∧(BJ f∨Sad f)) fun f d=>∃l,(BJ f∧Jy f l∧d=U8 "Bowl" f l)∨(Sad f∧Low f l∧d=U8 "Saddle" f l)
theorem VF{P:Program}{w:World}{K:W.Frag}{mg:Str→Option Value}{base:Heap}(G:PmX P w K mg base 10 "shape_of" CG ["form"] Gh)
  : Pm P w K mg base 10 "shape_of" CG ["form"] Kl:=by
 refine G.pm Av fun ds Q h=>?_
 obtain⟨f,e,⟨hb,hk⟩,q⟩:=h
 exact⟨f,e,hb,fun _ d z=>q d z,fun z=>absurd hk z⟩
abbrev Ou:DSp:=spec (fun f:I3=>[t3 f]) (fun f=>B3 1500 f∧(BJ f∨Sad f)) fun f d=>∃g,d=t3 g∧LF f g
theorem W2(T:Txt K mg)
  (pW:Pm P w K mg base 10 "shape_of" CG ["form"] Kl)
  : Pm P w K mg base 11 "least_of" GP ["form"] Ou:=by
 obtain⟨f,fd,F⟩:=T.uY
 refine⟨f,fd,F,F.fn.okD VD (by walk_at "lE") fun cdv A outer s H E hr=>⟨_,(Ai (Aj (Ad (Kv (Ah Af pW (hr.mono (by decide)) rfl (Aa (dv 0) Ac))) Ab))),fun ds Q h=>?_⟩⟩
 obtain⟨f,rfl,⟨hb,hw⟩,q⟩:=h
 walk_at "go"
 refine Bs f ⟨hb,hw⟩ ?_
 rintro _ ⟨l,⟨hf,hl,rfl⟩|⟨hf,hl,rfl⟩⟩
 ·obtain⟨g,x,rfl,L⟩:=AdX (.inl ⟨hf,hl⟩)
  walk_at "rd"
  exact⟨T.jy,_,rfl,q _ ⟨g,rfl,L⟩⟩
 ·obtain⟨g,x,rfl,L⟩:=AdX (.inr ⟨hf,hl⟩)
  walk_at "rd"
  exact⟨T.gA,_,rfl,q _ ⟨g,rfl,L⟩⟩
def Ab8(f:I3)(l:Dt):Prop:=(BJ f∧Jy f l)∨(Sad f∧Low f l)
theorem LF.same{f h g g':I3}{x:I4}(A:LF f g)(B:LF h g')(dx:det x=1)(ex:mov f x=h):g=g':=by
 have hm:meas h=meas f:=by rw[←ex,Ca dx]
 rcases A with⟨hb,t,dt,Lt,rfl⟩|⟨hS,t0,far,N,j,R,jl,lj,rfl⟩<;>rcases B with⟨hb',u,du,Lu,rfl⟩|⟨hS',t1,aeW,N1,k,R1,kl,lk,rfl⟩
 ·have e:mov (mov f t) (Aq (Ax t) (Aq x u))=mov h u:=by rw[←BK,Cm dt,←BK,ex]
  have:=Eo.one Lt (t:=Aq (Ax t) (Aq x u)) (by rw[e];exact Lu) (by rw[Dl,Dl,Ez,dt,dx,du];rfl)
  rw[e]at this
  exact this.symm
 ·have:=hb.2;have:=hS'.pos;omega
 ·have:=hb'.2;have:=hS.pos;omega
 ·have ef:far=aeW:=R.r.uniq (by rw[←hm];exact R1.r)
  subst ef
  have e1:mov (mov f t0) (Aq (Ax t0) (Aq x t1))=mov h t1:=by rw[←BK,Cm R.d,←BK,ex]
  have d1:det (Aq (Ax t0) (Aq x t1))=1:=by rw[Dl,Dl,Ez,R.d,dx,R1.d];rfl
  have en:N=N1:=(TJ R.v R1.v d1 e1 R.e R.l R1.e R1.l R.n R1.n).1
  subst en
  have hm:∃m,rF far m (mov f t0)=mov h t1:=by
   rcases Q6 R.v R1.v d1 e1 with⟨m,s⟩|⟨m,s⟩
   ·exact⟨m,by rw[←Hg,←s.mov,e1]⟩
   ·have e2:mov (mov h t1) (Ax (Aq (Ax t0) (Aq x t1)))=mov f t0:=by rw[←e1,Cm d1]
    exact Ky (m:=m) R1.e R1.n (by rw[←Hg,←s.mov,e2])
  obtain⟨m,hm⟩:=hm
  obtain⟨m',hm'⟩:=Ky R.e R.n hm
  obtain⟨i1,a1,b1⟩:=PL R.e R.n (m+k)
  obtain⟨i2,a2,b2⟩:=PL R1.e R1.n (m'+j)
  have h1:=lj i1 a1
  have h2:=lk i2 a2
  rw[←b1,Gp,hm]at h1
  rw[←b2,Gp,hm']at h2
  exact(Aax h1 h2).symm
theorem Ag8{f:I3}{l:Dt}(h:Ab8 f l):∃(g:I3)(t:I4),l=.tup [t3 g,t4 t]∧LF f g∧det t=1∧mov f t=g∧B4 90000 t:=by
 rcases h with⟨hb,t,rfl,dt,L,bt,_⟩|⟨hS,t0,far,N,j,R,jl,lj,rfl,_⟩
 ·exact⟨_,t,rfl,.inl ⟨hb,t,dt,L,rfl⟩,dt,rfl,bt.le (by decide)⟩
 ·exact⟨_,_,rfl,.inr ⟨hS,t0,far,N,j,R,jl,lj,rfl⟩,by rw[Dl,R.d,Qy];rfl,by rw[←BK,Hg],R.bt j jl⟩
theorem Pu{f:I3}{d:Dt}(h:∃l,(BJ f∧Jy f l∧d=U8 "Bowl" f l)∨(Sad f∧Low f l∧d=U8 "Saddle" f l)):∃(c:Str)(l:Dt),(c="Bowl"∨c="Saddle")∧d=U8 c f l∧Ab8 f l:=by
 obtain⟨l,⟨h1,h2,rfl⟩|⟨h1,h2,rfl⟩⟩:=h
 ·exact⟨_,l,.inl rfl,rfl,.inl ⟨h1,h2⟩⟩
 ·exact⟨_,l,.inr rfl,rfl,.inr ⟨h1,h2⟩⟩
theorem Pz{K:W.Frag}{mg:Str→Option Value}(T:Txt K mg){c:Str}(hc:c="Bowl"∨c="Saddle"):HY K c "measure":=by
 rcases hc with e|e<;>rw[e]
 ·exact T.lV
 ·exact T.jT
theorem Iv{n:Nat}{a b:Int}(ha:Bt n a)(h:b≠0):Bt (n+1) (a.fdiv b):=by
 have hb:1≤b.natAbs:=by omega
 have h1:=Kr (a:=a) h
 have e:b*a.fdiv b=a-a.fmod b:=by rw[Eb];grind
 have e2:b.natAbs*(a.fdiv b).natAbs=(a-a.fmod b).natAbs:=by rw[←Int.natAbs_mul,e]
 unfold Bt at *
 rw[Nat.pow_succ]
 by_cases h0:a.fdiv b=0
 ·rw[h0];have:=Nat.two_pow_pos n;simp;omega
 ·rcases Nat.lt_or_ge a.natAbs b.natAbs with hc|hc
  ·have h3:(a-a.fmod b).natAbs<2*b.natAbs:=by omega
   have h4:(a.fdiv b).natAbs<2:=by
    refine Nat.lt_of_mul_lt_mul_left (a:=b.natAbs) ?_
    rw[e2];omega
   have:=Nat.two_pow_pos n
   omega
  ·have h3:(a-a.fmod b).natAbs≤2*a.natAbs:=by omega
   have h4:(a.fdiv b).natAbs≤b.natAbs*(a.fdiv b).natAbs:=Nat.le_mul_of_pos_left _ hb
   omega
theorem Sx{n:Nat}{t b:Int}(h:Bt n (t*b))(hb:b≠0):Bt n t:=by
 unfold Bt at *
 rw[Int.natAbs_mul]at h
 have h4:t.natAbs≤t.natAbs*b.natAbs:=Nat.le_mul_of_pos_right _ (by omega)
 omega
structure Rows(a b n u v m s t:Int):Prop where
 r1:n=u*a+v*b
 r2:m=s*a+t*b
 g:Int.gcd n m=Int.gcd a b
 n0:Bt 800 n
 m0:Bt 800 m
 u0:Bt 801 u
 s0:Bt 801 s
 v0:Bt 2000 v
 t0:Bt 2000 t
structure Lat(b n u m s:Int):Prop where
 ex:∃e d N M U S B:Int,n=e*N∧m=e*M∧u=d*U∧s=d*S∧b=e*B∧(e=1∨e=-1)∧(d=1∨d=-1)∧0<N∧0≤M∧U≤0∧0≤S∧N*S-M*U=B∧-U≤B
theorem Lat.first{a b:Int}(h:b≠0):Lat b b 0 (a.fmod b) 1:=by
 rcases Int.lt_or_lt_of_ne h with h|h
 ·have e:a.fmod b=-((-a).fmod (-b)):=by rw[Eb,Eb,Int.neg_fdiv_neg];grind
  have h1:=Int.fmod_nonneg_of_pos (-a) (show 0 < -b by omega)
  exact⟨-1,1,-b,(-a).fmod (-b),0,1,-b,by omega,by omega,by omega,by omega,by omega,.inr rfl,.inl rfl,by omega,h1,by omega,by omega,by simp,by omega⟩
 ·have h1:=Int.fmod_nonneg_of_pos a h
  exact⟨1,1,b,a.fmod b,0,1,b,by omega,by omega,by omega,by omega,by omega,.inl rfl,.inl rfl,by omega,h1,by omega,by omega,by simp,by omega⟩
theorem Lat.step{b n u m s:Int}(L:Lat b n u m s)(h:m≠0):Lat b m s (n-n.fdiv m*m) (u-n.fdiv m*s):=by
 obtain⟨e,d,N,M,U,S,B,hn,hm,hu,hs,hb,he,hd,hN,hM,hU,hS,hE,hUB⟩:=L.ex
 have hM':0<M:=by
  rcases Int.lt_or_eq_of_le hM with z|z
  ·exact z
  ·rw[←z]at hm;simp at hm;exact absurd hm h
 have q1:n.fdiv m=N.fdiv M:=by
  rw[hn,hm]
  rcases he with rfl|rfl
  ·simp
  ·simp[Int.neg_fdiv_neg]
 have q2:0≤N.fdiv M:=Int.fdiv_nonneg (by omega) (by omega)
 have q3:0≤N-M*N.fdiv M:=by rw[←Eb];exact Int.fmod_nonneg_of_pos N hM'
 rw[q1]
 generalize N.fdiv M=q at *
 have hSB:S≤B:=by
  have z1:0≤M*(-U):=Int.mul_nonneg hM (by omega)
  have z2:0≤(N-1)*S:=Int.mul_nonneg (by omega) hS
  have:N*S-M*U=(N-1)*S+S+M*(-U):=by grind
  omega
 have z3:0≤q*S:=Int.mul_nonneg q2 hS
 refine⟨e,-d,M,N-M*q,-S,q*S-U,B,hm,?_,?_,?_,hb,he,?_,hM',q3,by omega,by omega,?_,by omega⟩
 ·rw[hn,hm];grind
 ·rw[hs];grind
 ·rw[hu,hs];grind
 ·rcases hd with rfl|rfl
  ·exact .inr rfl
  ·exact .inl rfl
 ·rw[←hE];grind
theorem Lat.bounds{b n u m s:Int}(L:Lat b n u m s):u.natAbs≤b.natAbs∧s.natAbs≤b.natAbs:=by
 obtain⟨e,d,N,M,U,S,B,hn,hm,hu,hs,hb,he,hd,hN,hM,hU,hS,hE,hUB⟩:=L.ex
 have z1:0≤M*(-U):=Int.mul_nonneg hM (by omega)
 have z2:0≤(N-1)*S:=Int.mul_nonneg (by omega) hS
 have:N*S-M*U=(N-1)*S+S+M*(-U):=by grind
 have hSB:S≤B:=by omega
 rcases he with rfl|rfl<;>rcases hd with rfl|rfl<;>omega
theorem Rows.first{a b:Int}(ha:Bt 800 a)(hb:Bt 800 b):Rows a b a 1 0 b 0 1 :=
 ⟨by omega,by omega,rfl,ha,hb,Bt.one.le (by decide),Bt.zero.le (by decide),Bt.zero.le (by decide),Bt.one.le (by decide)⟩
theorem Rows.step{a b n u v m s t:Int}(R:Rows a b n u v m s t)(ha:Bt 800 a)(hb:Bt 800 b)(hbn:b≠0)(h:m≠0)(L:Lat b m s (n-n.fdiv m*m) (u-n.fdiv m*s)) :
  Rows a b m s t (n-n.fdiv m*m) (u-n.fdiv m*s) (v-n.fdiv m*t):=by
 have e:n-n.fdiv m*m=n.fmod m:=by rw[Eb];grind
 have hl:=Kr (a:=n) h
 have hm:=R.m0
 have hs:Bt 801 (u-n.fdiv m*s):=by
  have:=L.bounds.2
  have hb':=hb.le (m:=801) (by decide)
  unfold Bt at *
  omega
 have hr:Bt 800 (n-n.fdiv m*m):=by rw[e];unfold Bt at *;omega
 have er:n-n.fdiv m*m=(u-n.fdiv m*s)*a+(v-n.fdiv m*t)*b:=by
  have h1:=R.r1
  have h2:=R.r2
  generalize n.fdiv m=q at *
  rw[h1,h2];grind
 refine⟨R.r2,er,?_,R.m0,hr,R.s0,hs,R.t0,?_⟩
 ·rw[e,Q7];exact R.g
 ·refine Sx (b:=b) ?_ hbn
  have:(v-n.fdiv m*t)*b=(n-n.fdiv m*m)-(u-n.fdiv m*s)*a:=by rw[er];grind
  rw[this]
  exact(hr.sub (hs.mul ha)).le (by decide)
abbrev Ov:DSp:=CV (fun p:(Int×Int×Int)×(Int×Int×Int)×Int=>[T3 p.1.1 p.1.2.1 p.1.2.2,T3 p.2.1.1 p.2.1.2.1 p.2.1.2.2,.int p.2.2]) (fun p=>Bt 2000 p.2.2∧Bt 2000 p.2.1.1∧Bt 2000 p.2.1.2.1∧Bt 2000 p.2.1.2.2)
 fun p=>T3 (p.1.1-p.2.2*p.2.1.1) (p.1.2.1-p.2.2*p.2.1.2.1) (p.1.2.2-p.2.2*p.2.1.2.2)
abbrev TV:DSp:=spec (fun p:I2=>[.int p.1,.int p.2]) (fun p=>Bt 800 p.1∧Bt 800 p.2) fun p d=>∃u v:Int,d=T3 ((Int.gcd p.1 p.2:Nat):Int) u v∧u*p.1+v*p.2=((Int.gcd p.1 p.2:Nat):Int)∧Bt 2000 u∧Bt 2000 v
theorem V7(T:Txt K mg)
  : Pm P w K mg base 1 "row_less" GJ ["row","lower","often"] Ov:=by
 obtain⟨f,fd,F⟩:=T.uW
 refine⟨f,fd,F,F.fn.okD Wa (by walk_at "lE") fun cdv A outer s H E hr=>⟨_,(Ai (Aj (Bf (Aa (BR (Ad (dv 0) Ab) (Al (dv 2) (Ad (dv 1) Ab))) (Aa (BR (Ad (dv 0) Ab) (Al (dv 2) (Ad (dv 1) Ab))) (Aa (BR (Ad (dv 0) Ab) (Al (dv 2) (Ad (dv 1) Ab))) Ac)))))),fun ds Q h=>?_⟩⟩
 obtain⟨⟨⟨n,u,v⟩,⟨m,s,t⟩,q⟩,rfl,⟨hq,hm,hs,ht⟩,k⟩:=h
 walk_at "go"
 walk_at "muls"
 exact k _ rfl
theorem Abr(T:Txt K mg)
  (abU:Pm P w K mg base 1 "row_less" GJ ["row","lower","often"] Ov)
  : Pm P w K mg base 2 "shares" Jo ["one","other"] TV:=by
 obtain⟨f,fd,F⟩:=T.aaQ
 refine⟨f,fd,F,F.fn.okD Hz (by walk_at "lE") fun cdv A outer s H E hr=>⟨_,(Ae (Ao 2 Hz.nd (Bf (Aa (dv 0) (Aa Ab (Aa Ab Ac))))) (Ae (Ao 3 Hz.nd (Bf (Aa (dv 1) (Aa Ab (Aa Ab Ac))))) (Ae (Ie PassesOwn.never (Ih hr.units (Ad (dv 3) Ab) Ab) (Ae (Ao 4 Hz.nd (Ah Af abU (hr.mono (by decide)) rfl (Aa (dv 2) (Aa (dv 3) (Aa (Cr (Ad (dv 2) Ab) (Ad (dv 3) Ab)) Ac))))) (Ae (Ao 2 Hz.nd (dv 3)) (Ai (Ao 3 Hz.nd (dv 4)))))) (Ae (Bw (Q8 (Ad (dv 2) Ab) Ab) (Ai (Aj (Bf (Aa (Cg (Ad (dv 2) Ab)) (Aa (Cg (Ad (dv 2) Ab)) (Aa (Cg (Ad (dv 2) Ab)) Ac)))))) Bc) (Ai (Aj (dv 2))))))),fun ds Q h=>?_⟩⟩
 obtain⟨⟨a,b⟩,rfl,⟨ha,hb⟩,k⟩:=h
 walk_at "go"
 refine⟨Ay (by decide),Ay (by decide),?_⟩
 refine HW (fun m ρ=>∃n u v x s t z,ρ=[some (.is (.int a)),some (.is (.int b)),some (.is (T3 n u v)),some (.is (T3 x s t)),z]∧Rows a b n u v x s t∧((n=a∧u=1∧x=b∧s=0)∨(b≠0∧Lat b n u x s))∧m=x.natAbs) _ ⟨a,1,0,b,0,1,none,rfl,Rows.first ha hb,.inl ⟨rfl,rfl,rfl,rfl⟩,rfl⟩ ?_
 rintro m _ ⟨n,u,v,x,s,t,z,rfl,R,hc,rfl⟩
 walk_at "rd"
 have hG:=R.g
 by_cases hx:x=0
 ·subst hx
  rw[Int.gcd_zero_right]at hG
  simp only[decide_true,Bool.not_true]
  walk_at "rd"
  have r1:=R.r1
  refine Er (fun hn=>⟨Ay (by decide),k _ ⟨-u,-v,?_,?_,(R.u0.neg).le (by decide),R.v0.neg⟩⟩) (fun hn=>k _ ⟨u,v,?_,?_,R.u0.le (by decide),R.v0⟩)
  ·have hn:=of_decide_eq_true hn
   have e:-n=((Int.gcd a b:Nat):Int):=by omega
   rw[e]
  ·have hn:=of_decide_eq_true hn
   have e:-n=((Int.gcd a b:Nat):Int):=by omega
   show -u*a + -v*b=_
   rw[←e,r1];grind
  ·have hn:¬n<0:=fun z=>hn (decide_eq_true z)
   have e:n=((Int.gcd a b:Nat):Int):=by omega
   rw[←e]
  ·have hn:¬n<0:=fun z=>hn (decide_eq_true z)
   have e:n=((Int.gcd a b:Nat):Int):=by omega
   show u*a+v*b=_
   rw[←e,←r1]
 ·simp only[decide_eq_false hx,Bool.not_false,if_true]
  have hbn:b≠0:=by
   rcases hc with⟨_,_,e,_⟩|⟨e,_⟩
   ·rw[←e];exact hx
   ·exact e
  have L:Lat b x s (n-n.fdiv x*x) (u-n.fdiv x*s):=by
   rcases hc with⟨rfl,rfl,rfl,rfl⟩|⟨_,L⟩
   ·have:=Lat.first (a:=n) hx
    have e:n-n.fdiv x*x=n.fmod x:=by rw[Eb];grind
    have e2:(1:Int)-n.fdiv x*0=1:=by omega
    rw[e,e2];exact this
   ·exact L.step hx
  have hq:=Iv R.n0 hx
  refine⟨Bt.jw R.m0 hx,?_⟩
  refine Ar ((n,u,v),(x,s,t),n.fdiv x) ⟨hq.le (by decide),R.m0.le (by decide),R.s0.le (by decide),R.t0⟩ ?_
  refine⟨_,?_,_,_,_,_,_,_,_,rfl,Rows.step R ha hb hbn hx L,.inr ⟨hbn,L⟩,rfl⟩
  have e:n-n.fdiv x*x=n.fmod x:=by rw[Eb];grind
  rw[e]
  exact Kr hx
def gJ(f h:I3):Int:=((Int.gcd ((Int.gcd f.1 h.1:Nat):Int) (jS f h):Nat):Int)
theorem Og{f h:I3}(ha:f.1≠0):0<gJ f h:=by
 unfold gJ
 have:Int.gcd ((Int.gcd f.1 h.1:Nat):Int) (jS f h)≠0:=fun z=>by
  have h1:=(Int.gcd_eq_zero_iff.mp z).1
  have h2:Int.gcd f.1 h.1=0:=by omega
  exact ha (Int.gcd_eq_zero_iff.mp h2).1
 omega
theorem Lr{f h:I3}:gJ f h∣f.1∧gJ f h∣h.1∧gJ f h∣jS f h:=by
 unfold gJ
 have h1:((Int.gcd ((Int.gcd f.1 h.1:Nat):Int) (jS f h):Nat):Int)∣((Int.gcd f.1 h.1:Nat):Int):=Int.gcd_dvd_left ..
 exact⟨Int.dvd_trans h1 (Int.gcd_dvd_left ..),Int.dvd_trans h1 (Int.gcd_dvd_right ..),Int.gcd_dvd_right ..⟩
structure Pair(f h:I3):Prop where
 bf:B3 800 f
 bh:B3 800 h
 kf:BJ f∨Sad f
 kh:BJ h∨Sad h
 m:meas f=meas h
 pf:g3 f=1
 ph:g3 h=1
 bm:Bt 600 (meas f)
 bA:Bt 1400 (jA f h (gJ f h))
theorem Gu{f:I3}(h:BJ f∨Sad f):f.1≠0:=by
 rcases h with h|h
 ·have:=h.1;omega
 ·exact ZV h
abbrev Li(f:I3):Dt:=.exc "NotPlain" ["form"] [t3 f]
abbrev Aed:Dt:=.exc "Apart" [] []
abbrev FW:HS:=G6 (fun f:I3=>[t3 f]) (fun _=>True) (fun f=>g3 f=1) (fun _ d=>d=.non) Li
theorem Pa(T:Txt K mg)
  (sV:Pm P w K mg base 2 "content" Gz ["form"] Ly)
  : PmX P w K mg base 3 "check_plain" CJ ["form"] FW:=by
 obtain⟨f,fd,F⟩:=T.pC
 obtain⟨au,aeX,iW,aeL,abV⟩:=XD (P:=P) (w:=w) (base:=base) T
 refine⟨f,fd,F,F.fn.okX Qp (fun ds Q E ⟨p,e,_⟩=>by rw[e];rfl) fun cdv A outer s H E hr=>⟨_,(Bu (Il (Ih hr.units (Ah Af sV (hr.mono (by decide)) rfl (Aa (dv 0) Ac)) Ab) (Bu (Jm abV (hr.mono (by decide)) rfl rfl (Aa (dv 0) Ac))) Eu)),fun ds Q Ex h=>?_⟩⟩
 obtain⟨f,rfl,_,q,x⟩:=h
 have q:g3 f=1→∀d,d=.non→Q d:=q
 have x:¬g3 f=1→Ex (Li f):=x
 walk_at "go"
 refine Ar f trivial ⟨Ig,?_⟩
 rw[K6]
 by_cases h:g3 f=1
 ·exact ifn (decide_eq_true (by omega)) (q h _ rfl)
 ·exact ift (by rw[decide_eq_false (by omega)];rfl) ⟨by decide,x h⟩
structure Nf(f h:I3):Prop where
 kf:CK f
 kh:CK h
 m:meas f=meas h
 pf:g3 f=1
 ph:g3 h=1
noncomputable def Hi(f h:I3):Dt:=open Classical in if CK f then if CK h then if meas f=meas h then if g3 f=1 then Li h else Li f else Aed else Kg h else Kg f
structure Qq(f h:I3):Prop where
 bf:B3 800 f
 bh:B3 800 h
 bm:Nf f h→Bt 600 (meas f)
 bA:Nf f h→Bt 1400 (jA f h (gJ f h))
theorem Qq.pair{f h:I3}(p:Qq f h)(g:Nf f h):Pair f h:=⟨p.bf,p.bh,g.kf,g.kh,g.m,g.pf,g.ph,p.bm g,p.bA g⟩
abbrev J3:HS:=G6 (fun p:I3×I3=>[t3 p.1,t3 p.2]) (fun p=>Qq p.1 p.2) (fun p=>Nf p.1 p.2) (fun _ d=>d=.non) fun p=>Hi p.1 p.2
theorem Rv(T:Txt K mg)
  (fu:PmX P w K mg base 10 "shape_of" CG ["form"] Gh)
  (bN:PmX P w K mg base 3 "check_plain" CJ ["form"] FW)
  : PmX P w K mg base 11 "check_pair" Fv ["one","other"] J3:=by
 obtain⟨f,fd,F⟩:=T.q9
 obtain⟨aM,afk,adP,adQ⟩:=T.aaI
 refine⟨f,fd,F,F.fn.okX Ja (fun ds Q E ⟨p,e,_⟩=>by rw[e];rfl) fun cdv A outer s H E hr=>⟨_,(Az (KJ 2 Ja.nd (Bp Av fu (hr.mono (by decide)) rfl (Aa (dv 0) Ac))) (Az (KJ 3 Ja.nd (Bp Av fu (hr.mono (by decide)) rfl (Aa (dv 1) Ac))) (Az (Il (Ih hr.units (Kv (dv 2)) (Kv (dv 3))) (Bu (XQ adP adQ rfl rfl (Aa Km Ac))) Eu) (Az (CZ (Bp Av bN (hr.mono (by decide)) rfl (Aa (dv 0) Ac))) (Bu (CZ (Bp Av bN (hr.mono (by decide)) rfl (Aa (dv 1) Ac)))))))),fun ds Q Ex h=>?_⟩⟩
 obtain⟨⟨f,h⟩,rfl,hP,q,x⟩:=h
 have hP:Qq f h:=hP
 have q:Nf f h→∀d,d=.non→Q d:=q
 have x:¬Nf f h→Ex (Hi f h):=x
 walk_at "go"
 refine Bq f (hP.bf.le (by decide)) (fun kf _ ho=>?_) (fun nf=>?_)
 ·obtain⟨c1,l1,hc1,rfl,agE⟩:=Pu ho
  refine Bq h (hP.bh.le (by decide)) (fun kh _ ho=>?_) (fun nh=>?_)
  ·obtain⟨c2,l2,hc2,rfl,agF⟩:=Pu ho
   refine⟨Pz T hc1,.int (meas f),rfl,Pz T hc2,.int (meas h),rfl,⟨Ig,Ig⟩,?_⟩
   rw[K6]
   by_cases hm:meas f=meas h
   ·refine CP (by rw[decide_eq_true hm];rfl) (Bq f trivial (fun pf _ _=>Bq h trivial (fun ph _ _=>q ⟨kf,kh,hm,pf,ph⟩ _ rfl) fun nh=>?_) fun nf=>?_)
    ·have:=x fun z=>nh z.ph
     rw[Hi,if_pos kf,if_pos kh,if_pos hm,if_pos pf]at this
     exact this
    ·have:=x fun z=>nf z.pf
     rw[Hi,if_pos kf,if_pos kh,if_pos hm,if_neg nf]at this
     exact this
   ·refine ift (by rw[decide_eq_false hm];rfl) ⟨by decide,?_⟩
    have:=x fun z=>hm z.m
    rw[Hi,if_pos kf,if_pos kh,if_neg hm]at this
    exact this
  ·have:=x fun z=>nh z.kh
   rw[Hi,if_pos kf,if_neg nh]at this
   exact this
 ·have:=x fun z=>nf z.kf
  rw[Hi,if_neg nf]at this
  exact this
abbrev DP:DSp:=CV (fun p:I3×I3=>[t3 p.1,t3 p.2]) (fun _=>True) fun p=>.int (jS p.1 p.2)
theorem Lj(T:Txt K mg)
  : Pm P w K mg base 1 "half_of_middles" BP ["one","other"] DP:=by
 obtain⟨f,fd,F⟩:=T.jV
 refine⟨f,fd,F,F.fn.okD Lp (by walk_at "lE") fun cdv A outer s H E hr=>⟨_,(Ai (Aj (Cr (Bm (Ad (dv 0) Ab) (Ad (dv 1) Ab)) Ab))),fun ds Q h=>?_⟩⟩
 obtain⟨⟨f,h⟩,rfl,_,q⟩:=h
 have q':=q _ rfl
 walk_at "go"
 exact⟨⟨by decide,by decide⟩,q'⟩
theorem QZ{n:Nat}{f h:I3}(hf:B3 n f)(hh:B3 n h)(hm:meas f=meas h):Bt n (jS f h):=by
 have:=SQ hm
 have h1:=hf.2.1
 have h2:=hh.2.1
 unfold Bt at *
 omega
def Common(f h:I3)(g j k:Int):Prop:=g=gJ f h∧(∃i,i*f.1+j*h.1+k*jS f h=g)∧Bt 4001 j∧Bt 2000 k
abbrev Jt:DSp:=spec (fun p:I3×I3=>[t3 p.1,t3 p.2]) (fun p=>Pair p.1 p.2) fun p d=>∃g j k,d=T3 g j k∧Common p.1 p.2 g j k
theorem N6(T:Txt K mg)
  (aaT:Pm P w K mg base 2 "shares" Jo ["one","other"] TV)
  (bG:Pm P w K mg base 1 "half_of_middles" BP ["one","other"] DP)
  : Pm P w K mg base 3 "common_shares" Dh ["one","other"] Jt:=by
 obtain⟨f,fd,F⟩:=T.lX
 refine⟨f,fd,F,F.fn.okD GD (by walk_at "lE") fun cdv A outer s H E hr=>⟨_,(Ae (Ao 2 GD.nd (Ah Af aaT (hr.mono (by decide)) rfl (Aa (Ad (dv 0) Ab) (Aa (Ad (dv 1) Ab) Ac)))) (Ae (Ao 3 GD.nd (Ah Af aaT (hr.mono (by decide)) rfl (Aa (Ad (dv 2) Ab) (Aa (Ah Af bG (hr.mono (by decide)) rfl (Aa (dv 0) (Aa (dv 1) Ac))) Ac)))) (Ai (Aj (Bf (Aa (Ad (dv 3) Ab) (Aa (Al (Ad (dv 3) Ab) (Ad (dv 2) Ab)) (Aa (Ad (dv 3) Ab) Ac)))))))),fun ds Q h=>?_⟩⟩
 obtain⟨⟨f,h⟩,rfl,hP,q⟩:=h
 have hP:Pair f h:=hP
 have q:∀d,(∃g j k,d=T3 g j k∧Common f h g j k)→Q d:=q
 walk_at "go"
 refine Bs (f.1,h.1) ⟨hP.bf.1,hP.bh.1⟩ ?_
 rintro _ ⟨x,y,rfl,e1,bx,by'⟩
 have e1:x*f.1+y*h.1=((Int.gcd f.1 h.1:Nat):Int):=e1
 walk_at "rd"
 refine Ar (f,h) trivial (Bs (((Int.gcd f.1 h.1:Nat):Int),jS f h) ⟨Lk hP.bf.1 hP.bh.1,QZ hP.bf hP.bh hP.m⟩ ?_)
 rintro _ ⟨u,v,rfl,e2,bu,bv⟩
 have e2:u*((Int.gcd f.1 h.1:Nat):Int)+v*jS f h=gJ f h:=e2
 walk_at "rd"
 refine⟨bu.aJ by',Ay (by decide),q _ ⟨_,_,_,rfl,rfl,⟨u*x,?_⟩,(bu.mul by').le (by decide),bv⟩⟩
 show _=gJ f h
 rw[←e2,←e1]
 grind
theorem Aj5{f h:I3}{g j k:Int}(h0:jA f h g≠0):(jB f h g j k).natAbs<2*(jA f h g).natAbs:=by
 have:=Kr (a:=h.2.1+2*h.1.fdiv g*(j*(jS f h-h.2.1)-k*h.2.2)) (b:=2*jA f h g) (by omega)
 unfold jB
 omega
theorem Am9{A B C D:Int}(e:B*B-D=4*A*C)(h0:A≠0)(hB:B.natAbs<2*A.natAbs)(hA:Bt 1400 A)(hD:Bt 600 D):Bt 1401 C:=by
 have e1:4*(A.natAbs*C.natAbs)=(B*B-D).natAbs:=by rw[e,Int.mul_assoc,Int.natAbs_mul,Int.natAbs_mul];rfl
 have e2:(B*B-D).natAbs≤B.natAbs*B.natAbs+D.natAbs:=by
  have:=Int.natAbs_mul B B
  omega
 have e3:B.natAbs*B.natAbs≤(2*A.natAbs)*(2*A.natAbs):=Nat.mul_le_mul (by omega) (by omega)
 have e4:(2*A.natAbs)*(2*A.natAbs)=4*(A.natAbs*A.natAbs):=by grind
 have a1:1≤A.natAbs:=by omega
 have e5:A.natAbs*C.natAbs≤A.natAbs*(A.natAbs+D.natAbs):=by
  have:D.natAbs≤4*(A.natAbs*D.natAbs):=by
   have:=Nat.le_mul_of_pos_left D.natAbs a1
   omega
  rw[Nat.mul_add]
  omega
 have e6:C.natAbs≤A.natAbs+D.natAbs:=Nat.le_of_mul_le_mul_left e5 a1
 have d1:D.natAbs<2 ^ 1400:=Nat.lt_of_lt_of_le hD (Nat.pow_le_pow_right (by decide) (by decide))
 unfold Bt at *
 have:(2:Nat) ^ 1401=2*2 ^ 1400:=by rw[Nat.pow_succ];omega
 omega
theorem Pair.joint{f h:I3}{g j k:Int}(P:Pair f h)(C:Common f h g j k):FA (jP f h g (jB f h g j k)) (jQ f h g)=f∧FB (jP f h g (jB f h g j k)) (jQ f h g)=h∧FC (jP f h g (jB f h g j k)) (jQ f h g)=jF f h g j k:=by
 obtain⟨rfl,⟨i,e⟩,_⟩:=C
 have g0:=Og (h:=h) (Gu P.kf)
 exact AcJ (Gu P.kf) (Gu P.kh) P.m (by omega) Lr.1 Lr.2.1 Lr.2.2 e
theorem Pair.ja{f h:I3}{g j k:Int}(P:Pair f h)(C:Common f h g j k):jA f h g*(g*g)=f.1*h.1:=by
 obtain⟨rfl,_⟩:=C
 have g0:=Og (h:=h) (Gu P.kf)
 obtain⟨x,hx⟩:=(Lr (f:=f) (h:=h)).1
 obtain⟨y,hy⟩:=(Lr (f:=f) (h:=h)).2.1
 unfold jA
 have:f.1*h.1=gJ f h*gJ f h*(x*y):=by
  have:f.1*h.1=(gJ f h*x)*(gJ f h*y):=by rw[←hx,←hy]
  rw[this];grind
 rw[this,Int.mul_fdiv_cancel_left _ (Int.mul_ne_zero (by omega) (by omega)),Int.mul_comm]
theorem Pair.ja0{f h:I3}{g j k:Int}(P:Pair f h)(C:Common f h g j k):jA f h g≠0:=fun z=>by
 have e:=P.ja C
 rw[z,Int.zero_mul]at e
 exact Int.mul_ne_zero (Gu P.kf) (Gu P.kh) e.symm
theorem Pair.comp{f h:I3}{g j k:Int}(P:Pair f h)(C:Common f h g j k):Comp f h (jF f h g j k):=⟨_,_,P.joint C⟩
theorem Pair.kind{f h:I3}{g j k:Int}(P:Pair f h)(C:Common f h g j k):BJ (jF f h g j k)∨Sad (jF f h g j k):=by
 have hm:=(P.comp C).meas.2
 rw[←P.m]at hm
 rcases P.kf with kf|kf
 ·refine .inl ⟨?_,by rw[hm];exact kf.2⟩
  have kh:0<h.1:=by
   rcases P.kh with z|z
   ·exact z.1
   ·have h1:=kf.2;have h2:=z.pos;have h3:=P.m;omega
  have e:=P.ja C
  have p1:=Int.mul_pos kf.1 kh
  show 0<jA f h g
  rcases Int.lt_or_le 0 (jA f h g)with z|z
  ·exact z
  ·have:=Int.mul_nonneg (show 0≤-jA f h g by omega) (sq_nonneg g)
   have:-jA f h g*(g*g)=-(jA f h g*(g*g)):=by grind
   omega
 ·exact .inr ⟨by rw[hm];exact kf.no,by rw[hm];exact kf.pos,by rw[hm];exact kf.most⟩
theorem Pair.bF{f h:I3}{g j k:Int}(P:Pair f h)(C:Common f h g j k):B3 1402 (jF f h g j k):=by
 have h0:=P.ja0 C
 have hB:=Aj5 (j:=j) (k:=k) h0
 have hA:Bt 1400 (jA f h g):=by rw[C.1];exact P.bA
 have hm:(jB f h g j k)*(jB f h g j k)-4*(jF f h g j k).1*(jF f h g j k).2.2=meas f:=by
  have:=(P.comp C).meas.2
  rw[P.m];exact this
 refine⟨hA.le (by decide),?_,(Am9 (A:=jA f h g) (B:=jB f h g j k) (D:=meas f) ?_ h0 hB hA P.bm).le (by decide)⟩
 ·show Bt 1402 (jB f h g j k)
  have:(2:Nat) ^ 1402=4*2 ^ 1400:=by decide +kernel
  unfold Bt at *
  omega
 ·show _=4*(jF f h g j k).1*(jF f h g j k).2.2
  omega
abbrev K9:DSp:=CV (fun p:(I3×I3)×I3=>[t3 p.1.1,t3 p.1.2,t3 p.2]) (fun p=>Pair p.1.1 p.1.2∧Common p.1.1 p.1.2 p.2.1 p.2.2.1 p.2.2.2) fun p=>t3 (jF p.1.1 p.1.2 p.2.1 p.2.2.1 p.2.2.2)
theorem Sd(T:Txt K mg)
  (bG:Pm P w K mg base 1 "half_of_middles" BP ["one","other"] DP)
  (bB:Pm P w K mg base 1 "measure" Dg ["form"] EY)
  : Pm P w K mg base 2 "joint_form" Fe ["one","other","common"] K9:=by
 obtain⟨f,fd,F⟩:=T.rz
 refine⟨f,fd,F,F.fn.okD Dr (by walk_at "lE") fun cdv A outer s H E hr=>⟨_,(Ae (Ao 3 Dr.nd (Ad (dv 2) Ab)) (Ae (Ao 4 Dr.nd (Ad (dv 1) Ab)) (Ae (Ao 5 Dr.nd (Ad (dv 1) Ab)) (Ae (Ao 6 Dr.nd (Cr (Al (Ad (dv 0) Ab) (dv 4)) (Al (dv 3) (dv 3)))) (Ae (Ao 7 Dr.nd (BR (Al (Ad (dv 2) Ab) (BR (Ah Af bG (hr.mono (by decide)) rfl (Aa (dv 0) (Aa (dv 1) Ac))) (dv 5))) (Al (Ad (dv 2) Ab) (Ad (dv 1) Ab)))) (Ae (Ao 8 Dr.nd (FJ (Bm (dv 5) (Al (Al Ab (Cr (dv 4) (dv 3))) (dv 7))) (Al Ab (dv 6)))) (Ai (Aj (Bf (Aa (dv 6) (Aa (dv 8) (Aa (Cr (BR (Al (dv 8) (dv 8)) (Ah Af bB (hr.mono (by decide)) rfl (Aa (dv 0) Ac))) (Al Ab (dv 6))) Ac)))))))))))),fun ds Q h=>?_⟩⟩
 obtain⟨⟨⟨f,h⟩,g,j,k⟩,rfl,⟨hP,hC⟩,q⟩:=h
 have hP:Pair f h:=hP
 have hC:Common f h g j k:=hC
 have q':Q (t3 (jF f h g j k)):=q _ rfl
 have g0:0<g:=by rw[hC.1];exact Og (Gu hP.kf)
 have bg:Bt 800 g:=by rw[hC.1];exact Lk (Lk hP.bf.1 hP.bh.1) (QZ hP.bf hP.bh hP.m)
 have bs:=QZ hP.bf hP.bh hP.m
 have h0:=hP.ja0 hC
 have hF:=hP.bF hC
 have hA:Bt 1400 (jA f h g):=by rw[hC.1];exact hP.bA
 have hB:Bt 1402 (jB f h g j k):=hF.2.1
 have two:Bt 2 2:=Bt.aA (by decide)
 have four:Bt 3 4:=Bt.aA (by decide)
 have bd:Bt 801 (h.1.fdiv g):=Iv hP.bh.1 (by omega)
 have bj:=hC.2.2.1
 have bk:=hC.2.2.2
 have bm2:Bt 4803 (j*(jS f h-h.2.1)-k*h.2.2):=((bj.mul (bs.sub hP.bh.2.1)).sub ((bk.mul hP.bh.2.2).le (m:=4802) (by decide))).le (by decide)
 have A0:(f.1*h.1).fdiv (g*g)≠0:=h0
 walk_at "go"
 refine⟨hP.bf.1.aJ hP.bh.1,bg.aJ bg,Bt.jw (bg.mul bg) (Int.mul_ne_zero (by omega) (by omega)),Ar (f,h) trivial ⟨bj.aJ (bs.sub hP.bh.2.1),bk.aJ hP.bh.2.2,Bt.jw bg (by omega),two.aJ bd,(two.mul bd).aJ bm2,two.aJ hA,by omega,hB.aJ hB,Ar f (hP.bf.le (by decide)) ⟨four.aJ hA,Bt.jw (four.mul hA) (by show 4*(f.1*h.1).fdiv (g*g)≠0;omega),Ay (by decide),q'⟩⟩⟩
abbrev Qx(p q:I4):Dt:=.tup [t4 p,t4 q]
abbrev Lb:DSp:=CV (fun p:(I3×I3)×I3=>[t3 p.1.1,t3 p.1.2,.int p.2.1,.int (jB p.1.1 p.1.2 p.2.1 p.2.2.1 p.2.2.2)]) (fun p=>Pair p.1.1 p.1.2∧Common p.1.1 p.1.2 p.2.1 p.2.2.1 p.2.2.2) fun p=>Qx (jP p.1.1 p.1.2 p.2.1 (jB p.1.1 p.1.2 p.2.1 p.2.2.1 p.2.2.2)) (jQ p.1.1 p.1.2 p.2.1)
theorem Rz(T:Txt K mg)
  (bG:Pm P w K mg base 1 "half_of_middles" BP ["one","other"] DP)
  (bB:Pm P w K mg base 1 "measure" Dg ["form"] EY)
  : Pm P w K mg base 2 "joint_rows" Fo ["one","other","g","middle"] Lb:=by
 obtain⟨f,fd,F⟩:=T.rA
 refine⟨f,fd,F,F.fn.okD CN (by walk_at "lE") fun cdv A outer s H E hr=>⟨_,(Ae (Ao 4 CN.nd (Ad (dv 0) Ab)) (Ae (Ao 5 CN.nd (Ad (dv 0) Ab)) (Ae (Ao 6 CN.nd (Ad (dv 1) Ab)) (Ae (Ao 7 CN.nd (Ad (dv 1) Ab)) (Ae (Ao 8 CN.nd (Ah Af bG (hr.mono (by decide)) rfl (Aa (dv 0) (Aa (dv 1) Ac)))) (Ae (Ao 9 CN.nd (Cr (Al (dv 2) (BR (Bm (Al (dv 5) (dv 7)) (Ah Af bB (hr.mono (by decide)) rfl (Aa (dv 0) Ac))) (Al (Al Ab (dv 3)) (dv 8)))) (Al (Al Ab (dv 4)) (dv 6)))) (Ae (Ao 10 CN.nd (Bf (Aa (dv 2) (Aa (Cr (Al (dv 2) (BR (dv 7) (dv 3))) (Al Ab (dv 6))) (Aa (Cr (Al (dv 2) (BR (dv 5) (dv 3))) (Al Ab (dv 4))) (Aa (dv 9) Ac)))))) (Ai (Aj (Bf (Aa (dv 10) (Aa (Bf (Aa Ab (Aa (Cr (dv 4) (dv 2)) (Aa (Cr (dv 6) (dv 2)) (Aa (Cr (dv 8) (dv 2)) Ac))))) Ac)))))))))))),fun ds Q h=>?_⟩⟩
 obtain⟨⟨⟨f,h⟩,g,j,k⟩,rfl,⟨hP,hC⟩,q⟩:=h
 have hP:Pair f h:=hP
 have hC:Common f h g j k:=hC
 have q':Q (Qx (jP f h g (jB f h g j k)) (jQ f h g)):=q _ rfl
 have g0:0<g:=by rw[hC.1];exact Og (Gu hP.kf)
 have bg:Bt 800 g:=by rw[hC.1];exact Lk (Lk hP.bf.1 hP.bh.1) (QZ hP.bf hP.bh hP.m)
 have bs:=QZ hP.bf hP.bh hP.m
 have hB:Bt 1402 (jB f h g j k):=(hP.bF hC).2.1
 have a0:=Gu hP.kf
 have d0:=Gu hP.kh
 have two:Bt 2 2:=Bt.aA (by decide)
 have four:Bt 3 4:=Bt.aA (by decide)
 walk_at "go"
 dsimp only at *
 generalize jB f h g j k=B at *
 have bme:Bt 2300 (f.2.1*h.2.1+meas f-2*B*jS f h):=(((hP.bf.2.1.mul hP.bh.2.1).add (hP.bm.le (m:=1600) (by decide))).sub (((two.mul hB).mul bs).le (m:=2299) (by decide))).le (by decide)
 have n4:4*f.1*h.1≠0:=Int.mul_ne_zero (by omega) d0
 refine Ar (f,h) trivial ⟨hP.bf.2.1.aJ hP.bh.2.1,Ar f (hP.bf.le (by decide)) ⟨two.aJ hB,(two.mul hB).aJ bs,bg.aJ bme,four.aJ hP.bf.1,(four.mul hP.bf.1).aJ hP.bh.1,Bt.jw ((four.mul hP.bf.1).mul hP.bh.1) n4,bg.aJ ((hP.bh.2.1.le (m:=1402) (by decide)).sub hB),two.aJ hP.bh.1,Bt.jw (two.mul hP.bh.1) (by omega),bg.aJ ((hP.bf.2.1.le (m:=1402) (by decide)).sub hB),two.aJ hP.bf.1,Bt.jw (two.mul hP.bf.1) (by omega),Ay (by decide),Bt.jw bg (by omega),Bt.jw bg (by omega),Bt.jw bg (by omega),Ay (by decide),Ay (by decide),q'⟩⟩
theorem AlO{f h:I3}{g j k:Int}(hP:Pair f h)(hC:Common f h g j k):B4 9000 (jP f h g (jB f h g j k))∧B4 9000 (jQ f h g):=by
 have g0:0<g:=by rw[hC.1];exact Og (Gu hP.kf)
 have bg:Bt 800 g:=by rw[hC.1];exact Lk (Lk hP.bf.1 hP.bh.1) (QZ hP.bf hP.bh hP.m)
 have bs:=QZ hP.bf hP.bh hP.m
 have hB:Bt 1402 (jB f h g j k):=(hP.bF hC).2.1
 have a0:=Gu hP.kf
 have d0:=Gu hP.kh
 have two:Bt 2 2:=Bt.aA (by decide)
 generalize jB f h g j k=B at *
 have bme:Bt 2300 (f.2.1*h.2.1+meas f-2*B*jS f h):=(((hP.bf.2.1.mul hP.bh.2.1).add (hP.bm.le (m:=1600) (by decide))).sub (((two.mul hB).mul bs).le (m:=2299) (by decide))).le (by decide)
 have n4:4*f.1*h.1≠0:=Int.mul_ne_zero (by omega) d0
 exact⟨⟨bg.le (by decide),(Iv (bg.mul ((hP.bh.2.1.le (m:=1402) (by decide)).sub hB)) (by omega)).le (by decide),(Iv (bg.mul ((hP.bf.2.1.le (m:=1402) (by decide)).sub hB)) (by omega)).le (by decide),(Iv (bg.mul bme) n4).le (by decide)⟩,
  Bt.zero.le (by decide),(Iv hP.bf.1 (by omega)).le (by decide),(Iv hP.bh.1 (by omega)).le (by decide),(Iv bs (by omega)).le (by decide)⟩
def Aol(t:I4):Dt→Dt
 |.tup [.int x,.int y]=>t2 (Io t (x,y))
 |_=>.non
def ApK:Dt→Dt
 |.tup [.int x,.int _]=>.int x
 |_=>.non
def Aon:Dt→Dt
 |.tup [.int _,.int y]=>.int y
 |_=>.non
abbrev OJ:DSp:=CV (fun p:I4×I4×I4=>[t4 (Ax p.1),Qx p.2.1 p.2.2]) (fun p=>B4 90000 p.1∧det p.1=1∧B4 9000 p.2.1∧B4 9000 p.2.2) fun p=>Qx (Nq p.2.1 p.2.2 p.1) (Nk p.2.1 p.2.2 p.1)
theorem Vu(T:Txt K mg)
  (afh:Pm P w K mg base 3 "led" Tv ["turn","point"] Adw)
  : Pm P w K mg base 4 "rows_led" DN ["turn","rows"] OJ:=by
 obtain⟨f,fd,F⟩:=T.uZ
 refine⟨f,fd,F,F.fn.okD Ot (by walk_at "lE") fun cdv A outer s H E hr=>⟨_,(Ae (AcC 2 Ot.nd (Ga (sc:=Ag DN) (NN:=["turn","rows","pairs"]) (x:="pair") (N:=["turn"]) (sl:=[0]) rfl rfl (by decide +kernel)) rfl (Ah6 rfl T.yI (Aa (Ad (dv 1) Ab) (Aa (Ad (dv 1) Ab) Ac))) (fun cl C s0 H0 ex=>(Ah Af afh (hr.mono (by decide)) rfl (Aa (dv 1) (Aa (dv 0) Ac))))) (Ai (Aj (Bf (Aa (S8 T.kE (Aa (Mi (Ga (sc:=Ag DN) (NN:=["turn","rows","pairs"]) (x:="pair") (N:=[]) (sl:=[]) rfl rfl (by decide +kernel)) rfl (Mf (dv 2)) (fun cl C s0 H0 ex=>(Ad (dv 0) Ab))) Ac)) (Aa (S8 T.kE (Aa (Mi (Ga (sc:=Ag DN) (NN:=["turn","rows","pairs"]) (x:="pair") (N:=[]) (sl:=[]) rfl rfl (by decide +kernel)) rfl (Mf (dv 2)) (fun cl C s0 H0 ex=>(Ad (dv 0) Ab))) Ac)) Ac)))))),fun ds Q h=>?_⟩⟩
 obtain⟨⟨t,⟨p0,p1,p2,p3⟩,q0,q1,q2,q3⟩,rfl,⟨bt,dt,bp,bq⟩,q⟩:=h
 have q':=q _ rfl
 have bt:B4 90000 t:=bt
 have dt:det t=1:=dt
 obtain⟨p0b,p1b,p2b,p3b⟩:B4 9000 (p0,p1,p2,p3):=bp
 obtain⟨q0b,q1b,q2b,q3b⟩:B4 9000 (q0,q1,q2,q3):=bq
 have bx:∀x∈[(p0,q0),(p1,q1),(p2,q2),(p3,q3)],B2 300000 x:=fun x hx=>by
  simp only[List.mem_cons,List.not_mem_nil,or_false]at hx
  rcases hx with rfl|rfl|rfl|rfl
  ·exact⟨p0b.le (by decide),q0b.le (by decide)⟩
  ·exact⟨p1b.le (by decide),q1b.le (by decide)⟩
  ·exact⟨p2b.le (by decide),q2b.le (by decide)⟩
  ·exact⟨p3b.le (by decide),q3b.le (by decide)⟩
 walk_at "go"
 refine KC ([(p0,q0),(p1,q1),(p2,q2),(p3,q3)].map t2) (Aol (Ax t)) (fun R hR=>?_) (Ay (by show 4≤1000;decide)) (G4 rfl Es) (fun d hd R hR=>?_) ?_
 ·walk_at "rd"
  exact⟨_,_,rfl,rfl,hR⟩
 ·obtain⟨x,hx,rfl⟩:=List.mem_map.mp hd
  unfold inner
  walk_at "rd"
  exact Ar (Ax t,x) ⟨bt.back.le (by decide),by rw[Ez];exact dt,bx x hx⟩ hR
 refine KC ([Io (Ax t) (p0,q0),Io (Ax t) (p1,q1),Io (Ax t) (p2,q2),Io (Ax t) (p3,q3)].map t2) ApK (fun R hR=>hR) (Ay (by show 4≤1000;decide)) Es (fun d hd R hR=>?_) ?_
 ·obtain⟨x,hx,rfl⟩:=List.mem_map.mp hd
  unfold inner
  walk_at "rd"
  exact hR
 refine⟨_,rfl,KC ([Io (Ax t) (p0,q0),Io (Ax t) (p1,q1),Io (Ax t) (p2,q2),Io (Ax t) (p3,q3)].map t2) Aon (fun R hR=>hR) (Ay (by show 4≤1000;decide)) Es (fun d hd R hR=>?_) ?_⟩
 ·obtain⟨x,hx,rfl⟩:=List.mem_map.mp hd
  unfold inner
  walk_at "rd"
  exact hR
 refine⟨_,rfl,Ay (by decide),?_⟩
 have e:Qx (Nq (p0,p1,p2,p3) (q0,q1,q2,q3) t) (Nk (p0,p1,p2,p3) (q0,q1,q2,q3) t)=Dt.tup [Dt.tup ([Io (Ax t) (p0,q0),Io (Ax t) (p1,q1),Io (Ax t) (p2,q2),Io (Ax t) (p3,q3)].map fun x=>Dt.int x.1),Dt.tup ([Io (Ax t) (p0,q0),Io (Ax t) (p1,q1),Io (Ax t) (p2,q2),Io (Ax t) (p3,q3)].map fun x=>Dt.int x.2)]:=by
  obtain⟨a,b,c,d⟩:=t
  simp only[Qx,Nq,Nk,Io,Ax,List.map_cons,List.map_nil,T4,Dt.tup.injEq,List.cons.injEq,Dt.int.injEq,and_true]
  refine⟨⟨?_,?_,?_,?_⟩,?_,?_,?_,?_⟩<;>grind
 dsimp only at q'
 rw[e]at q'
 exact q'
def W7(f h:I3)(d:Dt):Prop:=∃(F G:I3)(p q:I4),Comp f h F∧LF F G∧FA p q=f∧FB p q=h∧FC p q=G∧d=.tup [t3 G,Qx p q]∧B4 110000 p∧B4 110000 q
abbrev Kd:HS:=G6 (fun p:I3×I3=>[t3 p.1,t3 p.2]) (fun p=>Qq p.1 p.2) (fun p=>Nf p.1 p.2) (fun p d=>W7 p.1 p.2 d) fun p=>Hi p.1 p.2
abbrev JH:DSp:=spec (fun p:I3×I3=>[t3 p.1,t3 p.2]) (fun p=>Pair p.1 p.2) fun p d=>W7 p.1 p.2 d
theorem VP(T:Txt K mg)
  (vp:PmM P w K mg base 1 ["Bowl","Saddle"] "least" NK)
  (wU:PmX P w K mg base 11 "check_pair" Fv ["one","other"] J3)
  (uJ:Pm P w K mg base 3 "common_shares" Dh ["one","other"] Jt)
  (yZ:Pm P w K mg base 2 "joint_form" Fe ["one","other","common"] K9)
  (abW:Pm P w K mg base 4 "rows_led" DN ["turn","rows"] OJ)
  (pW:Pm P w K mg base 10 "shape_of" CG ["form"] Kl)
  (aeY:Pm P w K mg base 3 "back" Np ["turn"] AaH)
  (za:Pm P w K mg base 2 "joint_rows" Fo ["one","other","g","middle"] Lb)
  : PmX P w K mg base 12 "product" Dv ["one","other"] Kd:=by
 obtain⟨f,fd,F⟩:=T.yE
 refine⟨f,fd,F,F.fn.okX JN (fun ds Q E ⟨p,e,_⟩=>by rw[e];rfl) fun cdv A outer s H E hr=>⟨_,(Az (CZ (Bp Av wU (hr.mono (by decide)) rfl (Aa (dv 0) (Aa (dv 1) Ac)))) (Az (Ek (Ao 2 JN.nd (Ah Af uJ (hr.mono (by decide)) rfl (Aa (dv 0) (Aa (dv 1) Ac))))) (Az (Ek (Ao 3 JN.nd (Ah Af yZ (hr.mono (by decide)) rfl (Aa (dv 0) (Aa (dv 1) (Aa (dv 2) Ac)))))) (Az (Ek (Ao 4 JN.nd (TY Af vp (hr.mono (by decide)) (Ah Af pW (hr.mono (by decide)) rfl (Aa (dv 3) Ac))))) (Bu (Ek (Aj (Bf (Aa (Ad (dv 4) Ab) (Aa (Ah Af abW (hr.mono (by decide)) rfl (Aa (Ah Af aeY (hr.mono (by decide)) rfl (Aa (Ad (dv 4) Ab) Ac)) (Aa (Ah Af za (hr.mono (by decide)) rfl (Aa (dv 0) (Aa (dv 1) (Aa (Ad (dv 2) Ab) (Aa (Ad (dv 3) Ab) Ac))))) Ac))) Ac)))))))))),fun ds Q Ex h=>?_⟩⟩
 obtain⟨⟨f,h⟩,rfl,hX,q0,x⟩:=h
 have hX:Qq f h:=hX
 walk_at "go"
 refine Bq (f,h) hX (fun g _ _=>?_) (fun ng=>x ng)
 have hP:Pair f h:=hX.pair g
 have q:∀d,W7 f h d→Q d:=q0 g
 refine Bs (f,h) hP ?_
 rintro _ ⟨g,j,k,rfl,hC⟩
 have hC:Common f h g j k:=hC
 refine Ar ((f,h),g,j,k) ⟨hP,hC⟩ ?_
 dsimp only
 have bF:=hP.bF hC
 have kF:=hP.kind hC
 have cF:=hP.comp hC
 obtain⟨j1,j2,j3⟩:=hP.joint hC
 have jb:=AlO hP hC
 refine Bs (jF f h g j k) ⟨bF.le (by decide),kF⟩ ?_
 rintro _ ho
 obtain⟨c,l,hc,rfl,h1⟩:=Pu ho
 obtain⟨G,t,rfl,L,dt,mt,bt⟩:=Ag8 h1
 have cm:c∈([Str.ofString "Bowl",Str.ofString "Saddle"]:List Str):=by rcases hc with e|e<;>rw[e]<;>simp
 refine⟨⟨cm,by decide⟩,Ar (c,_,_) hc ?_⟩
 walk_at "rd"
 refine Ar t ⟨bt.le (by decide),dt⟩ (Ar ((f,h),g,j,k) ⟨hP,hC⟩ (Ar (t,jP f h g (jB f h g j k),jQ f h g) ⟨bt,dt,jb.1,jb.2⟩ ⟨Ay (by decide),q _ ?_⟩))
 dsimp only
 generalize jP f h g (jB f h g j k)=p at *
 generalize jQ f h g=r at *
 refine⟨_,G,Nq p r t,Nk p r t,cF,L,by rw[Aks dt,j1],by rw[AlD dt,j2],by rw[AjM,j3,mt],rfl,?_,?_⟩
 ·obtain⟨⟨a1,a2,a3,a4⟩,b1,b2,b3,b4⟩:=jb
  obtain⟨t1,t2,t3,t4⟩:=bt
  exact⟨((t4.mul a1).sub (t2.mul b1)).le (by decide),((t4.mul a2).sub (t2.mul b2)).le (by decide),((t4.mul a3).sub (t2.mul b3)).le (by decide),((t4.mul a4).sub (t2.mul b4)).le (by decide)⟩
 ·obtain⟨⟨a1,a2,a3,a4⟩,b1,b2,b3,b4⟩:=jb
  obtain⟨t1,t2,t3,t4⟩:=bt
  exact⟨((t1.mul b1).sub (t3.mul a1)).le (by decide),((t1.mul b2).sub (t3.mul a2)).le (by decide),((t1.mul b3).sub (t3.mul a3)).le (by decide),((t1.mul b4).sub (t3.mul a4)).le (by decide)⟩
theorem Yr{P:Program}{w:World}{K:W.Frag}{mg:Str→Option Value}{base:Heap}(G:PmX P w K mg base 12 "product" Dv ["one","other"] Kd)
  : Pm P w K mg base 12 "product" Dv ["one","other"] JH:=by
 refine G.pm Av fun ds Q h=>?_
 obtain⟨⟨f,h⟩,e,hP,q⟩:=h
 have hP:Pair f h:=hP
 exact⟨(f,h),e,⟨hP.bf,hP.bh,fun _=>hP.bm,fun _=>hP.bA⟩,fun _ d z=>q d z,fun z=>absurd ⟨hP.kf,hP.kh,hP.m,hP.pf,hP.ph⟩ z⟩
def JQ(D:Int):I3:=(1,D.fmod 4,(D.fmod 4-D).fdiv 4)
structure RP(D:Int):Prop where
 r:D % 4=0∨D % 4=1
 n:¬Gv D
 m:D≤4000
 b:Bt 600 D
theorem RP.meas{D:Int}(h:RP D):My.meas (JQ D)=D:=by
 have e:D.fmod 4=D % 4:=Int.fmod_eq_emod_of_nonneg _ (by decide)
 unfold JQ
 rw[e]
 have e2:(D % 4-D).fdiv 4=(D % 4-D) / 4:=Int.fdiv_eq_ediv_of_nonneg _ (by decide)
 rw[e2]
 show D % 4*(D % 4)-4*1*((D % 4-D) / 4)=D
 rcases h.r with z|z<;>rw[z]<;>omega
theorem RP.kind{D:Int}(h:RP D):BJ (JQ D)∨Sad (JQ D):=by
 have hm:=h.meas
 rcases Int.lt_or_le D 0 with z|z
 ·exact .inl ⟨by show(0:Int)<1;decide,by rw[hm];exact z⟩
 ·have:D≠0:=fun e=>h.n ⟨0,by rw[e];rfl⟩
  exact .inr ⟨by rw[hm];exact h.n,by rw[hm];omega,by rw[hm];exact h.m⟩
theorem RP.bt{D:Int}(h:RP D):B3 603 (JQ D):=by
 have r:=J7 D (m:=4) (by decide)
 have b:=h.b
 refine⟨Bt.one.le (by decide),Bt.of (show -(2 ^ 603)<D.fmod 4 by omega) (show D.fmod 4<2 ^ 603 by omega),?_⟩
 show Bt 603 ((D.fmod 4-D).fdiv 4)
 rw[Int.fdiv_eq_ediv_of_nonneg _ (by decide)]
 have e:(2:Nat) ^ 603=8*2 ^ 600:=by decide +kernel
 unfold Bt at *
 omega
abbrev AeW(n:Int):Dt:=.exc "NoMeasure" ["number"] [.int n]
def Fx(n:Int):Prop:=(n % 4=0∨n % 4=1)∧¬Gv n
abbrev Ep:HS:=G6 (fun n:Int=>[.int n]) (fun n=>Bt 600 n) Fx (fun _ d=>d=.non) AeW
theorem M9(T:Txt K mg)
  (mW:Pm P w K mg base 2 "is_square" Ey ["number"] JM)
  : PmX P w K mg base 3 "check_measure" Cj ["number"] Ep:=by
 obtain⟨f,fd,F⟩:=T.lY
 obtain⟨ak,aeM,fL,aey,aaU⟩:=WQ (P:=P) (w:=w) (base:=base) T
 refine⟨f,fd,F,F.fn.okX Oc (fun ds Q E ⟨p,e,_⟩=>by rw[e];rfl) fun cdv A outer s H E hr=>⟨_,(Bu (Il (DW.dt (Ac2 (Vi (FJ (dv 0) Ab) Ab) (Xv (Jz (Ah Af mW (hr.mono (by decide)) rfl (Aa (dv 0) Ac)))))) (Bu (Jm aaU (hr.mono (by decide)) rfl rfl (Aa (dv 0) Ac))) Eu)),fun ds Q Ex h=>?_⟩⟩
 obtain⟨n,rfl,hb,q,x⟩:=h
 have hb:Bt 600 n:=hb
 have q:Fx n→∀d,d=.non→Q d:=q
 have x:¬Fx n→Ex (AeW n):=x
 have e:n.fmod 4=n % 4:=Int.fmod_eq_emod_of_nonneg _ (by decide)
 walk_at "go"
 refine⟨by decide,?_⟩
 by_cases h1:1<n.fmod 4
 ·exact ift (decide_eq_true h1) ⟨by decide,x fun z=>by have:=z.1;omega⟩
 ·refine CP (decide_eq_false h1) (Bs n (hb.le (by decide)) ?_)
  rintro _ ⟨k,rfl,hk⟩
  have hk:k=true↔Gv n:=hk
  cases k with
  |true=>exact ift rfl ⟨by decide,x fun z=>z.2 (hk.mp rfl)⟩
  |false=>exact CP rfl (q ⟨by omega,fun z=>(by have:=hk.mpr z;cases this)⟩ _ rfl)
noncomputable def FP(n m:Int):Dt:=open Classical in if Fx n then Jg n m else AeW n
abbrev MN:HS:=G6 (fun n:Int=>[.int n]) (fun n=>Bt 600 n) (fun n=>Fx n∧n≤4000) (fun n d=>∃g,d=t3 g∧LF (JQ n) g) fun n=>FP n 4000
abbrev YQ:DSp:=spec (fun D:Int=>[.int D]) (fun D=>RP D) fun D d=>∃g,d=t3 g∧LF (JQ D) g
theorem AbM(T:Txt K mg)
  (bQ:PmX P w K mg base 3 "check_measure" Cj ["number"] Ep)
  (gB:PmX P w K mg base 3 "check_at_most" Cz ["number","most"] Gi)
  (abX:Pm P w K mg base 11 "least_of" GP ["form"] Ou)
  : PmX P w K mg base 12 "unit" Jb ["number"] MN:=by
 obtain⟨f,fd,F⟩:=T.adN
 obtain⟨cG,aH⟩:=T.aH
 refine⟨f,fd,F,F.fn.okX Aal (fun ds Q E ⟨p,e,_⟩=>by rw[e];rfl) fun cdv A outer s H E hr=>⟨_,(Az (CZ (Bp Av bQ (hr.mono (by decide)) rfl (Aa (dv 0) Ac))) (Az (CZ (Bp Av gB (hr.mono (by decide)) rfl (Aa (dv 0) (Aa (Ip (v:=.int (4000)) (d:=.int (4000)) rfl aH ⟨_,rfl⟩ (fun _=>Bl.mpr rfl)) Ac)))) (Az (Ek (Ao 1 Aal.nd (FJ (dv 0) Ab))) (Bu (Ek (Aj (Ah Af abX (hr.mono (by decide)) rfl (Aa (Bf (Aa Ab (Aa (dv 1) (Aa (Cr (BR (dv 1) (dv 0)) Ab) Ac)))) Ac)))))))),fun ds Q Ex h=>?_⟩⟩
 obtain⟨n,rfl,hb,q,x⟩:=h
 have hb:Bt 600 n:=hb
 walk_at "go"
 refine Bq n hb (fun hm _ _=>Bq (n,4000) trivial (fun h4 _ _=>?_) fun h4=>?_) fun nm=>?_
 ·have hD:RP n:=⟨hm.1,hm.2,h4,hb⟩
  exact⟨by decide,⟨by decide,by decide⟩,Ay (by decide),Bs (JQ n) ⟨hD.bt.le (by decide),hD.kind⟩ (q ⟨hm,h4⟩)⟩
 ·have:=x fun z=>h4 z.2
  dsimp only at this
  rw[FP,if_pos hm]at this
  exact this
 ·have:=x fun z=>nm z.1
  dsimp only at this
  rw[FP,if_neg nm]at this
  exact this
theorem Afu{P:Program}{w:World}{K:W.Frag}{mg:Str→Option Value}{base:Heap}(G:PmX P w K mg base 12 "unit" Jb ["number"] MN)
  : Pm P w K mg base 12 "unit" Jb ["number"] YQ:=by
 refine G.pm Av fun ds Q h=>?_
 obtain⟨n,e,hD,q⟩:=h
 have hD:RP n:=hD
 exact⟨n,e,hD.b,fun _ d z=>q d z,fun z=>absurd ⟨⟨hD.r,hD.n⟩,hD.m⟩ z⟩
theorem LF.btn{f g:I3}{n:Nat}(L:LF f g)(h:Bt n (meas f))(hn:7≤n):B3 n g:=by
 rcases L with⟨_,t,dt,L,rfl⟩|⟨hS,t0,far,N,j,R,_,_,rfl⟩
 ·exact L.bt (by rw[Ca dt];exact h)
 ·have hv:=Lv.rF j R.v
  exact(V1 hv.S hv.r hv.L).le hn
theorem LF.turn{f g:I3}(L:LF f g):∃x,det x=1∧mov f x=g:=by
 rcases L with⟨_,t,dt,_,rfl⟩|⟨_,t0,far,N,j,R,_,_,rfl⟩
 ·exact⟨t,dt,rfl⟩
 ·exact⟨Aq t0 (rT far j (mov f t0)),by rw[Dl,R.d,Qy];rfl,by rw[←BK,Hg]⟩
theorem Aee{f:I3}{t:I4}(h:BJ f∨Sad f)(dt:det t=1):BJ (mov f t)∨Sad (mov f t):=by
 rcases h with h|h
 ·exact .inl (V0 h dt)
 ·exact .inr (h.mov dt)
theorem AmX{f h:I3}{n m:Nat}(bf:Bt n f.1)(bh:Bt m h.1)(ha:f.1≠0):Bt (n+m) (jA f h (gJ f h)):=by
 have g0:=Og (h:=h) ha
 obtain⟨x,hx⟩:=(Lr (f:=f) (h:=h)).1
 obtain⟨y,hy⟩:=(Lr (f:=f) (h:=h)).2.1
 have e:f.1*h.1=gJ f h*gJ f h*(x*y):=by
  have:f.1*h.1=(gJ f h*x)*(gJ f h*y):=by rw[←hx,←hy]
  rw[this];grind
 unfold jA
 rw[e,Int.mul_fdiv_cancel_left _ (Int.mul_ne_zero (by omega) (by omega))]
 refine Sx (b:=gJ f h*gJ f h) ?_ (Int.mul_ne_zero (by omega) (by omega))
 rw[Int.mul_comm,←e]
 exact bf.mul bh
theorem Pair.of{f h:I3}(bf:B3 690 f)(bh:B3 690 h)(kf:BJ f∨Sad f)(kh:BJ h∨Sad h)(m:meas f=meas h)(pf:g3 f=1)(ph:g3 h=1)(bm:Bt 600 (meas f)):Pair f h :=
 ⟨bf.le (by decide),bh.le (by decide),kf,kh,m,pf,ph,bm,(AmX bf.1 bh.1 (Gu kf)).le (by decide)⟩
abbrev Fi:HS:=G6 (fun p:I2=>[.int p.1,.int p.2]) (fun _=>True) (fun p=>(p.1.natAbs:Int)≤p.2) (fun _ d=>d=.non) fun p=>Jg p.1 p.2
theorem Nh(T:Txt K mg)
  : PmX P w K mg base 3 "check_within" Cu ["number","most"] Fi:=by
 obtain⟨f,fd,F⟩:=T.mL
 obtain⟨aq,abP,fj,aaS,pR⟩:=QV (P:=P) (w:=w) (base:=base) T
 refine⟨f,fd,F,F.fn.okX Pg (fun ds Q E ⟨p,e,_⟩=>by rw[e];rfl) fun cdv A outer s H E hr=>⟨_,(Bu (Il (Vi (Ru T.pI (Aa (dv 0) Ac)) (dv 1)) (Bu (Jm pR (hr.mono (by decide)) rfl rfl (Aa (dv 0) (Aa (dv 1) Ac)))) Eu)),fun ds Q Ex h=>?_⟩⟩
 obtain⟨⟨n,m⟩,rfl,_,q,x⟩:=h
 have q:(n.natAbs:Int)≤m→∀d,d=.non→Q d:=q
 have x:¬(n.natAbs:Int)≤m→Ex (Jg n m):=x
 walk_at "go"
 refine Er (fun hw=>?_) (fun hw=>?_)
 ·have hw:=of_decide_eq_true hw
  exact⟨by decide,x (by omega)⟩
 ·have hw:¬_:=fun z=>hw (decide_eq_true z)
  exact q (by omega) _ rfl
theorem X3{sl:List Nat}{ti:DTI}{tt:DTT}{te:DTE}{ρ:BW}{Q:Dt→Prop}(h:ti ρ fun items=>Ia sl (fun _ R=>R items) tt te ρ Q):Ia sl ti tt te ρ Q:=h
theorem NQ{sl:List Nat}{ti:DTI}{te:DTE}{ρ:BW}{Q:Dt→Prop}(items:List Dt)(W:Nat→List Dt→Prop)(hi:∀R:List Dt→Prop,R items→ti ρ R)(hl:items.length≤sizeLine)(hc:caught sl ρ)(h0:W 0 [])
  (hs:∀(k:Nat) d acc,items[k]? = some d→W k acc→te (inner sl ρ d) fun e=>W (k+1) (acc++[e])) (hq:∀acc,W items.length acc→Q (.lst acc)):Ia sl ti Ld te ρ Q:=hi _ ⟨hl,hc,W,h0,fun k d acc hk w=>by
 show(if true=true then te (inner sl ρ d) fun e=>W (k+1) (acc++[e])else W (k+1) acc)
 rw[if_pos rfl]
 exact hs k d acc hk w,fun acc _ w=>hq acc w⟩
theorem Ms{n:Nat}(h:n≤20000):n<PySem.sizeLine:=by unfold PySem.sizeLine;omega
theorem QL{sl:List Nat}{ti:DTI}{tt:DTT}{te:DTE}{ρ:BW}{Q:Dt→Prop}(fs:List I3)(p:I3→Bool)(hi:∀R:List Dt→Prop,R (fs.map t3)→ti ρ R)(hl:fs.length≤20000)(hc:caught sl ρ)
  (ht:∀f∈fs,∀R:Bool→Prop,R (p f)→tt (inner sl ρ (t3 f)) R) (he:∀f∈fs,∀R:Dt→Prop,R (t3 f)→te (inner sl ρ (t3 f)) R) (hq:Q (.lst ((fs.filter p).map t3))):Ia sl ti tt te ρ Q:=by
 refine Uh (fs.map t3) (fun d=>match d with|.tup [.int a,.int b,.int c]=>p (a,b,c)|_=>false) id hi (by rw[List.length_map];exact Nat.le_of_lt (Ms hl)) hc (fun d hd R hR=>?_) (fun d hd _ R hR=>?_) ?_
 ·obtain⟨f,hf,rfl⟩:=List.mem_map.mp hd
  exact ht f hf R hR
 ·obtain⟨f,hf,rfl⟩:=List.mem_map.mp hd
  exact he f hf R hR
 ·rw[List.filter_map,List.map_id]
  exact hq
structure PG(n most:Int)(k j:Nat)(fs:List I3):Prop where
 srt:Srt fs
 mem:∀f,f∈fs↔f.1≠0∧-most≤f.1∧(f.1 < -most+k∨(f.1=-most+k∧f.2.1 < -most+j))∧(-most≤f.2.1∧f.2.1≤most)∧meas f=n
 len:fs.length≤127*k+j
theorem PG.start{n most:Int}:PG n most 0 0 []:=⟨List.Pairwise.nil,fun f=>by
 constructor
 ·intro z
  cases z
 ·rintro⟨_,h1,h2,h3,_⟩
  omega,Nat.zero_le _⟩
theorem PG.row{n most:Int}{k j:Nat}{fs:List I3}(h:PG n most k j fs)(hj:-most+j=most+1)(hm:most≤63):PG n most (k+1) 0 fs:=⟨h.srt,fun f=>by
 rw[h.mem f]
 constructor
 ·rintro⟨h0,h1,h2,h3,h4⟩
  exact⟨h0,h1,by omega,h3,h4⟩
 ·rintro⟨h0,h1,h2,h3,h4⟩
  exact⟨h0,h1,by omega,h3,h4⟩,by have:=h.len;omega⟩
theorem PG.skip{n most a b:Int}{k j:Nat}{fs:List I3}(h:PG n most k j fs)(ha:-most+k=a)(hb:-most+j=b)(no:∀c,a≠0→b*b-n=4*a*c→False):PG n most k (j+1) fs:=⟨h.srt,fun f=>by
 rw[h.mem f]
 constructor
 ·rintro⟨h0,h1,h2,h3,h4⟩
  exact⟨h0,h1,by omega,h3,h4⟩
 ·rintro⟨h0,h1,h2,h3,h4⟩
  refine⟨h0,h1,?_,h3,h4⟩
  rcases Int.lt_or_le f.1 a with z|z
  ·exact .inl (by omega)
  ·refine .inr ⟨by omega,?_⟩
   rcases Int.lt_or_le f.2.1 b with y|y
   ·omega
   ·exfalso
    have e1:f.1=a:=by omega
    have e2:f.2.1=b:=by omega
    have h4:f.2.1*f.2.1-4*f.1*f.2.2=n:=h4
    rw[e1,e2]at h4
    exact no f.2.2 (by omega) (by omega),by have:=h.len;omega⟩
theorem PG.add{n most a b c:Int}{k j:Nat}{fs:List I3}(h:PG n most k j fs)(ha:-most+k=a)(hb:-most+j=b)(hb2:b≤most)(a0:a≠0)(e:b*b-n=4*a*c):PG n most k (j+1) (fs++[(a,b,c)]):=by
 refine⟨List.pairwise_append.mpr ⟨h.srt,List.pairwise_singleton _ _,fun g hg x hx=>?_⟩,fun f=>?_,by rw[List.length_append,List.length_singleton];have:=h.len;omega⟩
 ·rw[List.mem_singleton.mp hx]
  obtain⟨_,_,h2,_⟩:=(h.mem g).mp hg
  unfold lt3
  show g.1<a∨(g.1=a∧(g.2.1<b∨_))
  omega
 ·rw[List.mem_append,List.mem_singleton,h.mem f]
  constructor
  ·rintro(⟨h0,h1,h2,h3,h4⟩|rfl)
   ·exact⟨h0,h1,by omega,h3,h4⟩
   ·refine⟨a0,by show -most≤a;omega,.inr ⟨by show a=_;omega,by show b<_;omega⟩,⟨by show -most≤b;omega,hb2⟩,?_⟩
    show b*b-4*a*c=n
    omega
  ·rintro⟨h0,h1,h2,h3,h4⟩
   by_cases z:f.1=a∧f.2.1=b
   ·right
    have h4:f.2.1*f.2.1-4*f.1*f.2.2=n:=h4
    rw[z.1,z.2]at h4
    have e3:4*a*f.2.2=4*a*c:=by omega
    have e4:=Int.eq_of_mul_eq_mul_left (by omega) e3
    exact Prod.ext z.1 (Prod.ext z.2 e4)
   ·left
    exact⟨h0,h1,by omega,h3,h4⟩
abbrev J5:DSp:=spec (fun p:I2=>[.int p.1,.int p.2]) (fun p=>Bt 20 p.1∧0≤p.2∧p.2≤63) fun p d=>∃fs:List I3,d=.lst (fs.map t3)∧Srt fs∧(∀f,f∈fs↔PF p.1 p.2 f)∧fs.length≤16200
theorem Qe(T:Txt K mg)
  (sV:Pm P w K mg base 2 "content" Gz ["form"] Ly)
  : Pm P w K mg base 3 "plain_forms" Dq ["number","most"] J5:=by
 obtain⟨f,fd,F⟩:=T.pG
 refine⟨f,fd,F,F.fn.okD Gk (by walk_at "lE") fun cdv A outer s H E hr=>⟨_,(Ae (AdG 2 Gk.nd Ac) (Ae (Yn PassesOwn.never rfl (Aar rfl T.jW (Aa (Cg (dv 1)) (Aa (Bm (dv 1) Ab) Ac))) (Cq 3 Gk.nd) (Ai (Yn PassesOwn.never rfl (Aar rfl T.jW (Aa (Cg (dv 1)) (Aa (Bm (dv 1) Ab) Ac))) (Cq 4 Gk.nd) (Ai (Bw (DW.dt (Qn (Ih hr.units (dv 3) Ab) (PB (BZ hr.units (FJ (BR (Al (dv 4) (dv 4)) (dv 0)) (Al Ab (dv 3))) Ab)))) (Ai (Yu 2 (Bf (Aa (dv 3) (Aa (dv 4) (Aa (Cr (BR (Al (dv 4) (dv 4)) (dv 0)) (Al Ab (dv 3))) Ac)))))) Bc))))) (Ai (AdQ 2 (Aj (W0 (Ga (sc:=Ag Dq) (NN:=["number","most","found","a","b"]) (x:="form") (N:=[]) (sl:=[]) rfl rfl (by decide +kernel)) rfl (Mf (dv 2)) (fun cl C s0 H0 ex=>(BZ hr.units (Ah Af sV (hr.mono (by decide)) rfl (Aa (dv 0) Ac)) Ab)) (fun cl C s0 H0 ex=>(dv 0)))))))),fun ds Q h=>?_⟩⟩
 obtain⟨⟨n,most⟩,rfl,⟨bn,m0,m6⟩,q⟩:=h
 have bn:Bt 20 n:=bn
 have m0:0≤most:=m0
 have m6:most≤63:=m6
 have q:∀d,(∃fs:List I3,d=.lst (fs.map t3)∧Srt fs∧(∀f,f∈fs↔PF n most f)∧fs.length≤16200)→Q d:=q
 have four:Bt 3 4:=Bt.aA (by decide)
 have in7:∀{k:Nat},k<(most+1 - -most).toNat→Bt 7 (-most+k)∧-most+(k:Int)≤most:=fun{k} h=>⟨Bt.of (by omega) (by omega),by omega⟩
 have rng:(-(2 ^ 62)≤-most∧-most<2 ^ 62∧-(2 ^ 62)≤most+1∧most+1<2 ^ 62):=by omega
 have cnt:((most+1 - -most).toNat:Int)=2*most+1:=by omega
 walk_at "go"
 refine⟨Nat.zero_le _,?_⟩
 refine Um (ups (-most) (most+1 - -most).toNat) (fun R hR=>⟨rng,hR⟩) (fun k ρ=>∃fs x y,ρ=[some (.is (.int n)),some (.is (.int most)),some (.own (fs.map t3)),x,y]∧PG n most k 0 fs) ⟨[],none,none,rfl,PG.start⟩ ?_ ?_
 ·rintro k d _ hk ⟨fs,x,y,rfl,pg⟩
  obtain⟨hk',rfl⟩:=Pn hk
  obtain⟨ba,ha⟩:=in7 hk'
  generalize ea:-most+(k:Int)=a at *
  walk_at "rd"
  refine Um (ups (-most) (most+1 - -most).toNat) (fun R hR=>⟨rng,hR⟩) (fun j ρ=>∃fs y,ρ=[some (.is (.int n)),some (.is (.int most)),some (.own (fs.map t3)),some (.is (.int a)),y]∧PG n most k j fs) ⟨fs,y,rfl,pg⟩ ?_ ?_
  ·rintro j d _ hj ⟨fs,y,rfl,pg⟩
   obtain⟨hj',rfl⟩:=Pn hj
   obtain⟨bb,hb⟩:=in7 hj'
   generalize eb:-most+(j:Int)=b at *
   have len:=pg.len
   have big:fs.length<sizeLine:=Ms (by omega)
   walk_at "rd"
   by_cases a0:a=0
   ·exact CP (by simp[a0]) ⟨fs,_,rfl,pg.skip ea eb fun c z=>absurd a0 z⟩
   ·have hd:=Int.fmod_add_mul_fdiv (b*b-n) (4*a)
    refine ift (by simp[a0]) ⟨bb.aJ bb,four.aJ ba,by omega,?_⟩
    by_cases hm:(b*b-n).fmod (4*a)=0
    ·refine ift (decide_eq_true hm) ⟨bb.aJ bb,four.aJ ba,Bt.jw (four.mul ba) (by omega),Ay (by decide),big,fs++[(a,b,(b*b-n).fdiv (4*a))],_,by rw[List.map_append];rfl,pg.add ea eb hb a0 (by omega)⟩
    ·refine CP (decide_eq_false hm) ⟨fs,_,rfl,pg.skip ea eb fun c _ e=>hm ?_⟩
     rw[e,Int.mul_comm (4*a) c,Int.mul_fmod_left]
  ·rintro _ ⟨fs,y,rfl,pg⟩
   rw[Pr]at pg
   exact⟨fs,_,_,rfl,pg.row (by omega) m6⟩
 ·rintro _ ⟨fs,x,y,rfl,pg⟩
  rw[Pr]at pg
  have len:=pg.len
  walk_at "rd"
  refine QL fs (fun f=>decide (g3 f=1)) (fun R hR=>hR) (by omega) Es (fun f hf R hR=>?_) (fun f hf R hR=>hR) ?_
  ·unfold inner
   walk_at "rd"
   refine Ar f trivial ⟨Ig,?_⟩
   rw[K6]
   have e:decide (((g3 f:Nat):Int)=1)=decide (g3 f=1):=decide_eq_decide.mpr ⟨fun z=>by omega,fun z=>by omega⟩
   rw[e]
   exact hR
  ·exact q _ ⟨_,rfl,pg.srt.filter _,fun f=>by
    rw[List.mem_filter,pg.mem f,decide_eq_true_eq]
    constructor
    ·rintro⟨⟨h0,h1,h2,h3,h4⟩,h5⟩
     exact⟨h0,⟨h1,by omega⟩,h3,h4,h5⟩
    ·rintro⟨h0,h1,h3,h4,h5⟩
     exact⟨⟨h0,h1.1,by omega,h3,h4⟩,h5⟩,Nat.le_trans (List.length_filter_le _ _) (by omega)⟩
structure Iz(n:Int)(ls:List I3):Prop where
 srt:Srt ls
 mem:∀f,f∈ls↔meas f=n∧g3 f=1∧LF f f
 len:ls.length≤16200
theorem LF.bowl{f:I3}(h:meas f<0):LF f f↔Eo f:=by
 constructor
 ·rintro(⟨_,t,dt,L,e⟩|⟨S,_⟩)
  ·rw[e];exact L
  ·have:=S.pos;omega
 ·intro L
  exact .inl ⟨⟨L.1,h⟩,(1,0,0,1),rfl,by rw[Dy];exact L,by rw[Dy]⟩
abbrev Kh:DSp:=spec (fun n:Int=>[.int n]) (fun n=>n<0∧-4000≤n) fun n d=>∃ls,d=.lst (ls.map t3)∧Iz n ls
theorem Ro(T:Txt K mg)
  (wV:Pm P w K mg base 3 "plain_forms" Dq ["number","most"] J5)
  (jD:Pm P w K mg base 1 "stands_least" CT ["form"] G8)
  (pQ:Pm P w K mg base 1 "root" JB ["number"] MP)
  : Pm P w K mg base 4 "least_bowls" Dn ["number"] Kh:=by
 obtain⟨f,fd,F⟩:=T.pD
 refine⟨f,fd,F,F.fn.okD Ql (by walk_at "lE") fun cdv A outer s H E hr=>⟨_,(Ai (Aj (W0 (Ga (sc:=Ag Dn) (NN:=["number"]) (x:="form") (N:=[]) (sl:=[]) rfl rfl (by decide +kernel)) rfl (Mf (Ah Af wV (hr.mono (by decide)) rfl (Aa (dv 0) (Aa (Ah Af pQ (hr.mono (by decide)) rfl (Aa (Cr (Cg (dv 0)) Ab) Ac)) Ac)))) (fun cl C s0 H0 ex=>(Jz (Ah Af jD (hr.mono (by decide)) rfl (Aa (dv 0) Ac)))) (fun cl C s0 H0 ex=>(dv 0))))),fun ds Q h=>?_⟩⟩
 obtain⟨n,rfl,⟨n0,n4⟩,q⟩:=h
 have n0:n<0:=n0
 have n4:-4000≤n:=n4
 have q:∀d,(∃ls,d=.lst (ls.map t3)∧Iz n ls)→Q d:=q
 have x0:0≤(-n).fdiv 3:=by rw[Int.fdiv_eq_ediv_of_nonneg _ (by decide)];omega
 have x1:3*(-n).fdiv 3≤-n∧-n<3*(-n).fdiv 3+3:=by rw[Int.fdiv_eq_ediv_of_nonneg _ (by decide)];omega
 walk_at "go"
 refine X3 ?_
 walk_at "rd"
 refine⟨⟨by decide,by decide⟩,Bs ((-n).fdiv 3) ⟨x0,(Bt.of (by omega) (by omega):Bt 20 _).le (by decide)⟩ ?_⟩
 rintro _ ⟨r,rfl,hr',_⟩
 have hr':Sq ((-n).fdiv 3) r:=hr'
 have r0:=hr'.1
 have r6:r≤63:=PX hr' (by omega)
 refine Bs (n,r) ⟨Bt.of (show -(2 ^ 20)<n by omega) (show n<2 ^ 20 by omega),r0,r6⟩ ?_
 rintro _ ⟨fs,rfl,sr,mem,len⟩
 have mem:∀f,f∈fs↔PF n r f:=mem
 refine QL fs stands (fun R hR=>hR) (by omega) Es (fun f hf R hR=>?_) (fun f hf R hR=>hR) ?_
 ·unfold inner
  walk_at "rd"
  exact Ar f trivial hR
 ·refine q _ ⟨_,rfl,sr.filter _,fun f=>?_,Nat.le_trans (List.length_filter_le _ _) len⟩
  rw[List.mem_filter,mem f]
  constructor
  ·rintro⟨⟨h0,h1,h2,h3,h4⟩,h5⟩
   refine⟨h3,h4,(LF.bowl (by omega)).mpr (Br ?_ h5)⟩
   simp only[stands,Bool.and_eq_true,Bool.or_eq_true,decide_eq_true_eq]at h5
   omega
  ·rintro⟨h3,h4,h5⟩
   have L:=(LF.bowl (by omega)).mp h5
   obtain⟨a0,l1,l2,l3,_⟩:=L
   have ex:f.2.1*f.2.1-4*f.1*f.2.2=n:=h3
   have y1:f.2.1*f.2.1≤f.1*f.1:=by
    rcases Int.le_total 0 f.2.1 with z|z
    ·exact Int.mul_le_mul l2 l2 z (by omega)
    ·have:=Int.mul_le_mul (show -f.2.1≤f.1 by omega) (show -f.2.1≤f.1 by omega) (by omega) (by omega)
     have e:-f.2.1 * -f.2.1=f.2.1*f.2.1:=Int.neg_mul_neg _ _
     omega
   have y2:f.1*f.1≤f.1*f.2.2:=Int.mul_le_mul_of_nonneg_left l3 (by omega)
   have y3:4*f.1*f.2.2=4*(f.1*f.2.2):=Int.mul_assoc ..
   have ar:f.1≤r:=by
    rcases Int.lt_or_le r f.1 with z|z
    ·have:=Int.mul_le_mul (show r+1≤f.1 by omega) (show r+1≤f.1 by omega) (by omega) (by omega)
     have:=hr'.2.2
     omega
    ·exact z
   exact⟨⟨by omega,by omega,by omega,h3,h4⟩,Eo.stands ((LF.bowl (by omega)).mp h5)⟩
abbrev Ir:HS:=G6 (fun n:Int=>[.int n]) (fun n=>Bt 600 n∧(Fx n∧(n.natAbs:Int)≤4000→n<0)) (fun n=>Fx n∧(n.natAbs:Int)≤4000) (fun n d=>∃ls,d=.lst (ls.map t3)∧Iz n ls) fun n=>FP n 4000
theorem VN(T:Txt K mg)
  (bQ:PmX P w K mg base 3 "check_measure" Cj ["number"] Ep)
  (bW:PmX P w K mg base 3 "check_within" Cu ["number","most"] Fi)
  (wW:Pm P w K mg base 4 "least_bowls" Dn ["number"] Kh)
  : PmX P w K mg base 9 "classes" Ef ["number"] Ir:=by
 obtain⟨f,fd,F⟩:=T.yF
 obtain⟨cG,aH⟩:=T.aH
 refine⟨f,fd,F,F.fn.okX YD (fun ds Q E ⟨p,e,_⟩=>by rw[e];rfl) fun cdv A outer s H E hr=>⟨_,(Az (CZ (Bp Av bQ (hr.mono (by decide)) rfl (Aa (dv 0) Ac))) (Az (CZ (Bp Av bW (hr.mono (by decide)) rfl (Aa (dv 0) (Aa (Ip (v:=.int (4000)) (d:=.int (4000)) rfl aH ⟨_,rfl⟩ (fun _=>Bl.mpr rfl)) Ac)))) (Az (Ek (Bw (Q8 (dv 0) Ab) (Ai (Aj (Ah Af wW (hr.mono (by decide)) rfl (Aa (dv 0) Ac)))) Bc)) (Bu (Ek Jj))))),fun ds Q Ex h=>?_⟩⟩
 obtain⟨n,rfl,⟨hb,hn⟩,q,x⟩:=h
 have hb:Bt 600 n:=hb
 walk_at "go"
 refine Bq n hb (fun hm _ _=>Bq (n,4000) trivial (fun h4 _ _=>?_) fun h4=>?_) fun nm=>?_
 ·have h4:(n.natAbs:Int)≤4000:=h4
  have hn:=hn ⟨hm,h4⟩
  exact ift (decide_eq_true hn) (Bs n ⟨hn,by show -4000≤n;omega⟩ (q ⟨hm,h4⟩))
 ·have:=x fun z=>h4 z.2
  dsimp only at this
  rw[FP,if_pos hm]at this
  exact this
 ·have:=x fun z=>nm z.1
  dsimp only at this
  rw[FP,if_neg nm]at this
  exact this
abbrev Rg:DSp:=spec (fun n:Int=>[.int n]) (fun n=>Fx n∧-4000≤n∧n<0) fun n d=>∃ls,d=.lst (ls.map t3)∧Iz n ls
theorem Xl{P:Program}{w:World}{K:W.Frag}{mg:Str→Option Value}{base:Heap}(G:PmX P w K mg base 9 "classes" Ef ["number"] Ir)
  : Pm P w K mg base 9 "classes" Ef ["number"] Rg:=by
 refine G.pm Av fun ds Q h=>?_
 obtain⟨n,e,⟨hm,h4,h0⟩,q⟩:=h
 have h4:-4000≤n:=h4
 have h0:n<0:=h0
 exact⟨n,e,⟨(show Bt 13 n from Bt.of (by omega) (by omega)).le (by decide),fun _=>h0⟩,fun _ d z=>q d z,fun z=>absurd ⟨hm,by show(n.natAbs:Int)≤4000;omega⟩ z⟩
abbrev GF:DSp:=spec (fun p:I3×I3=>[t3 p.1,t3 p.2]) (fun p=>Pair p.1 p.2) fun p d=>∃F G,d=t3 G∧Comp p.1 p.2 F∧LF F G
theorem Nu(T:Txt K mg)
  (jZ:Pm P w K mg base 12 "product" Dv ["one","other"] JH)
  : Pm P w K mg base 13 "least_product" Cy ["one","other"] GF:=by
 obtain⟨f,fd,F⟩:=T.lZ
 refine⟨f,fd,F,F.fn.okD Ny (by walk_at "lE") fun cdv A outer s H E hr=>⟨_,(Ai (Aj (Ad (Ah Af jZ (hr.mono (by decide)) rfl (Aa (dv 0) (Aa (dv 1) Ac))) Ab))),fun ds Q h=>?_⟩⟩
 obtain⟨⟨f,h⟩,rfl,hP,q⟩:=h
 walk_at "go"
 refine Bs (f,h) hP ?_
 rintro _ ⟨F,G,p,r,C,L,_,_,_,rfl,_⟩
 walk_at "rd"
 exact q _ ⟨F,G,rfl,C,L⟩
theorem Acw{n:Int}{ls:List I3}{f h F G:I3}(C:Iz n ls)(h0:n<0)(hf:f∈ls)(hh:h∈ls)(A:Comp f h F)(L:LF F G):G∈ls:=by
 obtain⟨f1,f2,_⟩:=(C.mem f).mp hf
 obtain⟨g1,g2,_⟩:=(C.mem h).mp hh
 have mF:meas F=n:=A.meas.2.trans g1
 have pF:=A.plain f2 g2
 rcases L with⟨hb,t,dt,L,rfl⟩|⟨S,_⟩
 ·refine(C.mem _).mpr ⟨by rw[Ca dt,mF],by rw[Ad2 dt];exact pF,(LF.bowl (by rw[Ca dt];omega)).mpr L⟩
 ·have:=S.pos
  omega
theorem AbL{n:Int}{ls:List I3}{f h:I3}(C:Iz n ls)(h0:n<0)(h4:-4000≤n)(hf:f∈ls)(hh:h∈ls):Pair f h:=by
 obtain⟨f1,f2,f3⟩:=(C.mem f).mp hf
 obtain⟨g1,g2,g3⟩:=(C.mem h).mp hh
 have Lf:=(LF.bowl (by omega)).mp f3
 have Lh:=(LF.bowl (by omega)).mp g3
 have bn:Bt 13 n:=Bt.of (by omega) (by omega)
 exact Pair.of ((Lf.bt (n:=13) (by rw[f1];exact bn)).le (by decide)) ((Lh.bt (n:=13) (by rw[g1];exact bn)).le (by decide)) (.inl Lf.bowl) (.inl Lh.bowl) (by rw[f1,g1]) f2 g2 (by rw[f1];exact bn.le (by decide))
theorem Vy{α:Type}{F:α→Dt}{l:List α}{i:Nat}{d:Dt}(h:(l.map F)[i]? = some d):∃a,l[i]? = some a∧d=F a:=by
 rw[List.getElem?_map]at h
 obtain⟨a,h1,h2⟩:=Option.map_eq_some_iff.mp h
 exact⟨a,h1,h2.symm⟩
theorem Amt{a:Nat}{ρ:BW}{d:Dt}:inner [a] ρ d=[some (.is d),ρ[a]?.join]:=rfl
theorem Aph{a b:Nat}{ρ:BW}{d:Dt}:inner [a,b] ρ d=[some (.is d),ρ[a]?.join,ρ[b]?.join]:=rfl
theorem Ad9{f g:I3}(h:Im f=Im g):f=g:=by
 obtain⟨a,b,c⟩:=f
 obtain⟨x,y,z⟩:=g
 unfold Im at h
 injection h with h1 h
 injection h with h2 h
 injection h with h3 _
 have h1:a=x:=h1
 have h2:b=y:=h2
 have h3:c=z:=h3
 rw[h1,h2,h3]
theorem V5{x:I3}:∀{ls:List I3},x∈ls→∃k,k<ls.length∧(ls.map Im).getD k []=Im x∧∀m,m<k→(ls.map Im).getD m []≠Im x
 | y::ls,h=>by
  by_cases e:y=x
  ·exact⟨0,Nat.zero_lt_succ _,by rw[←e];rfl,fun m hm=>(by omega)⟩
  ·obtain⟨k,h1,h2,h3⟩:=V5 ((List.mem_cons.mp h).resolve_left fun z=>e z.symm)
   refine⟨k+1,Nat.succ_lt_succ h1,h2,fun m hm=>?_⟩
   cases m with
   |zero=>exact fun z=>e (Ad9 z)
   |succ m=>exact h3 m (by omega)
abbrev JR:DSp:=spec (fun p:List I3×I3×Int=>[.lst (p.1.map t3),t3 p.2.1]) (fun p=>Iz p.2.2 p.1∧p.2.1∈p.1∧p.2.2<0∧-4000≤p.2.2) fun _ d=>∃ns,d=.lst ns
theorem Ph(T:Txt K mg)
  (jd:Pm P w K mg base 13 "least_product" Cy ["one","other"] GF)
  : Pm P w K mg base 14 "row_of_table" CQ ["forms","one"] JR:=by
 obtain⟨f,fd,F⟩:=T.mV
 refine⟨f,fd,F,F.fn.okD O9 (by walk_at "lE") fun cdv A outer s H E hr=>⟨_,(Ai (Aj (Mi (Ga (sc:=Ag CQ) (NN:=["forms","one"]) (x:="other") (N:=["forms","one"]) (sl:=[0,1]) rfl rfl (by decide +kernel)) rfl (Mf (dv 0)) (fun cl C s0 H0 ex=>(AaY 1 hr.units (AlF hr.units) (Ah Af jd (hr.mono (by decide)) rfl (Aa (dv 2) (Aa (dv 0) Ac)))))))),fun ds Q h=>?_⟩⟩
 obtain⟨⟨ls,f,n⟩,rfl,⟨C,hf,h0,h4⟩,q⟩:=h
 have C:Iz n ls:=C
 have hf:f∈ls:=hf
 have h0:n<0:=h0
 have h4:-4000≤n:=h4
 walk_at "go"
 have er:ls.map t3=(ls.map Im).map Iw:=by rw[List.map_map];rfl
 refine NQ (ls.map t3) (fun _ _=>True) (fun R hR=>hR) (by rw[List.length_map];exact Nat.le_of_lt (Ms (by have:=C.len;omega))) (G4 rfl (G4 rfl Es)) trivial (fun k d acc hk _=>?_) fun acc _=>q _ ⟨acc,rfl⟩
 obtain⟨h,hh,rfl⟩:=Vy hk
 rw[Aph]
 refine⟨ls.map Im,by rw[←er];rfl,?_⟩
 walk_at "rd"
 refine Bs (f,h) (AbL C h0 h4 hf (List.mem_of_getElem? hh)) ?_
 rintro _ ⟨F,G,rfl,A,L⟩
 have hG:=Acw C h0 hf (List.mem_of_getElem? hh) A L
 obtain⟨j,hj,ej,first⟩:=V5 (x:=G) hG
 exact⟨Im G,j,rfl,hj,ej,first⟩
def Aa9(n:Int):Prop:=Fx n∧(n.natAbs:Int)≤400
abbrev NT:HS:=G6 (fun n:Int=>[.int n]) (fun n=>Bt 600 n∧(Aa9 n→n<0)) Aa9 (fun n d=>∃ls ks,d=.lst ks∧Iz n ls∧ks.length=ls.length) fun n=>FP n 400
abbrev Vh:DSp:=spec (fun n:Int=>[.int n]) (fun n=>Aa9 n∧n<0) fun n d=>∃ls ks,d=.lst ks∧Iz n ls∧ks.length=ls.length
theorem AaX(T:Txt K mg)
  (bQ:PmX P w K mg base 3 "check_measure" Cj ["number"] Ep)
  (bW:PmX P w K mg base 3 "check_within" Cu ["number","most"] Fi)
  (pX:PmX P w K mg base 9 "classes" Ef ["number"] Ir)
  (vq:Pm P w K mg base 14 "row_of_table" CQ ["forms","one"] JR)
  : PmX P w K mg base 15 "table" GZ ["number"] NT:=by
 obtain⟨f,fd,F⟩:=T.acQ
 obtain⟨mq,dU⟩:=T.dU
 refine⟨f,fd,F,F.fn.okX Ws (fun ds Q E ⟨p,e,_⟩=>by rw[e];rfl) fun cdv A outer s H E hr=>⟨_,(Az (CZ (Bp Av bQ (hr.mono (by decide)) rfl (Aa (dv 0) Ac))) (Az (CZ (Bp Av bW (hr.mono (by decide)) rfl (Aa (dv 0) (Aa (Ip (v:=.int (400)) (d:=.int (400)) rfl dU ⟨_,rfl⟩ (fun _=>Bl.mpr rfl)) Ac)))) (Az (KJ 1 Ws.nd (Bp Av pX (hr.mono (by decide)) rfl (Aa (dv 0) Ac))) (Bu (Ek (Aj (Mi (Ga (sc:=Ag GZ) (NN:=["number","forms"]) (x:="form") (N:=["forms"]) (sl:=[1]) rfl rfl (by decide +kernel)) rfl (Mf (dv 1)) (fun cl C s0 H0 ex=>(Ah Af vq (hr.mono (by decide)) rfl (Aa (dv 1) (Aa (dv 0) Ac))))))))))),fun ds Q Ex h=>?_⟩⟩
 obtain⟨n,rfl,⟨hb,hn⟩,q,x⟩:=h
 have hb:Bt 600 n:=hb
 have q:Aa9 n→∀d,(∃ls ks,d=.lst ks∧Iz n ls∧ks.length=ls.length)→Q d:=q
 walk_at "go"
 refine Bq n hb (fun hm _ _=>Bq (n,400) trivial (fun h4 _ _=>?_) fun h4=>?_) fun nm=>?_
 ·have h4:(n.natAbs:Int)≤400:=h4
  have h0:n<0:=hn ⟨hm,h4⟩
  refine Bq n ⟨hb,fun _=>h0⟩ (fun _ _ hd=>?_) fun z=>absurd ⟨hm,by show(n.natAbs:Int)≤4000;omega⟩ z
  obtain⟨ls,rfl,C⟩:=hd
  have C:Iz n ls:=C
  walk_at "rd"
  refine NQ (ls.map t3) (fun k acc=>acc.length=k) (fun R hR=>hR) (by rw[List.length_map];exact Nat.le_of_lt (Ms (by have:=C.len;omega))) (G4 rfl Es) rfl (fun k d acc hk w=>?_) (fun acc w=>?_)
  ·obtain⟨f,hf,rfl⟩:=Vy hk
   rw[Amt]
   walk_at "rd"
   refine Bs (ls,f,n) ⟨C,List.mem_of_getElem? hf,h0,by show -4000≤n;omega⟩ ?_
   rintro _ ⟨ns,rfl⟩
   rw[List.length_append,w]
   rfl
  ·exact q ⟨hm,h4⟩ _ ⟨ls,acc,rfl,C,by rw[w,List.length_map]⟩
 ·have:=x fun z=>h4 z.2
  dsimp only at this
  rw[FP,if_pos hm]at this
  exact this
 ·have:=x fun z=>nm z.1
  dsimp only at this
  rw[FP,if_neg nm]at this
  exact this
theorem AdY{P:Program}{w:World}{K:W.Frag}{mg:Str→Option Value}{base:Heap}(G:PmX P w K mg base 15 "table" GZ ["number"] NT)
  : Pm P w K mg base 15 "table" GZ ["number"] Vh:=by
 refine G.pm Av fun ds Q h=>?_
 obtain⟨n,e,⟨g,h0⟩,q⟩:=h
 have g:Aa9 n:=g
 have h4:=g.2
 exact⟨n,e,⟨(show Bt 13 n from Bt.of (by omega) (by omega)).le (by decide),fun _=>h0⟩,fun _ d z=>q d z,fun z=>absurd g z⟩
noncomputable def Wk(f:I3):Dt:=open Classical in if CK f then Li f else Kg f
abbrev Tp:HS:=G6 (fun p:I3×Int=>[t3 p.1,.int p.2]) (fun p=>B3 800 p.1∧¬(CK p.1∧g3 p.1=1)) (fun _=>False) (fun _ _=>False) fun p=>Wk p.1
theorem AaK(T:Txt K mg)
  (fu:PmX P w K mg base 10 "shape_of" CG ["form"] Gh)
  (bN:PmX P w K mg base 3 "check_plain" CJ ["form"] FW)
  : PmX P w K mg base 14 "power" Ko ["form","count"] Tp:=by
 obtain⟨f,fd,F⟩:=T.acR
 refine⟨f,fd,F,F.fn.okX WW (fun ds Q E ⟨p,e,_⟩=>by rw[e];rfl) fun cdv A outer s H E hr=>⟨_,(Az (KJ 2 WW.nd (Bp Av fu (hr.mono (by decide)) rfl (Aa (dv 0) Ac))) (Az (CZ (Bp Av bN (hr.mono (by decide)) rfl (Aa (dv 0) Ac))) (Az (Ek Jj) (Bu (Ek Jj))))),fun ds Q Ex h=>?_⟩⟩
 obtain⟨⟨f,n⟩,rfl,⟨hb,hn⟩,_,x⟩:=h
 have hb:B3 800 f:=hb
 have hn:¬(CK f∧g3 f=1):=hn
 have x:Ex (Wk f):=x id
 walk_at "go"
 refine Bq f (hb.le (by decide)) (fun kf _ ho=>Bq f trivial (fun pf _ _=>absurd ⟨kf,pf⟩ hn) fun np=>?_) fun nf=>?_
 ·rw[Wk,if_pos kf]at x
  exact x
 ·rw[Wk,if_neg nf]at x
  exact x
noncomputable def UW(f:I3):Dt:=open Classical in if CK f then if(meas f).natAbs≤4000 then Li f else Jg (meas f) 4000 else Kg f
abbrev JL:HS:=G6 (fun f:I3=>[t3 f]) (fun f=>B3 800 f∧(CK f∧(meas f).natAbs≤4000∧g3 f=1→f=(1,0,1000))) (fun f=>CK f∧(meas f).natAbs≤4000∧g3 f=1) (fun _ d=>d=.int 1) UW
abbrev O3:DSp:=CV (fun f:I3=>[t3 f]) (fun f=>f=(1,0,1000)) fun _=>.int 1
theorem Uj(T:Txt K mg)
  (vp:PmM P w K mg base 1 ["Bowl","Saddle"] "least" NK)
  (fu:PmX P w K mg base 10 "shape_of" CG ["form"] Gh)
  (bW:PmX P w K mg base 3 "check_within" Cu ["number","most"] Fi)
  (bN:PmX P w K mg base 3 "check_plain" CJ ["form"] FW)
  (zc:PmX P w K mg base 12 "unit" Jb ["number"] MN)
  (jd:Pm P w K mg base 13 "least_product" Cy ["one","other"] GF)
  : PmX P w K mg base 14 "order_of" DX ["form"] JL:=by
 obtain⟨f,fd,F⟩:=T.u5
 obtain⟨cG,aH⟩:=T.aH
 refine⟨f,fd,F,F.fn.okX DK (fun ds Q E ⟨p,e,_⟩=>by rw[e];rfl) fun cdv A outer s H E hr=>⟨_,(Az (KJ 1 DK.nd (Bp Av fu (hr.mono (by decide)) rfl (Aa (dv 0) Ac))) (Az (CZ (Bp Av bW (hr.mono (by decide)) rfl (Aa (Kv (dv 1)) (Aa (Ip (v:=.int (4000)) (d:=.int (4000)) rfl aH ⟨_,rfl⟩ (fun _=>Bl.mpr rfl)) Ac)))) (Az (CZ (Bp Av bN (hr.mono (by decide)) rfl (Aa (dv 0) Ac))) (Az (KJ 2 DK.nd (Bp Av zc (hr.mono (by decide)) rfl (Aa (Kv (dv 1)) Ac))) (Az (Ek (Ao 3 DK.nd (Ad (TY Af vp (hr.mono (by decide)) (dv 1)) Ab))) (Az (Ek (Ao 4 DK.nd (dv 3))) (Az (Ek (Ao 5 DK.nd Ab)) (Az (Ek (Ie PassesOwn.never (Ih hr.units (dv 4) (dv 2)) (Ae (Ao 4 DK.nd (Ah Af jd (hr.mono (by decide)) rfl (Aa (dv 4) (Aa (dv 3) Ac)))) (Ai (Af0 5 DK.nd Ab))))) (Bu (Ek (Aj (dv 5)))))))))))),fun ds Q Ex h=>?_⟩⟩
 obtain⟨f,rfl,⟨hb,hn⟩,q,x⟩:=h
 have hb:B3 800 f:=hb
 have hn:CK f∧(meas f).natAbs≤4000∧g3 f=1→f=(1,0,1000):=hn
 have q:CK f∧(meas f).natAbs≤4000∧g3 f=1→∀d,d=.int 1→Q d:=q
 have x:¬(CK f∧(meas f).natAbs≤4000∧g3 f=1)→Ex (UW f):=x
 walk_at "go"
 refine Bq f (hb.le (by decide)) (fun kf _ ho=>?_) fun nf=>?_
 ·obtain⟨c,l,hc,rfl,low⟩:=Pu ho
  refine⟨Pz T hc,.int (meas f),rfl,Bq (meas f,4000) trivial (fun h4 _ _=>Bq f trivial (fun pf _ _=>?_) fun np=>?_) fun h4=>?_⟩
  ·have h4:((meas f).natAbs:Int)≤4000:=h4
   have g:CK f∧(meas f).natAbs≤4000∧g3 f=1:=⟨kf,by omega,pf⟩
   obtain rfl:=hn g
   have q1:=q g _ rfl
   refine⟨Pz T hc,.int (-4000),rfl,Bq (-4000) ((show Bt 13 (-4000)from Bt.aA (by decide)).le (by decide)) (fun _ _ hd=>?_) fun z=>absurd ⟨⟨.inl rfl,G5 (by decide)⟩,by decide⟩ z⟩
   obtain⟨u,rfl,Lu⟩:=hd
   have Lu:LF (1,0,1000) u:=Lu
   obtain⟨G,t,rfl,L,_⟩:=Ag8 low
   obtain rfl:=L.uniq Lu
   have cm:c∈([Str.ofString "Bowl",Str.ofString "Saddle"]:List Str):=by rcases hc with e|e<;>rw[e]<;>simp
   refine⟨⟨cm,by decide⟩,Ar (c,_,_) hc ?_⟩
   walk_at "rd"
   refine HW (fun _ ρ=>ρ=[some (.is (t3 (1,0,1000))),some (.is (U8 c (1,0,1000) (.tup [t3 G,t4 t]))),some (.is (t3 G)),some (.is (t3 G)),some (.is (t3 G)),some (.is (.int 1))]) 0 rfl ?_
   rintro _ _ rfl
   walk_at "rd"
   exact CP (by simp) q1
  ·have h4:((meas f).natAbs:Int)≤4000:=h4
   have:=x fun z=>np z.2.2
   rw[UW,if_pos kf,if_pos (by omega)]at this
   exact this
  ·have h4:¬((meas f).natAbs:Int)≤4000:=h4
   have:=x fun z=>h4 (by have:=z.2.1;omega)
   rw[UW,if_pos kf,if_neg (by omega)]at this
   exact this
 ·have:=x fun z=>nf z.1
  rw[UW,if_neg nf]at this
  exact this
theorem Vk{P:Program}{w:World}{K:W.Frag}{mg:Str→Option Value}{base:Heap}(G:PmX P w K mg base 14 "order_of" DX ["form"] JL)
  : Pm P w K mg base 14 "order_of" DX ["form"] O3:=by
 refine G.pm Av fun ds Q h=>?_
 obtain⟨f,e,hf,q⟩:=h
 have hf:f=(1,0,1000):=hf
 subst hf
 have b:∀z:Int,z.natAbs<2 ^ 20→Bt 800 z:=fun z h=>(show Bt 20 z from h).le (by decide)
 exact⟨(1,0,1000),e,⟨⟨b _ (by decide),b _ (by decide),b _ (by decide)⟩,fun _=>rfl⟩,fun _ d z=>q d z,fun z=>absurd ⟨.inl ⟨by decide,by decide⟩,by decide,by decide⟩ z⟩
theorem Aez{α:Type}[DecidableEq α]{l m:List α}(hl:l.Nodup)(hm:m.Nodup)(h:∀x,x∈l↔x∈m):l.Perm m:=by
 rw[List.perm_iff_count]
 intro a
 rw[List.Nodup.count hl,List.Nodup.count hm]
 by_cases z:a∈l
 ·rw[if_pos z,if_pos ((h a).mp z)]
 ·rw[if_neg z,if_neg fun y=>z ((h a).mpr y)]
inductive Out where
 |shape (f:I3)|great (n m:Int)|apart|plain (f:I3)|noM (n:Int)
def oD:Out→Dt
 |.shape f=>Nz f
 |.great n m=>Jg n m
 |.apart=>Aed
 |.plain f=>Li f
 |.noM n=>AeW n
def oA:Out→Int
 |.shape _=>0
 |.great _ _=>1
 |.apart=>2
 |.plain _=>3
 |.noM _=>4
def oF:Out→Dt
 |.shape f=>t3 f
 |.great n m=>t2 (n,m)
 |.apart=>.non
 |.plain f=>t3 f
 |.noM n=>.int n
def kF(a:Int):Dt→Dt
 |.int k=>.bl (decide (k=a)||decide (k=6))
 |_=>.non
def kD(a:Int):Dt:=.lst ((ups 0 7).map (kF a))
abbrev R9(o:Out):Dt:=.lst [kD (oA o),oF o]
abbrev KZ:DSp:=CV (fun o:Out=>[oD o]) (fun _=>True) fun o=>kD (oA o)
theorem RK(T:Txt K mg)
  : Pm P w K mg base 1 "_law_kinds" Fj ["_law_told_here"] KZ:=by
 obtain⟨f,fd,F⟩:=T.rB
 obtain⟨afl,aez,uK,sW,sZ,rH,wX⟩:=T.acL
 obtain⟨aO,abY,pY,oZ,o7,mX,tu⟩:=T.uU
 obtain⟨aaV,mY,jq,iY,jc,bZ,fM⟩:=T.mK
 obtain⟨bH,adR,tD,rJ,rK,pZ,vA⟩:=T.aaM
 obtain⟨jt,tG,fP,dY,dZ,c7,je⟩:=T.sU
 obtain⟨bI,adS,tH,rM,rN,p7,vB⟩:=T.aaN
 obtain⟨aP,abZ,p8,o8,o9,mZ,tK⟩:=T.uV
 obtain⟨bJ,adT,tQ,rP,rQ,qb,vC⟩:=T.aaO
 obtain⟨gD,qd,jG,dg,dh,cH,gF⟩:=T.pP
 obtain⟨bK,adU,tU,rR,rW,qe,vD⟩:=T.aaP
 obtain⟨ab0,qg,jH,dw,jr,cI,gG⟩:=T.pN
 refine⟨f,fd,F,F.fn.okD Jc (by walk_at "lE") fun cdv A outer s H E hr=>⟨_,(Ae (Ao 1 Jc.nd (Bg (Aa (Lw T.aK (Aa (dv 0) (Aa (CW tG) Ac))) (Aa (Lw T.aK (Aa (dv 0) (Aa (CW qg) Ac))) (Aa (Lw T.aK (Aa (dv 0) (Aa (CW aez) Ac))) (Aa (Lw T.aK (Aa (dv 0) (Aa (CW qd) Ac))) Ac)))))) (Ae (Ao 2 Jc.nd (Z1 T.aK (Aa (dv 0) (Aa (Bf (Aa (CW abY) (Aa (CW adR) (Aa (CW adS) (Aa (CW abZ) (Aa (CW adT) (Aa (CW adU) Ac))))))) Ac)))) (Ai (Aj (DF.de (AcF (Afi (dv 1)) (AcZ (Aa (Lw T.aK (Aa (dv 0) (Aa (CW mY) Ac))) (Aa (dv 2) (Aa (AiJ T.aK T.cW (dv 0)) Ac)))))))))),fun ds Q h=>?_⟩⟩
 obtain⟨o,rfl,_,q⟩:=h
 have q':Q (kD (oA o)):=q _ rfl
 have s3:3≤sizeLine:=Ay (by decide)
 have s4:4≤sizeLine:=Ay (by decide)
 have s7:7≤sizeLine:=Ay (by decide)
 walk_at "go"
 have s6:6≤sizeLine:=Ay (by decide)
 cases o with
 |shape f=>exact⟨true,fP,false,jH,false,uK,false,jG,s4,s6,[aO,bH,bI,aP,bJ,bK],false,rfl,.cons pY (.cons tD (.cons tH (.cons p8 (.cons tQ (.cons tU .nil))))),⟨_,List.Mem.head _⟩,false,jq,s3,s7,q'⟩
 |great n m=>exact⟨false,dY,true,dw,false,sW,false,dg,s4,s6,[aO,bH,bI,aP,bJ,bK],false,rfl,.cons oZ (.cons rJ (.cons rM (.cons o8 (.cons rP (.cons rR .nil))))),⟨_,List.Mem.head _⟩,false,iY,s3,s7,q'⟩
 |apart=>exact⟨false,je,false,gG,true,wX,false,gF,s4,s6,[aO,bH,bI,aP,bJ,bK],false,rfl,.cons tu (.cons vA (.cons vB (.cons tK (.cons vC (.cons vD .nil))))),⟨_,List.Mem.head _⟩,false,fM,s3,s7,q'⟩
 |plain f=>exact⟨false,dZ,false,jr,false,sZ,true,dh,s4,s6,[aO,bH,bI,aP,bJ,bK],false,rfl,.cons o7 (.cons rK (.cons rN (.cons o9 (.cons rQ (.cons rW .nil))))),⟨_,List.Mem.head _⟩,false,jc,s3,s7,q'⟩
 |noM n=>exact⟨false,c7,false,cI,false,rH,false,cH,s4,s6,[aO,bH,bI,aP,bJ,bK],false,rfl,.cons mX (.cons pZ (.cons p7 (.cons mZ (.cons qb (.cons qe .nil))))),⟨_,List.Mem.head _⟩,true,bZ,s3,s7,q'⟩
theorem Hl.hit{K:W.Frag}{c:Str}{A:Addr}{As:List Addr}(h:Bd K c A true):Hl K c (A::As) true:=fun C e=>by
 have:=h C e
 rw[List.map_cons]
 unfold W.kitAny
 rw[this]
theorem Hl.skip{K:W.Frag}{c:Str}{A:Addr}{As:List Addr}{b:Bool}(h:Bd K c A false)(r:Hl K c As b):Hl K c (A::As) b:=fun C e=>by
 have:=h C e
 rw[List.map_cons]
 unfold W.kitAny
 rw[this]
 exact r C e
abbrev K3:DSp:=CV (fun o:Out=>[oD o]) (fun _=>True) oF
theorem RG(T:Txt K mg)
  : Pm P w K mg base 1 "_law_field" Fd ["_law_told_here"] K3:=by
 obtain⟨f,fd,F⟩:=T.rC
 obtain⟨aaV,mY,jq,iY,jc,bZ,fM⟩:=T.mK
 obtain⟨jt,tG,fP,dY,dZ,c7,je⟩:=T.sU
 obtain⟨gD,qd,jG,dg,dh,cH,gF⟩:=T.pP
 obtain⟨ab0,qg,jH,dw,jr,cI,gG⟩:=T.pN
 refine⟨f,fd,F,F.fn.okD RT (by walk_at "lE") fun cdv A outer s H E hr=>⟨_,(Ae (Bw (Jz (Z1 T.aK (Aa (dv 0) (Aa (Bf (Aa (CW tG) (Aa (CW qd) Ac))) Ac)))) (Ai (Aj (PJ (dv 0)))) Bc) (Ae (Bw (Jz (Lw T.aK (Aa (dv 0) (Aa (CW qg) Ac)))) (Ai (Aj (Bf (Aa (PJ (dv 0)) (Aa (PJ (dv 0)) Ac))))) Bc) (Ae (Bw (Jz (Lw T.aK (Aa (dv 0) (Aa (CW mY) Ac)))) (Ai (Aj (PJ (dv 0)))) Bc) (Ai (Aj Oj))))),fun ds Q h=>?_⟩⟩
 obtain⟨o,rfl,_,q⟩:=h
 have q':Q (oF o):=q _ rfl
 have s2:2≤sizeLine:=Ay (by decide)
 walk_at "go"
 cases o with
 |shape f=>exact⟨s2,[jt,gD],true,rfl,Hl.hit fP,ift rfl ⟨T.bC,_,rfl,q'⟩⟩
 |great n m=>exact⟨s2,[jt,gD],false,rfl,.cons dY (.cons dg .nil),CP rfl ⟨true,dw,ift rfl ⟨T.aU,_,rfl,T.aZ,_,rfl,s2,q'⟩⟩⟩
 |apart=>exact⟨s2,[jt,gD],false,rfl,.cons je (.cons gF .nil),CP rfl ⟨false,gG,CP rfl ⟨false,fM,CP rfl q'⟩⟩⟩
 |plain f=>exact⟨s2,[jt,gD],true,rfl,Hl.skip dZ (Hl.hit dh),ift rfl ⟨T.bw,_,rfl,q'⟩⟩
 |noM n=>exact⟨s2,[jt,gD],false,rfl,.cons c7 (.cons cH .nil),CP rfl ⟨false,cI,CP rfl ⟨true,bZ,ift rfl ⟨T.aQ,_,rfl,q'⟩⟩⟩⟩
abbrev Ew:DSp:=CV (fun p:Int×Dt=>[.int p.1,p.2]) (fun _=>True) fun p=>.lst [kD p.1,p.2]
theorem Wt(T:Txt K mg)
  : Pm P w K mg base 1 "_law_due" Ea ["_law_at","_law_field_here"] Ew:=by
 obtain⟨f,fd,F⟩:=T.u9
 refine⟨f,fd,F,F.fn.okD WL (by walk_at "lE") fun cdv A outer s H E hr=>⟨_,(Ai (Aj (Bg (Aa (Mi (Ga (sc:=Ag Ea) (NN:=["_law_at","_law_field_here"]) (x:="_law_k") (N:=["_law_at"]) (sl:=[0]) rfl rfl (by decide +kernel)) rfl (AfL rfl T.jW (Aa Ab Ac)) (fun cl C s0 H0 ex=>(AgR (SN hr.units (dv 0) (dv 1)) (P0 (SN hr.units (dv 0) Ab))))) (Aa (dv 1) Ac))))),fun ds Q h=>?_⟩⟩
 obtain⟨⟨a,x⟩,rfl,_,q⟩:=h
 have q':Q (.lst [kD a,x]):=q _ rfl
 walk_at "go"
 refine KC (ups 0 7) (kF a) (fun R hR=>⟨⟨by decide,by decide⟩,hR⟩) (by rw[Pr];exact Ay (by decide)) (G4 rfl Es) (fun d hd R hR=>?_) ⟨Ay (by decide),q'⟩
 obtain⟨k,hk⟩:=List.getElem?_of_mem hd
 obtain⟨hk,rfl⟩:=Pn hk
 rw[Amt]
 walk_at "rd"
 have hR:R (.bl (decide (0+(k:Int)=a)||decide (0+(k:Int)=6))):=hR
 by_cases h1:0+(k:Int)=a
 ·refine ift (decide_eq_true h1) ?_
  rw[decide_eq_true h1]at hR
  exact hR
 ·refine CP (decide_eq_false h1) ?_
  rw[decide_eq_false h1]at hR
  exact hR
theorem Du{Q:Dt→Prop}(o:Out)(q:Q (R9 o)):Ew [.int (oA o),oF o] Q:=Ar (oA o,oF o) trivial q
def K8(k:Int):I3:=(0-k,1,0-k)
def KR(k:Int):I3:=(k,k+1,1)
def Ra(k:Int):I3:=(1,0,-1-(k+31)*(k+31))
def OD(k:Int):I3:=(1,1,k)
def Fz(k:Int):I3:=(2,2,2*k)
abbrev IW:DSp:=CV (fun k:Int=>[.int k]) (fun k=>Bt 110 k) fun k=>.lst [t3 (K8 k),t3 (KR k),t3 (Ra k),t3 (OD k),t3 (Fz k)]
theorem R6(T:Txt K mg)
  : Pm P w K mg base 1 "_law_forms" DQ ["_law_far"] IW:=by
 obtain⟨f,fd,F⟩:=T.rD
 refine⟨f,fd,F,F.fn.okD Ec (by walk_at "lE") fun cdv A outer s H E hr=>⟨_,(Ae (Ao 1 Ec.nd (Bf (Aa (BR Ab (dv 0)) (Aa Ab (Aa (BR Ab (dv 0)) Ac))))) (Ae (Ao 2 Ec.nd (Bf (Aa (dv 0) (Aa (Bm (dv 0) Ab) (Aa Ab Ac))))) (Ae (Ao 3 Ec.nd (Bf (Aa Ab (Aa Ab (Aa (BR (Cg Ab) (Al (Bm (dv 0) Ab) (Bm (dv 0) Ab))) Ac))))) (Ae (Ao 4 Ec.nd (Bf (Aa Ab (Aa Ab (Aa (dv 0) Ac))))) (Ae (Ao 5 Ec.nd (Bf (Aa Ab (Aa Ab (Aa (Al Ab (dv 0)) Ac))))) (Ai (Aj (Bg (Aa (dv 1) (Aa (dv 2) (Aa (dv 3) (Aa (dv 4) (Aa (dv 5) Ac))))))))))))),fun ds Q h=>?_⟩⟩
 obtain⟨k,rfl,hk,q⟩:=h
 have hk:Bt 110 k:=hk
 have q':=q _ rfl
 have s3:3≤sizeLine:=Ay (by decide)
 have s5:5≤sizeLine:=Ay (by decide)
 have b1:Bt 111 (k+31):=hk.add (show Bt 110 31 from Bt.aA (by decide))
 walk_at "go"
 exact⟨s3,s3,b1.aJ b1,s3,s3,(show Bt 2 2 from Bt.aA (by decide)).aJ hk,s3,s5,q'⟩
theorem Apb{m:Int}(h:¬Gv m):¬Gv (4*m):=by
 rintro⟨r,hr⟩
 have he:r % 2=0:=by
  rcases(by omega:r % 2=0∨r % 2=1)with z|z
  ·exact z
  ·exfalso
   obtain⟨k,rfl⟩:∃k,r=2*k+1:=⟨r / 2,by omega⟩
   have:(2*k+1)*(2*k+1)=4*(k*k+k)+1:=by grind
   omega
 obtain⟨k,rfl⟩:∃k,r=2*k:=⟨r / 2,by omega⟩
 exact h ⟨k,by have:2*k*(2*k)=4*(k*k):=(by grind);omega⟩
theorem AnP{m:Int}(h:1≤m):¬Gv (m*m+1):=by
 rw[Mj (r:=m) ⟨by omega,by omega,by have:(m+1)*(m+1)=m*m+2*m+1:=(by grind);omega⟩]
 omega
theorem Acz{k:Int}(h:1≤k):¬CK (K8 k)∧Kg (K8 k)=Nz (K8 k):=by
 have m:meas (K8 k)=1-4*(k*k):=by simp only[meas,K8];grind
 have:=Int.mul_le_mul h h (by decide) (by omega)
 refine⟨fun z=>?_,Xk fun z=>by have:=z.1;omega⟩
 rcases z with z|z
 ·have:(0:Int)<0-k:=z.1
  omega
 ·have:=z.pos;omega
theorem AbC{k:Int}(h:1≤k):¬CK (KR k)∧Kg (KR k)=Nz (KR k):=by
 have m:meas (KR k)=(k-1)*(k-1):=by simp only[meas,KR];grind
 have s:Gv (meas (KR k)):=⟨k-1,m.symm⟩
 refine⟨fun z=>?_,Xk fun z=>z.2 s⟩
 rcases z with z|z
 ·exact G5 z.2 s
 ·exact z.no s
theorem Qh{k:Int}:meas (Ra k)=4+4*(k+31)*(k+31):=by simp only[meas,Ra];grind
theorem Abz{k:Int}(h:1≤k):¬CK (Ra k)∧Kg (Ra k)=Jg (4+4*(k+31)*(k+31)) 4000:=by
 have:=Int.mul_le_mul (show 32≤k+31 by omega) (show 32≤k+31 by omega) (by decide) (by omega)
 have e:4+4*(k+31)*(k+31)=4*((k+31)*(k+31)+1):=by grind
 have n:¬Gv (meas (Ra k)):=by
  rw[Qh,e]
  exact Apb (AnP (by omega))
 rw[←Qh]
 refine⟨fun z=>?_,Aco ⟨by rw[Qh,e];omega,n⟩⟩
 rcases z with z|z
 ·have:=z.2;rw[Qh,e]at this;omega
 ·have:=z.most;rw[Qh,e]at this;omega
theorem Ajt{k:Int}(h:1≤k):BJ (OD k)∧meas (OD k)=1-4*k∧g3 (OD k)=1:=by
 have m:meas (OD k)=1-4*k:=by simp only[meas,OD];omega
 exact⟨⟨by show(0:Int)<1;decide,by omega⟩,m,by unfold g3 OD;simp⟩
theorem Zf{k:Int}(h:1≤k):BJ (Fz k)∧meas (Fz k)=4-16*k∧g3 (Fz k)≠1:=by
 have m:meas (Fz k)=4-16*k:=by simp only[meas,Fz];omega
 refine⟨⟨by show(0:Int)<2;decide,by omega⟩,m,?_⟩
 have d:(2:Nat)∣g3 (Fz k):=by
  unfold g3 Fz
  exact Nat.dvd_gcd (show 2∣((Int.gcd 2 2:Nat):Int).natAbs by decide) (by show 2∣(2*k).natAbs;omega)
 intro z
 rw[z]at d
 revert d
 decide
theorem Wb{k:Int}(h:1≤k):BJ (2,-2,2*k)∧meas (2,-2,2*k)=4-16*k:=by
 have m:meas (2,-2,2*k)=4-16*k:=by simp only[meas];omega
 exact⟨⟨by show(0:Int)<2;decide,by omega⟩,m⟩
theorem Ajo{k:Int}(h:1≤k):BJ (1,0,4*k-1)∧meas (1,0,4*k-1)=4-16*k∧g3 (1,0,4*k-1)=1:=by
 have m:meas (1,0,4*k-1)=4-16*k:=by simp only[meas];omega
 exact⟨⟨by show(0:Int)<1;decide,by omega⟩,m,by unfold g3;simp⟩
theorem Ud{f:I3}{m r:Int}(e:meas f=m)(h0:0<m)(h4:m≤4000)(s:Sq m r)(n:r*r≠m):Sad f:=⟨by rw[e,Mj s];exact n,by omega,by omega⟩
theorem AkZ:Sad (1,1,-1):=Ud (m:=5) (r:=2) rfl (by decide) (by decide) ⟨by decide,by decide,by decide⟩ (by decide)
theorem Aoi:Sad (1,0,-2):=Ud (m:=8) (r:=2) rfl (by decide) (by decide) ⟨by decide,by decide,by decide⟩ (by decide)
theorem Aj9:Sad (1,0,-5):=Ud (m:=20) (r:=4) rfl (by decide) (by decide) ⟨by decide,by decide,by decide⟩ (by decide)
theorem T8:Sad (2,2,-2):=Ud (m:=20) (r:=4) rfl (by decide) (by decide) ⟨by decide,by decide,by decide⟩ (by decide)
structure RB(f h:I3)(o:Out):Prop where
 b:Qq f h
 n:¬Nf f h
 x:Hi f h=oD o
theorem Ahb{k:Int}(hk:Bt 110 k):B3 300 (K8 k)∧B3 300 (KR k)∧B3 300 (Ra k)∧B3 300 (OD k)∧B3 300 (Fz k)∧B3 300 (2,-2,2*k)∧B3 300 (1,0,4*k-1):=by
 have s:∀z:Int,z.natAbs<8→Bt 300 z:=fun z h=>(show Bt 3 z from h).le (by decide)
 have z0:Bt 3 0:=Bt.aA (by decide)
 have b1:Bt 111 (k+31):=hk.add (show Bt 110 31 from Bt.aA (by decide))
 have b2:Bt 113 (2*k):=((show Bt 2 2 from Bt.aA (by decide)).mul hk).le (by decide)
 have b4:Bt 113 (4*k):=(show Bt 3 4 from Bt.aA (by decide)).mul hk
 have nk:Bt 110 (0-k):=by rw[Int.zero_sub];exact hk.neg
 refine⟨⟨nk.le (by decide),s 1 (by decide),nk.le (by decide)⟩,⟨hk.le (by decide),(hk.add (show Bt 110 1 from Bt.aA (by decide))).le (by decide),s 1 (by decide)⟩,⟨s 1 (by decide),s 0 (by decide),?_⟩,⟨s 1 (by decide),s 1 (by decide),hk.le (by decide)⟩,⟨s 2 (by decide),s 2 (by decide),b2.le (by decide)⟩,⟨s 2 (by decide),s (-2) (by decide),b2.le (by decide)⟩,⟨s 1 (by decide),s 0 (by decide),(b4.sub (show Bt 113 1 from Bt.aA (by decide))).le (by decide)⟩⟩
 exact((show Bt 222 (-1)from Bt.aA (by decide)).sub (b1.mul b1)).le (by decide)
theorem Rm{f h:I3}{o:Out}(bf:B3 300 f)(bh:B3 300 h)(n:¬Nf f h)(x:Hi f h=oD o):RB f h o:=⟨⟨bf.le (by decide),bh.le (by decide),fun z=>absurd z n,fun z=>absurd z n⟩,n,x⟩
theorem Ahf{f h:I3}{o:Out}(bf:B3 300 f)(bh:B3 300 h)(n:¬CK f)(x:Kg f=oD o):RB f h o:=Rm bf bh (fun z=>n z.kf) (by rw[Hi,if_neg n,x])
theorem Acj{f h:I3}{o:Out}(bf:B3 300 f)(bh:B3 300 h)(g:CK f)(n:¬CK h)(x:Kg h=oD o):RB f h o:=Rm bf bh (fun z=>n z.kh) (by rw[Hi,if_pos g,if_neg n,x])
theorem ZQ{f h:I3}(bf:B3 300 f)(bh:B3 300 h)(g:CK f)(g':CK h)(n:meas f≠meas h):RB f h .apart:=Rm bf bh (fun z=>n z.m) (by rw[Hi,if_pos g,if_pos g',if_neg n];rfl)
theorem Z7{f h:I3}(bf:B3 300 f)(bh:B3 300 h)(g:CK f)(g':CK h)(m:meas f=meas h)(n:g3 f≠1):RB f h (.plain f):=Rm bf bh (fun z=>n z.pf) (by rw[Hi,if_pos g,if_pos g',if_pos m,if_neg n];rfl)
theorem Ag9{f h:I3}(bf:B3 300 f)(bh:B3 300 h)(g:CK f)(g':CK h)(m:meas f=meas h)(p:g3 f=1)(n:g3 h≠1):RB f h (.plain h):=Rm bf bh (fun z=>n z.ph) (by rw[Hi,if_pos g,if_pos g',if_pos m,if_pos p];rfl)
abbrev O6:DSp:=spec (fun p:I2=>[.int p.1,.int p.2]) (fun p=>1≤p.2∧Bt 110 p.2) fun _ d=>∃f h o,d=.lst [.lst [t3 f,t3 h],R9 o]∧RB f h o
theorem Vt(T:Txt K mg)
  (kJ:Pm P w K mg base 1 "_law_forms" DQ ["_law_far"] IW)
  (aB:Pm P w K mg base 1 "_law_due" Ea ["_law_at","_law_field_here"] Ew)
  : Pm P w K mg base 2 "_law_two" GR ["_law_kind","_law_far"] O6:=by
 obtain⟨f,fd,F⟩:=T.vd
 refine⟨f,fd,F,F.fn.okD Gf (by walk_at "lE") fun cdv A outer s H E hr=>⟨_,(Ae (Oa (Ah Af kJ (hr.mono (by decide)) rfl (Aa (dv 1) Ac)) (Oe (n:=5) rfl (Ck (Cq 2 Gf.nd) (Ck (Cq 3 Gf.nd) (Ck (Cq 4 Gf.nd) (Ck (Cq 5 Gf.nd) (Ck (Cq 6 Gf.nd) Kp))))))) (Ae (Bw (BZ hr.units (dv 0) Ab) (Ai (Aj (Bg (Aa (Bg (Aa (dv 2) (Aa (dv 3) Ac))) (Aa (Ah Af aB (hr.mono (by decide)) rfl (Aa Ab (Aa (dv 2) Ac))) Ac))))) Bc) (Ae (Bw (BZ hr.units (dv 0) Ab) (Ai (Aj (Bg (Aa (Bg (Aa (dv 5) (Aa (dv 3) Ac))) (Aa (Ah Af aB (hr.mono (by decide)) rfl (Aa Ab (Aa (dv 3) Ac))) Ac))))) Bc) (Ae (Bw (BZ hr.units (dv 0) Ab) (Ai (Aj (Bg (Aa (Bg (Aa (dv 6) (Aa (dv 2) Ac))) (Aa (Ah Af aB (hr.mono (by decide)) rfl (Aa Ab (Aa (dv 2) Ac))) Ac))))) Bc) (Ae (Bw (BZ hr.units (dv 0) Ab) (Ai (Aj (Bg (Aa (Bg (Aa (dv 4) (Aa (dv 3) Ac))) (Aa (Ah Af aB (hr.mono (by decide)) rfl (Aa Ab (Aa (Bf (Aa (Bm Ab (Al (Al Ab (Bm (dv 1) Ab)) (Bm (dv 1) Ab))) (Aa Ab Ac))) Ac))) Ac))))) Bc) (Ae (Bw (BZ hr.units (dv 0) Ab) (Ai (Aj (Bg (Aa (Bg (Aa (dv 5) (Aa (dv 4) Ac))) (Aa (Ah Af aB (hr.mono (by decide)) rfl (Aa Ab (Aa (Bf (Aa (Bm Ab (Al (Al Ab (Bm (dv 1) Ab)) (Bm (dv 1) Ab))) (Aa Ab Ac))) Ac))) Ac))))) Bc) (Ae (Bw (BZ hr.units (dv 0) Ab) (Ai (Aj (Bg (Aa (Bg (Aa (dv 6) (Aa (dv 5) Ac))) (Aa (Ah Af aB (hr.mono (by decide)) rfl (Aa Ab (Aa Oj Ac))) Ac))))) Bc) (Ae (Bw (BZ hr.units (dv 0) Ab) (Ai (Aj (Bg (Aa (Bg (Aa (dv 5) (Aa (Bf (Aa Ab (Aa Ab (Aa (Cg Ab) Ac)))) Ac))) (Aa (Ah Af aB (hr.mono (by decide)) rfl (Aa Ab (Aa Oj Ac))) Ac))))) Bc) (Ae (Bw (BZ hr.units (dv 0) Ab) (Ai (Aj (Bg (Aa (Bg (Aa (dv 6) (Aa (dv 6) Ac))) (Aa (Ah Af aB (hr.mono (by decide)) rfl (Aa Ab (Aa (dv 6) Ac))) Ac))))) Bc) (Ae (Bw (BZ hr.units (dv 0) Ab) (Ai (Aj (Bg (Aa (Bg (Aa (Bf (Aa Ab (Aa Ab (Aa (Cg Ab) Ac)))) (Aa (Bf (Aa Ab (Aa Ab (Aa (Cg Ab) Ac)))) Ac))) (Aa (Ah Af aB (hr.mono (by decide)) rfl (Aa Ab (Aa (Bf (Aa Ab (Aa Ab (Aa (Cg Ab) Ac)))) Ac))) Ac))))) Bc) (Ae (Bw (BZ hr.units (dv 0) Ab) (Ai (Aj (Bg (Aa (Bg (Aa (Bf (Aa Ab (Aa Ab (Aa (Cg Ab) Ac)))) (Aa (Bf (Aa Ab (Aa Ab (Aa (Cg Ab) Ac)))) Ac))) (Aa (Ah Af aB (hr.mono (by decide)) rfl (Aa Ab (Aa (Bf (Aa Ab (Aa Ab (Aa (Cg Ab) Ac)))) Ac))) Ac))))) Bc) (Ae (Bw (BZ hr.units (dv 0) Ab) (Ai (Aj (Bg (Aa (Bg (Aa (Bf (Aa Ab (Aa Ab (Aa (Cg Ab) Ac)))) (Aa (Bf (Aa Ab (Aa Ab (Aa (Cg Ab) Ac)))) Ac))) (Aa (Ah Af aB (hr.mono (by decide)) rfl (Aa Ab (Aa Oj Ac))) Ac))))) Bc) (Ae (Bw (BZ hr.units (dv 0) Ab) (Ai (Aj (Bg (Aa (Bg (Aa (dv 6) (Aa (Bf (Aa Ab (Aa Ab (Aa (BR (Al Ab (dv 1)) Ab) Ac)))) Ac))) (Aa (Ah Af aB (hr.mono (by decide)) rfl (Aa Ab (Aa (dv 6) Ac))) Ac))))) Bc) (Ae (Bw (BZ hr.units (dv 0) Ab) (Ai (Aj (Bg (Aa (Bg (Aa (dv 6) (Aa (Bf (Aa Ab (Aa (Cg Ab) (Aa (Al Ab (dv 1)) Ac)))) Ac))) (Aa (Ah Af aB (hr.mono (by decide)) rfl (Aa Ab (Aa (dv 6) Ac))) Ac))))) Bc) (Ae (Bw (BZ hr.units (dv 0) Ab) (Ai (Aj (Bg (Aa (Bg (Aa (dv 5) (Aa (dv 6) Ac))) (Aa (Ah Af aB (hr.mono (by decide)) rfl (Aa Ab (Aa Oj Ac))) Ac))))) Bc) (Ai (Aj (Bg (Aa (Bg (Aa (Bf (Aa Ab (Aa Ab (Aa (BR (Al Ab (dv 1)) Ab) Ac)))) (Aa (dv 6) Ac))) (Aa (Ah Af aB (hr.mono (by decide)) rfl (Aa Ab (Aa (dv 6) Ac))) Ac)))))))))))))))))))),fun ds Q h=>?_⟩⟩
 obtain⟨⟨kind,k⟩,rfl,⟨k1,bk⟩,q⟩:=h
 have k1:1≤k:=k1
 have bk:Bt 110 k:=bk
 have q:∀d,(∃f h o,d=.lst [.lst [t3 f,t3 h],R9 o]∧RB f h o)→Q d:=q
 have s2:2≤sizeLine:=Ay (by decide)
 have s3:3≤sizeLine:=Ay (by decide)
 obtain⟨b1,b2,b3,b4,b5,b6,b7⟩:=Ahb bk
 have sm:∀a b c:Int,a.natAbs<8→b.natAbs<8→c.natAbs<8→B3 300 (a,b,c):=fun a b c h1 h2 h3=>⟨(show Bt 3 a from h1).le (by decide),(show Bt 3 b from h2).le (by decide),(show Bt 3 c from h3).le (by decide)⟩
 have D:=Acz k1
 have Fl:=AbC k1
 have W:=Abz k1
 have Bo:=Ajt k1
 have Th:=Zf k1
 have Ev:=Ajo k1
 have bb:Bt 111 (k+31):=bk.add (show Bt 110 31 from Bt.aA (by decide))
 have four:Bt 3 4:=Bt.aA (by decide)
 have fin:∀{f h:I3} {o:Out},RB f h o→Q (.lst [.lst [t3 f,t3 h],R9 o]):=fun t=>q _ ⟨_,_,_,rfl,t⟩
 walk_at "go"
 refine Ar k bk ?_
 walk_at "rd"
 refine Er (fun _=>⟨s2,Du (.shape (K8 k)) ⟨s2,fin (Ahf b1 b2 D.1 D.2)⟩⟩) (fun _=>?_)
 refine Er (fun _=>⟨s2,Du (.shape (KR k)) ⟨s2,fin (Acj b4 b2 (.inl Bo.1) Fl.1 Fl.2)⟩⟩) (fun _=>?_)
 refine Er (fun _=>⟨s2,Du (.shape (K8 k)) ⟨s2,fin (Acj b5 b1 (.inl Th.1) D.1 D.2)⟩⟩) (fun _=>?_)
 refine Er (fun _=>⟨s2,four.aJ bb,(four.mul bb).aJ bb,s2,Du (.great (4+4*(k+31)*(k+31)) 4000) ⟨s2,fin (Ahf b3 b2 W.1 W.2)⟩⟩) (fun _=>?_)
 refine Er (fun _=>⟨s2,four.aJ bb,(four.mul bb).aJ bb,s2,Du (.great (4+4*(k+31)*(k+31)) 4000) ⟨s2,fin (Acj b4 b3 (.inl Bo.1) W.1 W.2)⟩⟩) (fun _=>?_)
 refine Er (fun _=>⟨s2,Du .apart ⟨s2,fin (ZQ b5 b4 (.inl Th.1) (.inl Bo.1) (by rw[Th.2.1,Bo.2.1];omega))⟩⟩) (fun _=>?_)
 refine Er (fun _=>⟨s3,s2,Du .apart ⟨s2,fin (ZQ b4 (sm 1 1 (-1) (by decide) (by decide) (by decide)) (.inl Bo.1) (.inr AkZ) (by rw[Bo.2.1];show 1-4*k≠5;omega))⟩⟩) (fun _=>?_)
 refine Er (fun _=>⟨s2,Du (.plain (Fz k)) ⟨s2,fin (Z7 b5 b5 (.inl Th.1) (.inl Th.1) rfl Th.2.2)⟩⟩) (fun _=>?_)
 refine Er (fun _=>⟨s3,s3,s2,s3,Du (.plain (2,2,-2)) ⟨s2,fin (Z7 (sm 2 2 (-2) (by decide) (by decide) (by decide)) (sm 2 2 (-2) (by decide) (by decide) (by decide)) (.inr T8) (.inr T8) rfl (by decide))⟩⟩) (fun _=>?_)
 refine Er (fun _=>⟨s3,s3,s2,s3,Du (.plain (2,2,-2)) ⟨s2,fin (Ag9 (sm 1 0 (-5) (by decide) (by decide) (by decide)) (sm 2 2 (-2) (by decide) (by decide) (by decide)) (.inr Aj9) (.inr T8) rfl (by decide) (by decide))⟩⟩) (fun _=>?_)
 refine Er (fun _=>⟨s3,s3,s2,Du .apart ⟨s2,fin (ZQ (sm 1 1 (-1) (by decide) (by decide) (by decide)) (sm 1 0 (-2) (by decide) (by decide) (by decide)) (.inr AkZ) (.inr Aoi) (by decide))⟩⟩) (fun _=>?_)
 refine Er (fun _=>⟨four.aJ bk,s3,s2,Du (.plain (Fz k)) ⟨s2,fin (Z7 b5 b7 (.inl Th.1) (.inl Ev.1) (by rw[Th.2.1,Ev.2.1]) Th.2.2)⟩⟩) (fun _=>?_)
 refine Er (fun _=>⟨(show Bt 2 2 from Bt.aA (by decide)).aJ bk,s3,s2,Du (.plain (Fz k)) ⟨s2,fin (Z7 b5 b6 (.inl Th.1) (.inl (Wb k1).1) (by rw[Th.2.1,(Wb k1).2]) Th.2.2)⟩⟩) (fun _=>?_)
 refine Er (fun _=>⟨s2,Du .apart ⟨s2,fin (ZQ b4 b5 (.inl Bo.1) (.inl Th.1) (by rw[Th.2.1,Bo.2.1];omega))⟩⟩) (fun _=>?_)
 exact⟨four.aJ bk,s3,s2,Du (.plain (Fz k)) ⟨s2,fin (Ag9 b7 b5 (.inl Ev.1) (.inl Th.1) (by rw[Th.2.1,Ev.2.1]) Ev.2.2 Th.2.2)⟩⟩
theorem AcX{c:Int}(h:1≤c)(e:c % 2=0):BJ (2,2,c)∧meas (2,2,c)=4-8*c∧g3 (2,2,c)≠1:=by
 have m:meas (2,2,c)=4-8*c:=by simp only[meas];omega
 refine⟨⟨by show(0:Int)<2;decide,by omega⟩,m,?_⟩
 have d:(2:Nat)∣g3 (2,2,c):=by
  unfold g3
  exact Nat.dvd_gcd (show 2∣((Int.gcd 2 2:Nat):Int).natAbs by decide) (by show 2∣c.natAbs;omega)
 intro z
 rw[z]at d
 revert d
 decide
structure Yw(way:Int)(f:I3)(o:Out):Prop where
 b:B3 800 f
 p:way=1→¬(CK f∧g3 f=1)∧Wk f=oD o
 r:way=2→¬(CK f∧(meas f).natAbs≤4000∧g3 f=1)∧UW f=oD o
theorem Acl{way:Int}{f:I3}{o:Out}(b:B3 300 f)(n:¬CK f)(x:Kg f=oD o):Yw way f o :=
 ⟨b.le (by decide),fun _=>⟨fun z=>n z.1,by rw[Wk,if_neg n,x]⟩,fun _=>⟨fun z=>n z.1,by rw[UW,if_neg n,x]⟩⟩
theorem AbF{way:Int}{f:I3}(b:B3 300 f)(g:CK f)(n:g3 f≠1)(m:way=2→(meas f).natAbs≤4000):Yw way f (.plain f) :=
 ⟨b.le (by decide),fun _=>⟨fun z=>n z.2,by rw[Wk,if_pos g];rfl⟩,fun w=>⟨fun z=>n z.2.2,by rw[UW,if_pos g,if_pos (m w)];rfl⟩⟩
theorem Ahe{f:I3}(b:B3 300 f)(g:CK f)(m:4000<(meas f).natAbs):Yw 2 f (.great (meas f) 4000) :=
 ⟨b.le (by decide),fun w=>absurd w (by decide),fun _=>⟨fun z=>by have:=z.2.1;omega,by rw[UW,if_pos g,if_neg (by omega)];rfl⟩⟩
abbrev Ox:DSp:=spec (fun p:Int×Int×Int=>[.int p.1,.int p.2.1,.int p.2.2]) (fun p=>1≤p.2.1∧Bt 110 p.2.1∧(p.2.2=1∨p.2.2=2)) fun p d=>∃f o,d=.lst [.lst [t3 f],R9 o]∧Yw p.2.2 f o
theorem Vf(T:Txt K mg)
  (kJ:Pm P w K mg base 1 "_law_forms" DQ ["_law_far"] IW)
  (aB:Pm P w K mg base 1 "_law_due" Ea ["_law_at","_law_field_here"] Ew)
  : Pm P w K mg base 2 "_law_one" Gw ["_law_kind","_law_far","_law_way"] Ox:=by
 obtain⟨f,fd,F⟩:=T.vf
 refine⟨f,fd,F,F.fn.okD Dz (by walk_at "lE") fun cdv A outer s H E hr=>⟨_,(Ae (Oa (Ah Af kJ (hr.mono (by decide)) rfl (Aa (dv 1) Ac)) (Oe (n:=5) rfl (Ck (Cq 3 Dz.nd) (Ck (Cq 4 Dz.nd) (Ck (Cq 5 Dz.nd) (Ck (Cq 6 Dz.nd) (Ck (Cq 7 Dz.nd) Kp))))))) (Ae (Bw (BZ hr.units (dv 0) Ab) (Ai (Aj (Bg (Aa (Bg (Aa (dv 3) Ac)) (Aa (Ah Af aB (hr.mono (by decide)) rfl (Aa Ab (Aa (dv 3) Ac))) Ac))))) Bc) (Ae (Bw (BZ hr.units (dv 0) Ab) (Ai (Aj (Bg (Aa (Bg (Aa (dv 4) Ac)) (Aa (Ah Af aB (hr.mono (by decide)) rfl (Aa Ab (Aa (dv 4) Ac))) Ac))))) Bc) (Ae (Bw (BZ hr.units (dv 0) Ab) (Ai (Aj (Bg (Aa (Bg (Aa (dv 5) Ac)) (Aa (Ah Af aB (hr.mono (by decide)) rfl (Aa Ab (Aa (Bf (Aa (Bm Ab (Al (Al Ab (Bm (dv 1) Ab)) (Bm (dv 1) Ab))) (Aa Ab Ac))) Ac))) Ac))))) Bc) (Ae (Bw (BZ hr.units (dv 0) Ab) (Ai (Aj (Bg (Aa (Bg (Aa (Bf (Aa Ab (Aa Ab (Aa (Cg Ab) Ac)))) Ac)) (Aa (Ah Af aB (hr.mono (by decide)) rfl (Aa Ab (Aa (Bf (Aa Ab (Aa Ab (Aa (Cg Ab) Ac)))) Ac))) Ac))))) Bc) (Ae (Bw (DW.dt (Qn (BZ hr.units (dv 0) Ab) (Qn (BZ hr.units (dv 2) Ab) (PB (BZ hr.units (FJ (dv 1) Ab) Ab))))) (Ai (Aj (Bg (Aa (Bg (Aa (Bf (Aa Ab (Aa Ab (Aa Ab Ac)))) Ac)) (Aa (Ah Af aB (hr.mono (by decide)) rfl (Aa Ab (Aa (Bf (Aa (Cg Ab) (Aa Ab Ac))) Ac))) Ac))))) Bc) (Ae (Bw (DW.dt (Qn (BZ hr.units (dv 0) Ab) (PB (BZ hr.units (dv 2) Ab)))) (Ae (Ao 8 Dz.nd (Bf (Aa Ab (Aa Ab (Aa (Al Ab (Bm (dv 1) Ab)) Ac))))) (Ai (Aj (Bg (Aa (Bg (Aa (dv 8) Ac)) (Aa (Ah Af aB (hr.mono (by decide)) rfl (Aa Ab (Aa (Bf (Aa (BR Ab (Al Ab (Bm (dv 1) Ab))) (Aa Ab Ac))) Ac))) Ac)))))) Bc) (Ae (Bw (BZ hr.units (dv 2) Ab) (Ai (Ao 7 Dz.nd (Bf (Aa Ab (Aa Ab (Aa (Bm Ab (Al Ab (FJ (dv 1) Ab))) Ac)))))) Bc) (Ai (Aj (Bg (Aa (Bg (Aa (dv 7) Ac)) (Aa (Ah Af aB (hr.mono (by decide)) rfl (Aa Ab (Aa (dv 7) Ac))) Ac))))))))))))),fun ds Q h=>?_⟩⟩
 obtain⟨⟨kind,k,way⟩,rfl,⟨k1,bk,hw⟩,q⟩:=h
 have k1:1≤k:=k1
 have bk:Bt 110 k:=bk
 have hw:way=1∨way=2:=hw
 have q:∀d,(∃f o,d=.lst [.lst [t3 f],R9 o]∧Yw way f o)→Q d:=q
 have s1:1≤sizeLine:=Ay (by decide)
 have s2:2≤sizeLine:=Ay (by decide)
 have s3:3≤sizeLine:=Ay (by decide)
 obtain⟨b1,b2,b3,b4,b5,b6,b7⟩:=Ahb bk
 have sm:∀a b c:Int,a.natAbs<8→b.natAbs<8→c.natAbs<8→B3 300 (a,b,c):=fun a b c h1 h2 h3=>⟨(show Bt 3 a from h1).le (by decide),(show Bt 3 b from h2).le (by decide),(show Bt 3 c from h3).le (by decide)⟩
 have D:=Acz k1
 have Fl:=AbC k1
 have W:=Abz k1
 have Th:=Zf k1
 have bb:Bt 111 (k+31):=bk.add (show Bt 110 31 from Bt.aA (by decide))
 have four:Bt 3 4:=Bt.aA (by decide)
 have two:Bt 2 2:=Bt.aA (by decide)
 have fin:∀{f:I3} {o:Out},Yw way f o→Q (.lst [.lst [t3 f],R9 o]):=fun t=>q _ ⟨_,_,rfl,t⟩
 walk_at "go"
 refine Ar k bk ?_
 walk_at "rd"
 refine Er (fun _=>⟨s1,Du (.shape (K8 k)) ⟨s2,fin (Acl b1 D.1 D.2)⟩⟩) (fun _=>?_)
 refine Er (fun _=>⟨s1,Du (.shape (KR k)) ⟨s2,fin (Acl b2 Fl.1 Fl.2)⟩⟩) (fun _=>?_)
 refine Er (fun _=>⟨s1,four.aJ bb,(four.mul bb).aJ bb,s2,Du (.great (4+4*(k+31)*(k+31)) 4000) ⟨s2,fin (Acl b3 W.1 W.2)⟩⟩) (fun _=>?_)
 refine Er (fun _=>⟨s3,s1,s3,Du (.plain (2,2,-2)) ⟨s2,fin (AbF (sm 2 2 (-2) (by decide) (by decide) (by decide)) (.inr T8) (by decide) fun _=>by decide)⟩⟩) (fun _=>?_)
 have r:=J7 k (m:=250) (by decide)
 obtain⟨j,ej⟩:∃j,k.fmod 250=j:=⟨_,rfl⟩
 rw[ej]at r ⊢
 have bj:Bt 8 j:=Bt.of (by omega) (by omega)
 have b25:Bt 111 (k+250):=bk.add (show Bt 110 250 from Bt.aA (by decide))
 have C1:=AcX (c:=2+2*j) (by omega) (by omega)
 have C2:=AcX (c:=2*(k+250)) (by omega) (by omega)
 have hA:way=2→(250:Int)≠0∧IntMulOk 2 j∧3≤sizeLine∧1≤sizeLine∧Ew [.int 3,.tup [.int 2,.int 2,.int (2+2*j)]] fun d=>2≤sizeLine∧Q (.lst [.lst [.tup [.int 2,.int 2,.int (2+2*j)]],d]):=fun w =>
  ⟨by decide,two.aJ bj,s3,s1,Du (.plain (2,2,2+2*j)) ⟨s2,fin (AbF ⟨(show Bt 2 2 from Bt.aA (by decide)).le (by decide),(show Bt 2 2 from Bt.aA (by decide)).le (by decide),(show Bt 10 (2+2*j)from Bt.of (by omega) (by omega)).le (by decide)⟩ (.inl C1.1) C1.2.2 fun _=>by rw[C1.2.1];omega)⟩⟩
 have hB:¬way=2→1≤sizeLine∧Ew [.int 3,t3 (Fz k)] fun d=>2≤sizeLine∧Q (.lst [.lst [t3 (Fz k)],d]):=fun w=>⟨s1,Du (.plain (Fz k)) ⟨s2,fin (AbF b5 (.inl Th.1) Th.2.2 fun z=>absurd z w)⟩⟩
 by_cases w:way=2
 ·have hA:=hA w
  by_cases h4:kind=4
  ·refine ift (decide_eq_true h4) (ift (decide_eq_true w) ⟨by decide,Er (fun _=>?_) (fun _=>ift (decide_eq_true h4) (ift (decide_eq_true w) ?_))⟩)
   ·refine⟨s3,s1,s2,Du (.great (-4003) 4000) ⟨s2,fin (f:=(1,1,1001)) (o:=.great (-4003) 4000) ?_⟩⟩
    have:=Ahe (f:=(1,1,1001)) ⟨(show Bt 2 1 from Bt.aA (by decide)).le (by decide),(show Bt 2 1 from Bt.aA (by decide)).le (by decide),(show Bt 10 1001 from Bt.aA (by decide)).le (by decide)⟩ (.inl ⟨by decide,by decide⟩) (by decide)
    rw[w]
    exact this
   ·refine⟨two.aJ b25,s3,s1,(show Bt 5 16 from Bt.aA (by decide)).aJ b25,s2,Du (.great (4-16*(k+250)) 4000) ⟨s2,fin (f:=(2,2,2*(k+250))) (o:=.great (4-16*(k+250)) 4000) ?_⟩⟩
    have m:meas (2,2,2*(k+250))=4-16*(k+250):=by rw[C2.2.1];omega
    have:=Ahe (f:=(2,2,2*(k+250))) ⟨(show Bt 2 2 from Bt.aA (by decide)).le (by decide),(show Bt 2 2 from Bt.aA (by decide)).le (by decide),(two.mul b25).le (by decide)⟩ (.inl C2.1) (by rw[m];omega)
    rw[m]at this
    rw[w]
    exact this
  ·exact CP (decide_eq_false h4) (CP (decide_eq_false h4) (ift (decide_eq_true w) hA))
 ·have hB:=hB w
  by_cases h4:kind=4
  ·exact ift (decide_eq_true h4) (CP (decide_eq_false w) (ift (decide_eq_true h4) (CP (decide_eq_false w) (CP (decide_eq_false w) hB))))
  ·exact CP (decide_eq_false h4) (CP (decide_eq_false h4) (CP (decide_eq_false w) hB))
abbrev Kc:DSp:=spec (fun p:Int×Int×Int=>[.int p.1,.int p.2.1,.int p.2.2]) (fun p=>1≤p.2.1∧Bt 110 p.2.1∧(p.2.2=400∨p.2.2=4000)) fun p d=>∃n a:Int,d=.lst [.int n,.int a]∧Bt 300 n∧((a=4∧¬Fx n)∨(a=1∧Fx n∧(p.2.2<n∨n < -p.2.2)))
theorem Ut{m r:Int}(h0:0≤r)(h1:r*r<m)(h2:m<(r+1)*(r+1)):¬Gv m:=by
 rw[Mj (r:=r) ⟨h0,by omega,h2⟩]
 omega
theorem Qt(T:Txt K mg)
  : Pm P w K mg base 1 "_law_number" Ed ["_law_kind","_law_far","_law_most"] Kc:=by
 obtain⟨f,fd,F⟩:=T.pH
 refine⟨f,fd,F,F.fn.okD Qa (by walk_at "lE") fun cdv A outer s H E hr=>⟨_,(Ae (Bw (BZ hr.units (dv 0) Ab) (Ai (Aj (Bg (Aa (Bm (Al Ab (dv 1)) Ab) (Aa Ab Ac))))) Bc) (Ae (Bw (BZ hr.units (dv 0) Ab) (Ai (Aj (Bg (Aa (BR (BR Ab (Al Ab (dv 1))) Ab) (Aa Ab Ac))))) Bc) (Ae (Bw (BZ hr.units (dv 0) Ab) (Ai (Aj (Bg (Aa (Al (dv 1) (dv 1)) (Aa Ab Ac))))) Bc) (Ae (Bw (BZ hr.units (dv 0) Ab) (Ae (Bw (BZ hr.units (FJ (dv 1) Ab) Ab) (Ai (Aj (Bg (Aa (Bm (dv 2) Ab) (Aa Ab Ac))))) Bc) (Ai (Aj (Bg (Aa (Al (Bm (dv 2) (Al Ab (dv 1))) (Bm (Bm (dv 2) (Al Ab (dv 1))) Ab)) (Aa Ab Ac)))))) Bc) (Ae (Bw (BZ hr.units (FJ (dv 1) Ab) Ab) (Ai (Aj (Bg (Aa (BR (BR Ab (dv 2)) Ab) (Aa Ab Ac))))) Bc) (Ai (Aj (Bg (Aa (BR (BR Ab (dv 2)) (Al Ab (dv 1))) (Aa Ab Ac)))))))))),fun ds Q h=>?_⟩⟩
 obtain⟨⟨kind,k,most⟩,rfl,⟨k1,bk,hm⟩,q⟩:=h
 have k1:1≤k:=k1
 have bk:Bt 110 k:=bk
 have hm:most=400∨most=4000:=hm
 have q:∀d,(∃n a:Int,d=.lst [.int n,.int a]∧Bt 300 n∧((a=4∧¬Fx n)∨(a=1∧Fx n∧(most<n∨n < -most))))→Q d:=q
 have s2:2≤sizeLine:=Ay (by decide)
 have four:Bt 3 4:=Bt.aA (by decide)
 have two:Bt 2 2:=Bt.aA (by decide)
 have bm:Bt 12 most:=Bt.of (by omega) (by omega)
 have b4:=four.mul bk
 have b2:=two.mul bk
 have bs:Bt 113 (most+2*k):=((bm.le (m:=112) (by decide)).add b2).le (by decide)
 have bs4:Bt 114 (most+2*k+4):=bs.add (show Bt 113 4 from Bt.aA (by decide))
 have fin:∀{n:Int} (a:Int),Bt 300 n→((a=4∧¬Fx n)∨(a=1∧Fx n∧(most<n∨n < -most)))→Q (.lst [.int n,.int a]):=fun a b h=>q _ ⟨_,a,rfl,b,h⟩
 walk_at "go"
 refine Er (fun _=>⟨four.aJ bk,s2,fin 4 ((b4.add (show Bt 113 2 from Bt.aA (by decide))).le (by decide)) (.inl ⟨rfl,fun z=>by have:=z.1;omega⟩)⟩) (fun _=>?_)
 refine Er (fun _=>⟨four.aJ bk,s2,fin 4 ?_ (.inl ⟨rfl,fun z=>by have:=z.1;omega⟩)⟩) (fun _=>?_)
 ·have b4:Bt 113 (4*k):=b4
  unfold Bt at *
  have:(2:Nat) ^ 300=2 ^ 187*2 ^ 113:=by decide
  omega
 refine Er (fun _=>⟨bk.aJ bk,s2,fin 4 ((bk.mul bk).le (by decide)) (.inl ⟨rfl,fun z=>z.2 ⟨k,rfl⟩⟩)⟩) (fun _=>?_)
 refine Er (fun _=>⟨by decide,Er (fun _=>⟨s2,fin 1 ((show Bt 13 (most+1)from Bt.of (by omega) (by omega)).le (by decide)) (.inr ⟨rfl,⟨by omega,?_⟩,by omega⟩)⟩) (fun _=>⟨two.aJ bk,two.aJ bk,bs.aJ bs4,s2,fin 1 ((bs.mul bs4).le (by decide)) (.inr ⟨rfl,?_⟩)⟩)⟩) (fun _=>⟨by decide,Er (fun _=>⟨s2,fin 1 ((show Bt 13 (0-most-3)from Bt.of (by omega) (by omega)).le (by decide)) (.inr ⟨rfl,⟨by omega,G5 (by omega)⟩,by omega⟩)⟩) (fun _=>⟨four.aJ bk,s2,fin 1 ?_ (.inr ⟨rfl,⟨by omega,G5 (by omega)⟩,by omega⟩)⟩)⟩)
 ·rcases hm with rfl|rfl
  ·exact Ut (r:=20) (by decide) (by decide) (by decide)
  ·exact Ut (r:=63) (by decide) (by decide) (by decide)
 ·obtain⟨x,ex⟩:∃x,most+2*k=x:=⟨_,rfl⟩
  rw[ex]
  have e1:x*(x+4)=x*x+4*x:=by grind
  have e2:(x+1)*(x+1)=x*x+2*x+1:=by grind
  have e3:(x+1+1)*(x+1+1)=x*x+4*x+4:=by grind
  obtain⟨y,ey⟩:∃y,x=2*y:=⟨x / 2,by omega⟩
  have e4:x*x=4*(y*y):=by rw[ey];grind
  have:=Int.mul_le_mul (show 400≤x by omega) (show 400≤x by omega) (by decide) (by omega)
  refine⟨⟨by omega,Ut (r:=x+1) (by omega) (by omega) (by omega)⟩,.inl ?_⟩
  have:=Int.mul_le_mul (show 402≤x by omega) (show 402≤x by omega) (by decide) (by omega)
  omega
 ·have b4:Bt 113 (4*k):=b4
  unfold Bt at *
  have:(2:Nat) ^ 300=2 ^ 187*2 ^ 113:=by decide
  omega
structure Aeo(way n:Int)(o:Out):Prop where
 b:Bt 600 n
 u:way=3→¬(Fx n∧n≤4000)∧FP n 4000=oD o
 c:way=4→¬(Fx n∧(n.natAbs:Int)≤4000)∧FP n 4000=oD o
 t:way=5→¬Aa9 n∧FP n 400=oD o
theorem Ahq{way n:Int}(b:Bt 600 n)(h:¬Fx n):Aeo way n (.noM n) :=
 ⟨b,fun _=>⟨fun z=>h z.1,by rw[FP,if_neg h];rfl⟩,fun _=>⟨fun z=>h z.1,by rw[FP,if_neg h];rfl⟩,fun _=>⟨fun z=>h z.1,by rw[FP,if_neg h];rfl⟩⟩
theorem AgS{way n most:Int}(b:Bt 600 n)(h:Fx n)(hm:(way=5∧most=400)∨((way=3∨way=4)∧most=4000))(g:most<n∨n < -most)(h3:way=3→¬n<0):Aeo way n (.great n most):=by
 refine⟨b,fun w=>?_,fun w=>?_,fun w=>?_⟩
 ·have:=h3 w
  have e:most=4000:=by omega
  subst e
  exact⟨fun z=>by have:=z.2;omega,by rw[FP,if_pos h];rfl⟩
 ·have e:most=4000:=by omega
  subst e
  exact⟨fun z=>by have:=z.2;omega,by rw[FP,if_pos h];rfl⟩
 ·have e:most=400:=by omega
  subst e
  exact⟨fun z=>by have:=z.2;omega,by rw[FP,if_pos h];rfl⟩
abbrev Js:DSp:=spec (fun p:Int×Int×Int=>[.int p.1,.int p.2.1,.int p.2.2]) (fun p=>1≤p.2.2∧Bt 110 p.2.2∧3≤p.1∧p.1<6) fun p d=>∃n o,d=.lst [.int n,R9 o]∧Aeo p.1 n o
theorem Nj(T:Txt K mg)
  (wY:Pm P w K mg base 1 "_law_number" Ed ["_law_kind","_law_far","_law_most"] Kc)
  (aB:Pm P w K mg base 1 "_law_due" Ea ["_law_at","_law_field_here"] Ew)
  : Pm P w K mg base 2 "_law_numbered" Df ["_law_way","_law_kind","_law_far"] Js:=by
 obtain⟨f,fd,F⟩:=T.mj
 refine⟨f,fd,F,F.fn.okD Fp (by walk_at "lE") fun cdv A outer s H E hr=>⟨_,(Ae (Ao 3 Fp.nd (Ad (Bg (Aa Ab (Aa Ab (Aa Ab Ac)))) (BR (dv 0) Ab))) (Ae (Oa (Ah Af wY (hr.mono (by decide)) rfl (Aa (dv 1) (Aa (dv 2) (Aa (dv 3) Ac)))) (Oe (n:=2) rfl (Ck (Cq 4 Fp.nd) (Ck (Cq 5 Fp.nd) Kp)))) (Ae (Bw (BZ hr.units (dv 5) Ab) (Ai (Aj (Bg (Aa (dv 4) (Aa (Ah Af aB (hr.mono (by decide)) rfl (Aa Ab (Aa (dv 4) Ac))) Ac))))) Bc) (Ae (Bw (DW.dt (Qn (BZ hr.units (dv 0) Ab) (PB (Q8 (dv 4) Ab)))) (Ai (Aj (Bg (Aa Ab (Aa (Ah Af aB (hr.mono (by decide)) rfl (Aa Ab (Aa Ab Ac))) Ac))))) Bc) (Ai (Aj (Bg (Aa (dv 4) (Aa (Ah Af aB (hr.mono (by decide)) rfl (Aa Ab (Aa (Bf (Aa (dv 4) (Aa (dv 3) Ac))) Ac))) Ac))))))))),fun ds Q h=>?_⟩⟩
 obtain⟨⟨way,kind,k⟩,rfl,⟨k1,bk,w3,w6⟩,q⟩:=h
 have k1:1≤k:=k1
 have bk:Bt 110 k:=bk
 have w3:3≤way:=w3
 have w6:way<6:=w6
 have q:∀d,(∃n o,d=.lst [.int n,R9 o]∧Aeo way n o)→Q d:=q
 have s2:2≤sizeLine:=Ay (by decide)
 have s3:3≤sizeLine:=Ay (by decide)
 obtain⟨most,em,hm⟩:∃most:Int,ixD (way-3) (.lst [.int 4000,.int 4000,.int 400])=some (.int most)∧((way=5∧most=400)∨((way=3∨way=4)∧most=4000)):=by
  rcases(by omega:way=3∨way=4∨way=5)with rfl|rfl|rfl
  ·exact⟨4000,rfl,.inr ⟨.inl rfl,rfl⟩⟩
  ·exact⟨4000,rfl,.inr ⟨.inr rfl,rfl⟩⟩
  ·exact⟨400,rfl,.inl ⟨rfl,rfl⟩⟩
 walk_at "go"
 rw[em]
 refine⟨s3,Bs (kind,k,most) ⟨k1,bk,by show most=400∨most=4000;omega⟩ ?_⟩
 rintro _ ⟨n,a,rfl,bn,h⟩
 have h:(a=4∧¬Fx n)∨(a=1∧Fx n∧(most<n∨n < -most)):=h
 have bn:Bt 600 n:=bn.le (by decide)
 walk_at "rd"
 rcases h with⟨rfl,hx⟩|⟨rfl,hx,g⟩
 ·exact ift rfl (Du (.noM n) ⟨s2,q _ ⟨n,_,rfl,Ahq bn hx⟩⟩)
 ·refine CP rfl ?_
  by_cases w:way=3
  ·refine ift (decide_eq_true w) ?_
   by_cases n0:n<0
   ·exact ift (decide_eq_true n0) (Du (.noM 2) ⟨s2,q _ ⟨2,_,rfl,Ahq ((show Bt 2 2 from Bt.aA (by decide)).le (by decide)) fun z=>by have:=z.1;omega⟩⟩)
   ·exact CP (decide_eq_false n0) ⟨s2,Du (.great n most) ⟨s2,q _ ⟨n,_,rfl,AgS bn hx hm g fun _=>n0⟩⟩⟩
  ·exact CP (decide_eq_false w) ⟨s2,Du (.great n most) ⟨s2,q _ ⟨n,_,rfl,AgS bn hx hm g fun z=>absurd z w⟩⟩⟩
def Adf(way:Int)(fs:List Dt)(n:Int)(o:Out):Prop:=(way=0∧∃f h,fs=[t3 f,t3 h]∧RB f h o)∨((way=1∨way=2)∧∃f,fs=[t3 f]∧Yw way f o)∨((3≤way∧way<6)∧Aeo way n o)
abbrev Mw:HS:=G6 (fun p:Int×List Dt×Int×Out=>[.int p.1,.lst p.2.1,.int p.2.2.1]) (fun p=>Adf p.1 p.2.1 p.2.2.1 p.2.2.2) (fun _=>False) (fun _ _=>False) fun p=>oD p.2.2.2
theorem UL(T:Txt K mg)
  (adV:PmX P w K mg base 15 "table" GZ ["number"] NT)
  (ab1:PmX P w K mg base 12 "product" Dv ["one","other"] Kd)
  (adW:PmX P w K mg base 14 "power" Ko ["form","count"] Tp)
  (aaW:PmX P w K mg base 14 "order_of" DX ["form"] JL)
  (zc:PmX P w K mg base 12 "unit" Jb ["number"] MN)
  (pX:PmX P w K mg base 9 "classes" Ef ["number"] Ir)
  : PmX P w K mg base 16 "_law_ask" GX ["_law_way","_law_forms_here","_law_number_here"] Mw:=by
 obtain⟨f,fd,F⟩:=T.u6
 refine⟨f,fd,F,F.fn.okX Wl (fun ds Q E ⟨p,e,_⟩=>by rw[e];rfl) fun cdv A outer s H E hr=>⟨_,(Az (Il (BZ hr.units (dv 0) Ab) (Bu (JG (Bp Av ab1 (hr.mono (by decide)) rfl (Aa (Ad (dv 1) Ab) (Aa (Ad (dv 1) Ab) Ac))))) Eu) (Az (Il (BZ hr.units (dv 0) Ab) (Bu (JG (Bp Av adW (hr.mono (by decide)) rfl (Aa (Ad (dv 1) Ab) (Aa (dv 2) Ac))))) Eu) (Az (Il (BZ hr.units (dv 0) Ab) (Bu (JG (Bp Av aaW (hr.mono (by decide)) rfl (Aa (Ad (dv 1) Ab) Ac)))) Eu) (Az (Il (BZ hr.units (dv 0) Ab) (Bu (JG (Bp Av zc (hr.mono (by decide)) rfl (Aa (dv 2) Ac)))) Eu) (Az (Il (BZ hr.units (dv 0) Ab) (Bu (JG (Bp Av pX (hr.mono (by decide)) rfl (Aa (dv 2) Ac)))) Eu) (Bu (JG (Bp Av adV (hr.mono (by decide)) rfl (Aa (dv 2) Ac))))))))),fun ds Q Ex h=>?_⟩⟩
 obtain⟨⟨way,fs,n,o⟩,rfl,hA,_,x⟩:=h
 have hA:Adf way fs n o:=hA
 have xx:Ex (oD o):=x id
 rcases hA with⟨rfl,f,h,rfl,X⟩|⟨hw,f,rfl,X⟩|⟨⟨w3,w6⟩,X⟩
 ·walk_at "go"
  refine ift rfl (Bq (f,h) X.b (fun g _ _=>absurd g X.n) fun _=>?_)
  show Ex (Hi f h)
  rw[X.x]
  exact xx
 ·walk_at "go"
  refine CP (decide_eq_false (by omega)) ?_
  rcases hw with w|w
  ·refine ift (decide_eq_true w) (Bq (f,n) ⟨X.b,(X.p w).1⟩ (fun z=>z.elim) fun _=>?_)
   show Ex (Wk f)
   rw[(X.p w).2]
   exact xx
  ·refine CP (decide_eq_false (by omega)) (ift (decide_eq_true w) (Bq f ⟨X.b,fun g=>absurd g (X.r w).1⟩ (fun g=>absurd g (X.r w).1) fun _=>?_))
   rw[(X.r w).2]
   exact xx
 ·walk_at "go"
  refine CP (decide_eq_false (by omega)) (CP (decide_eq_false (by omega)) (CP (decide_eq_false (by omega)) ?_))
  rcases(by omega:way=3∨way=4∨way=5)with w|w|w
  ·refine ift (decide_eq_true w) (Bq n X.b (fun g=>absurd g (X.u w).1) fun _=>?_)
   show Ex (FP n 4000)
   rw[(X.u w).2]
   exact xx
  ·refine CP (decide_eq_false (by omega)) (ift (decide_eq_true w) (Bq n ⟨X.b,fun g=>absurd g (X.c w).1⟩ (fun g=>absurd g (X.c w).1) fun _=>?_))
   show Ex (FP n 4000)
   rw[(X.c w).2]
   exact xx
  ·refine CP (decide_eq_false (by omega)) (CP (decide_eq_false (by omega)) (Bq n ⟨X.b,fun g=>absurd g (X.t w).1⟩ (fun g=>absurd g (X.t w).1) fun _=>?_))
   show Ex (FP n 400)
   rw[(X.t w).2]
   exact xx
abbrev Nb:DSp:=spec (fun p:Int×List Dt×Int×Out=>[.int p.1,.lst p.2.1,.int p.2.2.1]) (fun p=>Adf p.1 p.2.1 p.2.2.1 p.2.2.2) fun p d=>d=oD p.2.2.2
theorem U7(T:Txt K mg)
  (aaX:PmX P w K mg base 16 "_law_ask" GX ["_law_way","_law_forms_here","_law_number_here"] Mw)
  : Pm P w K mg base 17 "_law_told" Gb ["_law_way","_law_forms_here","_law_number_here"] Nb:=by
 obtain⟨f,fd,F⟩:=T.uy
 obtain⟨aN,jU⟩:=T.jU
 refine⟨f,fd,F,F.fn.okD Ht (by walk_at "lE") fun cdv A outer s H E hr=>⟨_,(Ae (Ao 3 Ht.nd Oj) (Ae (AfI (Agx 4 jU Ht.nd (fun W pn=>(Bu (CZ (Bp Av aaX (hr.mono (by decide)) rfl (Aa (dv 0) (Aa (dv 1) (Aa (dv 2) Ac))))))) (fun a=>(Ai (Ao 3 Ht.nd (dv 4)))))) (Ai (Aj (dv 3))))),fun ds Q h=>?_⟩⟩
 obtain⟨⟨way,fs,n,o⟩,rfl,hA,q⟩:=h
 have hA:Adf way fs n o:=hA
 have q':Q (oD o):=q _ rfl
 walk_at "go"
 refine Bq (way,fs,n,o) hA (fun z=>z.elim) fun _=>?_
 cases o with
 |shape f=>exact⟨T.iV,q'⟩
 |great n m=>exact⟨T.gq,q'⟩
 |apart=>exact⟨T.jx,q'⟩
 |plain f=>exact⟨T.gw,q'⟩
 |noM n=>exact⟨T.fJ,q'⟩
theorem Ye{f h F F' G G':I3}(A:Comp f h F)(B:Comp f h F')(pf:g3 f=1)(L:LF F G)(L':LF F' G'):G=G':=by
 obtain⟨t,dt,et⟩:=A.same B pf
 exact L.same L' dt et
theorem Agn{n:Int}{ls ms:List I3}(A:Iz n ls)(B:Iz n ms):ls.length=ms.length:=by
 have nd:∀{l:List I3},Srt l→l.Nodup:=fun s=>s.imp fun{a b} h e=>by rw[e]at h;exact AhH h
 exact(List.Perm.length_eq (Aez (nd A.srt) (nd B.srt) fun x=>by rw[A.mem,B.mem]))
abbrev KQ:DSp:=CV (fun _:Unit=>[]) (fun _=>True) fun _=>.bl true
theorem R7(T:Txt K mg)
  (aeZ:Pm P w K mg base 12 "unit" Jb ["number"] YQ)
  (ab2:Pm P w K mg base 14 "order_of" DX ["form"] O3)
  (jZ:Pm P w K mg base 12 "product" Dv ["one","other"] JH)
  (aeA:Pm P w K mg base 15 "table" GZ ["number"] Vh)
  (ac2:Pm P w K mg base 9 "classes" Ef ["number"] Rg)
  : Pm P w K mg base 16 "_law_edges" Fg [] KQ:=by
 obtain⟨f,fd,F⟩:=T.rE
 refine⟨f,fd,F,F.fn.okD KY (by walk_at "lE") fun cdv A outer s H E hr=>⟨_,(Ae (Ao 0 KY.nd (Ah Af aeZ (hr.mono (by decide)) rfl (Aa Ab Ac))) (Ae (Bw (DW.dt (Ac2 (Ih hr.units (BR (Al (Ad (dv 0) Ab) (Ad (dv 0) Ab)) (Al (Al Ab (Ad (dv 0) Ab)) (Ad (dv 0) Ab))) Ab) (Xv (Ih hr.units (Ad (Ah Af jZ (hr.mono (by decide)) rfl (Aa (dv 0) (Aa (dv 0) Ac))) Ab) (dv 0))))) (Ai (Aj W3)) Bc) (Ai (Aj (XS (SN hr.units (Ah Af ab2 (hr.mono (by decide)) rfl (Aa (Bf (Aa Ab (Aa Ab (Aa Ab Ac)))) Ac)) Ab) (P0 (SN hr.units (Acm T.vg (Aa (Ah Af aeA (hr.mono (by decide)) rfl (Aa (Cg Ab) Ac)) Ac)) (Acm T.vg (Aa (Ah Af ac2 (hr.mono (by decide)) rfl (Aa (Cg Ab) Ac)) Ac))))))))),fun ds Q h=>?_⟩⟩
 obtain⟨_,rfl,_,q⟩:=h
 have q':Q (.bl true):=q _ rfl
 have hU:RP 4000:=⟨.inl rfl,Ut (r:=63) (by decide) (by decide) (by decide),by decide,(show Bt 12 4000 from Bt.aA (by decide)).le (by decide)⟩
 have m4:Fx (-400):=⟨.inl rfl,G5 (by decide)⟩
 walk_at "go"
 refine Bs 4000 hU ?_
 rintro _ ⟨g,rfl,L⟩
 have L:LF (JQ 4000) g:=L
 have um:meas (JQ 4000)=4000:=hU.meas
 obtain⟨x,dx,ex⟩:=L.turn
 have mg':meas g=4000:=by rw[←ex,Ca dx,um]
 have bg:B3 13 g:=L.btn (by rw[um];exact Bt.aA (by decide)) (by decide)
 have pg:g3 g=1:=by rw[←ex,Ad2 dx];decide
 have kg:BJ g∨Sad g:=by rw[←ex];exact Aee hU.kind dx
 have four:Bt 3 4:=Bt.aA (by decide)
 have hP:Pair g g:=Pair.of (bg.le (by decide)) (bg.le (by decide)) kg kg rfl pg pg (by rw[mg'];exact(show Bt 12 4000 from Bt.aA (by decide)).le (by decide))
 have e4:g.2.1*g.2.1-4*g.1*g.2.2=4000:=mg'
 refine⟨bg.2.1.aJ bg.2.1,four.aJ bg.1,(four.mul bg.1).aJ bg.2.2,CP (by rw[decide_eq_true e4];rfl) (Bs (g,g) hP ?_)⟩
 rintro _ ⟨F,G,p,r,C,LG,_,_,_,rfl,_⟩
 have C0:Comp g g g:=by
  have:=YB (U:=JQ 4000) (f:=g) rfl um mg'
  rw[←ex]at this ⊢
  exact(this.aeU dx)
 obtain rfl:G=g:=by
  obtain⟨t,dt,et⟩:=C.same C0 pg
  have:mov (JQ 4000) (Aq x (Ax t))=F:=by rw[←BK,ex,←et,Cm dt]
  exact(L.same LG (x:=Aq x (Ax t)) (by rw[Dl,Ez,dx,dt];rfl) this).symm
 walk_at "rd"
 refine CP (by simp) ⟨Ay (by decide),Ar (1,0,1000) rfl ⟨by rw[Ig],ift (by rw[K6];rfl) (Bs (-400) ⟨⟨m4,by decide⟩,by decide⟩ ?_)⟩⟩
 rintro _ ⟨ls,ks,rfl,A,e⟩
 refine Bs (-400) ⟨m4,by decide,by decide⟩ ?_
 rintro _ ⟨ms,rfl,B⟩
 have e2:((ks.length:Nat):Int)=(((ms.map t3).length:Nat):Int):=by rw[List.length_map,e,Agn A B]
 show Q (.bl (decide (((ks.length:Nat):Int)=(((ms.map t3).length:Nat):Int))))
 rw[decide_eq_true e2]
 exact q'
theorem Aie:∀a:Int,Dt.flat 8 (kD a)=true∧(kD a).eq (kD a)=true:=fun a=>by
 have e:kD a=.lst [.bl (decide (0+((0:Nat):Int)=a)||decide (0+((0:Nat):Int)=6)),.bl (decide (0+((1:Nat):Int)=a)||decide (0+((1:Nat):Int)=6)),.bl (decide (0+((2:Nat):Int)=a)||decide (0+((2:Nat):Int)=6)),.bl (decide (0+((3:Nat):Int)=a)||decide (0+((3:Nat):Int)=6)),.bl (decide (0+((4:Nat):Int)=a)||decide (0+((4:Nat):Int)=6)),.bl (decide (0+((5:Nat):Int)=a)||decide (0+((5:Nat):Int)=6)),.bl (decide (0+((6:Nat):Int)=a)||decide (0+((6:Nat):Int)=6))]:=rfl
 rw[e]
 constructor
 ·simp only[Zi,Kw,Ks,Ac4,Bool.and_true]
 ·simp only[Ag2,Qs,Qd,Ahy,beq_self_eq_true,Bool.and_true]
theorem Aix(o:Out):Dt.flat 8 (oF o)=true∧(oF o).eq (oF o)=true:=by
 cases o with
 |shape f=>exact⟨by simp only[oF,Mz,Kw,Ks,Ig,Bool.and_true],by show(t3 f).eq (t3 f)=true;rw[AgZ];exact decide_eq_true rfl⟩
 |great n m=>exact⟨by simp only[oF,Mz,Kw,Ks,Ig,Bool.and_true],by show(t2 (n,m)).eq (t2 (n,m))=true;rw[Ank];exact decide_eq_true rfl⟩
 |apart=>exact⟨by simp only[oF,AdO],by simp only[oF,AhC]⟩
 |plain f=>exact⟨by simp only[oF,Mz,Kw,Ks,Ig,Bool.and_true],by show(t3 f).eq (t3 f)=true;rw[AgZ];exact decide_eq_true rfl⟩
 |noM n=>exact⟨by simp only[oF,Ig],by show(Dt.int n).eq (.int n)=true;rw[K6];exact decide_eq_true rfl⟩
theorem AhT:Comp (2,1,3) (2,1,3) (2,-1,3):=⟨(-1,1,1,2),(-1,-1,-1,1),rfl,rfl,rfl⟩
theorem AnI:LF (2,-1,3) (2,-1,3):=(LF.bowl (by decide)).mpr ⟨by decide,by decide,by decide,by decide,fun h=>by rcases h with h|h<;>(revert h;decide)⟩
theorem AjL(T:Txt K mg)
  (zf:Pm P w K mg base 16 "_law_edges" Fg [] KQ)
  (aaY:Pm P w K mg base 17 "_law_told" Gb ["_law_way","_law_forms_here","_law_number_here"] Nb)
  (ab3:Pm P w K mg base 2 "_law_two" GR ["_law_kind","_law_far"] O6)
  (ab4:Pm P w K mg base 2 "_law_one" Gw ["_law_kind","_law_far","_law_way"] Ox)
  (uL:Pm P w K mg base 2 "_law_numbered" Df ["_law_way","_law_kind","_law_far"] Js)
  (zj:Pm P w K mg base 1 "_law_kinds" Fj ["_law_told_here"] KZ)
  (zm:Pm P w K mg base 1 "_law_field" Fd ["_law_told_here"] K3)
  (jZ:Pm P w K mg base 12 "product" Dv ["one","other"] JH)
  : Pm P w K mg base 18 "law" M7 ["_law_script"] Ul:=by
 obtain⟨f,fd,F⟩:=T.aeK
 refine⟨f,fd,F,F.fn.okD Gs (by walk_at "lE") fun cdv A outer s H E hr=>⟨_,(Ae (Yn PassesOwn.never rfl (Mf (DF.de (AcF (AcZ (Aa Ab Ac)) (Ac3 (dv 0) Agd (Ae2 Ab))))) (Cq 1 Gs.nd) (Ae (Ao 2 Gs.nd (FJ (dv 1) Ab)) (Ae (Ao 3 Gs.nd (Bm Ab (FJ (Cr (dv 1) Ab) (Ajg Ab Ab)))) (Ae (Ao 4 Gs.nd (Bg Ac)) (Ae (Ao 5 Gs.nd Ab) (Ae (Bw (BZ hr.units (dv 2) Ab) (Ai (Oa (Ah Af ab3 (hr.mono (by decide)) rfl (Aa (FJ (Cr (dv 1) Ab) Ab) (Aa (dv 3) Ac))) (Oe (n:=2) rfl (Ck (Cq 4 Gs.nd) (Ck (Cq 6 Gs.nd) Kp))))) (Ai (Bw (Q8 (dv 2) Ab) (Ae (Oa (Ah Af ab4 (hr.mono (by decide)) rfl (Aa (FJ (Cr (dv 1) Ab) Ab) (Aa (dv 3) (Aa (dv 2) Ac)))) (Oe (n:=2) rfl (Ck (Cq 4 Gs.nd) (Ck (Cq 6 Gs.nd) Kp)))) (Ai (Ao 5 Gs.nd (BR (FJ (Cr (dv 1) Ab) Ab) Ab)))) (Ai (Oa (Ah Af uL (hr.mono (by decide)) rfl (Aa (dv 2) (Aa (FJ (Cr (dv 1) Ab) Ab) (Aa (dv 3) Ac)))) (Oe (n:=2) rfl (Ck (Cq 5 Gs.nd) (Ck (Cq 6 Gs.nd) Kp)))))))) (Ae (Ao 7 Gs.nd (Ah Af aaY (hr.mono (by decide)) rfl (Aa (dv 2) (Aa (dv 4) (Aa (dv 5) Ac))))) (Ae (Bw (DW.dt (Ac2 (Ih hr.units (Ah Af zj (hr.mono (by decide)) rfl (Aa (dv 7) Ac)) (Ad (dv 6) Ab)) (Xv (Ih hr.units (Ah Af zm (hr.mono (by decide)) rfl (Aa (dv 7) Ac)) (Ad (dv 6) Ab))))) (Ai (Aj W3)) Bc) (Ai (Bw (Ih hr.units (Ad (Ah Af jZ (hr.mono (by decide)) rfl (Aa (Bf (Aa Ab (Aa Ab (Aa Ab Ac)))) (Aa (Bf (Aa Ab (Aa Ab (Aa Ab Ac)))) Ac))) Ab) (Bf (Aa Ab (Aa (Cg Ab) (Aa Ab Ac))))) (Ai (Aj W3)) Bc)))))))))) (Ai (Aj (Abt Af zf (hr.mono (by decide)) rfl)))),fun ds Q h=>?_⟩⟩
 obtain⟨ns,rfl,hn,q⟩:=h
 have hn:ns.length≤63:=hn
 have q':Q (.bl true):=q _ rfl
 obtain⟨cs,e,hcs,hme⟩:=Agw ns none (some 40)
 have ew:[Dt.int 0]++cs.map Dt.int=([0]++cs:List Int).map Dt.int:=by simp
 have s3:3≤sizeLine:=Ay (by decide)
 walk_at "go"
 refine Um (([0]++cs:List Int).map Dt.int) (fun R hR=>?_) (fun i ρ=>∃y1 y2 y3 y4 y5 y6 y7,ρ=[some (.is (.lst (ns.map Dt.int))),y1,y2,y3,y4,y5,y6,y7]) ⟨_,_,_,_,_,_,_,rfl⟩ ?_ ?_
 ·walk_at "rd"
  rw[e,ew]
  exact⟨Ay (by decide),Ay (by rw[List.length_map];omega),hR⟩
 ·rintro i d _ hi ⟨y1,y2,y3,y4,y5,y6,y7,rfl⟩
  obtain⟨c,_,rfl⟩:∃c,c∈([0]++cs:List Int)∧Dt.int c=d:=List.mem_map.mp (List.mem_of_getElem? hi)
  have cp:Abq 10 30:=⟨by decide,by decide,by decide⟩
  have r30:=J7 (c.fdiv 90) (m:=10 ^ Int.toNat 30) (by decide)
  have e30:(10 ^ Int.toNat 30:Int)<2 ^ 105:=by decide
  have r6:=J7 c (m:=6) (by decide)
  refine AdW (fun ρ=>∃k,1≤k∧Bt 110 k∧ρ=[some (.is (.lst (ns.map Dt.int))),some (.is (.int c)),some (.is (.int (c.fmod 6))),some (.is (.int k)),some (.is (.lst [])),some (.is (.int 0)),y6,y7]) (fun N hN=>?_) ?_
  ·walk_at "rd"
   exact⟨by decide,⟨by decide,by decide⟩,cp,by decide,Nat.zero_le _,hN _ ⟨_,by omega,Bt.of (by omega) (by omega),rfl⟩⟩
  rintro _ ⟨k,k1,bk,rfl⟩
  refine AcK (fun ρ=>∃fs n o,Adf (c.fmod 6) fs n o∧ρ=[some (.is (.lst (ns.map Dt.int))),some (.is (.int c)),some (.is (.int (c.fmod 6))),some (.is (.int k)),some (.is (.lst fs)),some (.is (.int n)),some (.is (R9 o)),y7]) (fun N hN=>?_) ?_
  ·walk_at "rd"
   refine Er (fun w=>⟨⟨by decide,by decide⟩,by decide,Bs (_,k) ⟨k1,bk⟩ ?_⟩) (fun w=>Er (fun w2=>⟨⟨by decide,by decide⟩,by decide,Bs (_,k,c.fmod 6) ⟨k1,bk,?_⟩ ?_⟩) (fun w2=>⟨⟨by decide,by decide⟩,by decide,Bs (c.fmod 6,_,k) ⟨k1,bk,?_,r6.2⟩ ?_⟩))
   ·rintro _ ⟨f,h,o,rfl,X⟩
    exact⟨rfl,hN _ ⟨_,_,o,.inl ⟨of_decide_eq_true w,f,h,rfl,X⟩,rfl⟩⟩
   ·have w2:=of_decide_eq_true w2
    have w:¬c.fmod 6=0:=fun z=>w (decide_eq_true z)
    show c.fmod 6=1∨c.fmod 6=2
    omega
   ·rintro _ ⟨f,o,rfl,X⟩
    have w2:=of_decide_eq_true w2
    have w:¬c.fmod 6=0:=fun z=>w (decide_eq_true z)
    exact⟨rfl,⟨by decide,by decide⟩,by decide,hN _ ⟨_,_,o,.inr (.inl ⟨by omega,f,rfl,X⟩),rfl⟩⟩
   ·have w2:¬c.fmod 6<3:=fun z=>w2 (decide_eq_true z)
    show 3≤c.fmod 6
    omega
   ·rintro _ ⟨n,o,rfl,X⟩
    have w2:¬c.fmod 6<3:=fun z=>w2 (decide_eq_true z)
    exact⟨rfl,hN _ ⟨_,_,o,.inr (.inr ⟨⟨by omega,r6.2⟩,X⟩),rfl⟩⟩
  rintro _ ⟨fs,n,o,hA,rfl⟩
  walk_at "rd"
  refine Bs (c.fmod 6,fs,n,o) hA ?_
  rintro _ rfl
  obtain⟨k2,k3⟩:=Aie (oA o)
  obtain⟨f2,f3⟩:=Aix o
  have b23:B3 690 (2,1,3):=⟨(show Bt 2 2 from Bt.aA (by decide)).le (by decide),(show Bt 2 1 from Bt.aA (by decide)).le (by decide),(show Bt 2 3 from Bt.aA (by decide)).le (by decide)⟩
  have bo:BJ (2,1,3):=⟨by decide,by decide⟩
  refine Ar o trivial ⟨⟨k2,k2⟩,CP (by rw[k3];rfl) (Ar o trivial ⟨⟨f2,f2⟩,CP (by rw[f3];rfl) ⟨s3,s3,Bs ((2,1,3),(2,1,3)) (Pair.of b23 b23 (.inl bo) (.inl bo) rfl (by decide) (by decide) ((show Bt 5 (-23)from Bt.aA (by decide)).le (by decide))) ?_⟩⟩)⟩
  rintro _ ⟨F,G,p,r,C,L,_,_,_,rfl,_⟩
  obtain rfl:G=(2,-1,3):=Ye C AhT (by decide) L AnI
  exact⟨s3,by simp only[Mz,Kw,Ks,Ig,Bool.and_true],CP (by simp only[V9,Qs,Qd,K6];decide) ⟨_,_,_,_,_,_,_,rfl⟩⟩
 ·rintro _ ⟨y1,y2,y3,y4,y5,y6,y7,rfl⟩
  walk_at "rd"
  exact Ar () trivial q'
end
abbrev nF(K:W.Frag)(n:Str)(s:Stmt):Prop:=∃(f:Addr)(oc:Value)(od:Option Addr)(kV dc pm:Value)(an:Option Addr)(cd ct:Value)(sl:Array (Option Value)),W.nsIn K mainGlobals n=some (some (.ref f))∧K.lookup f=some ⟨oc,od,.func (W.fnOf n n (Dk s) (Cp s) (Ag s) .none kV dc pm an cd ct),sl⟩∧W.codeIn K cd n=true∧W.keepIn K (.ref f)=true
theorem Aho{K:W.Frag}{n:Str}{s:Stmt}{f:Addr}{od an:Option Addr}{sl:Array (Option Value)}{oc kV dc pm cd ct:Value}(a:W.nsIn K mainGlobals n=some (some (.ref f)))(l:K.lookup f=some ⟨oc,od,.func (W.fnOf n n (Dk s) (Cp s) (Ag s) .none kV dc pm an cd ct),sl⟩)(c:W.codeIn K cd n=true)(k:W.keepIn K (.ref f)=true):nF K n s:=⟨f,oc,od,kV,dc,pm,an,cd,ct,sl,a,l,c,k⟩
theorem tM{K:W.Frag}{h:Heap}{mg:Str→Option Value}{n:Str}{s:Stmt}{ps:List Str}(X:K.In h)(G:h.Ns mainGlobals mg)(H:nF K n s)
  (hb:∀(kV doc pm:Value)(an:Option Addr)(cdv ct:Value)(us:List Value),us.length=ps.length→bindArgs (W.fnOf n n (Dk s) (Cp s) (Ag s) .none kV doc pm an cdv ct) ⟨us,[]⟩=pure (ps.zip us)):∃f fd,FnT K mg n s ps f fd:=by
 obtain⟨f,oc,od,kV,dc,pm,an,cd,ct,sl,a,l,c,k⟩:=H
 have F:=IK (st:=s) l c k
 exact⟨_,_,F,W.mg_of X G a,F.binds hb⟩
set_option maxHeartbeats 8000000 in
theorem all_mk{l:W.OpenLaw}{w:World}{K:W.Frag}{h:Heap}{mg:Str→Option Value}{fa:Addr}(X:K.In h)(G:h.Ns mainGlobals mg)(hfa:mg "law"=some (.ref fa))
  (h0:nF K "divisor" HB)
  (h1:nF K "shares" Jo)
  (h2:nF K "row_less" GJ)
  (h3:nF K "root" JB)
  (h4:nF K "is_square" Ey)
  (h5:nF K "powered" NZ)
  (h6:nF K "check_at_most" Cz)
  (h7:nF K "check_within" Cu)
  (h8:nF K "is_turn" HN)
  (h9:nF K "check_turn" Di)
  (h10:nF K "led" Tv)
  (h11:nF K "put_behind" DY)
  (h12:nF K "back" Np)
  (h13:nF K "measure" Dg)
  (h14:nF K "value" Kz)
  (h15:nF K "content" Gz)
  (h16:nF K "moved" JK)
  (h17:nF K "middle" Jl)
  (h18:nF K "opposite" LC)
  (h19:nF K "shape" Iu)
  (h20:nF K "check_bowl" Fb)
  (h21:nF K "stands_least" CT)
  (h22:nF K "settled" HD)
  (h23:nF K "turn_lower" Ft)
  (h24:nF K "check_saddle" Ce)
  (h25:nF K "stands_level" Dw)
  (h26:nF K "turn_behind" Eh)
  (h27:nF K "stop_behind" Dp)
  (h28:nF K "eased" Ku)
  (h29:nF K "stops_round" Ei)
  (h30:nF K "round_of" LQ)
  (h31:nF K "lowered" Hy)
  (h32:nF K "shape_of" CG)
  (h33:nF K "least_of" GP)
  (h34:nF K "product" Dv)
  (h35:nF K "check_pair" Fv)
  (h36:nF K "check_plain" CJ)
  (h37:nF K "half_of_middles" BP)
  (h38:nF K "common_shares" Dh)
  (h39:nF K "joint_form" Fe)
  (h40:nF K "joint_rows" Fo)
  (h41:nF K "rows_led" DN)
  (h42:nF K "check_measure" Cj)
  (h43:nF K "unit" Jb)
  (h44:nF K "classes" Ef)
  (h45:nF K "least_bowls" Dn)
  (h46:nF K "least_saddles" Hf)
  (h47:nF K "plain_forms" Dq)
  (h48:nF K "table" GZ)
  (h49:nF K "row_of_table" CQ)
  (h50:nF K "least_product" Cy)
  (h51:nF K "power" Ko)
  (h52:nF K "order_of" DX)
  (h53:nF K "_law_ask" GX)
  (h54:nF K "_law_told" Gb)
  (h55:nF K "_law_kinds" Fj)
  (h56:nF K "_law_field" Fd)
  (h57:nF K "_law_due" Ea)
  (h58:nF K "_law_forms" DQ)
  (h59:nF K "_law_two" GR)
  (h60:nF K "_law_one" Gw)
  (h61:nF K "_law_number" Ed)
  (h62:nF K "_law_numbered" Df)
  (h63:nF K "_law_edges" Fg)
  (h64:nF K "law" M7)
  (pI:W.nsIn K mainGlobals "abs"=some none)
  (aK:W.nsIn K mainGlobals "isinstance"=some none)
  (vg:W.nsIn K mainGlobals "len"=some none)
  (yG:W.nsIn K mainGlobals "max"=some none)
  (yH:W.nsIn K mainGlobals "min"=some none)
  (jW:W.nsIn K mainGlobals "range"=some none)
  (kE:W.nsIn K mainGlobals "tuple"=some none)
  (yI:W.nsIn K mainGlobals "zip"=some none)
  (cW:W.nsIn K mainGlobals "ValueError"=some none)
  {aN rY:Addr} {wZ zp:Str} {w5 vG:List Value} {xg xq:Bool} {xu:List Str} {vH:Option Bool} {xG xH:Option Addr} {zq zu zx zy zF:Option Value} {xJ:String} {xK:Value} {kO:Array DictEntry} {zG:Nat} {zH:Array (Option Value)}
  (bL:W.nsIn K mainGlobals "FormError"=some (some (.ref aN)))
  (bM:K.lookup aN=some (PySem.excClassObj wZ zp aN rY w5 bmV xg xu vG xq vH xG zq zu zx zy zF xJ))
  (bR:K.lookup rY=some ⟨xK,xH,.dict kO zG,zH⟩) (bT:Adh kO=true) (bU:nsFind kO "__init__"=none)
  {aM acT:Addr} {adX aeB:Str} {adY ac3:List Value} {adZ:Bool} {ad0:List Str} {ac4:Option Bool} {ad1 ac5:Option Addr} {ad2 ad3 ad4 ad5 ad6:Option Value} {ac6:Value} {tV:Array DictEntry} {ac7:Nat} {ac8:Array (Option Value)}
  (aV:W.nsIn K mainGlobals "Apart"=some (some (.ref aM)))
  (rZ:K.lookup aM=some (PySem.excClassObj adX aeB aM acT adY (.ref aN::bmV) true ad0 ac3 adZ ac4 ad1 ad2 ad3 ad4 ad5 ad6 "ValueError.__new__"))
  (vI:K.lookup acT=some ⟨ac6,ac5,.dict tV ac7,ac8⟩) (vJ:Adh tV=true) (vK:nsFind tV "__init__"=none)
  (vL:W.keepIn K (.ref aM)=true) (vM:W.findIn K (.ref aM) "__setattr__"=some (some (.builtin "object.__setattr__"))) (vN:W.findIn K (.ref aM) "__getattribute__"=some (some (.builtin "BaseException.__getattribute__"))) (vO:W.findIn K (.ref aM) "__getattr__"=some none)
  (vP:W.findIn K (.ref aM) "__class__"=some (some (.builtin "object.__class__"))) (vQ:W.specialIn K (.builtin "object.__class__") "__get__"=some (some (.builtin "getset_descriptor.__get__"))) (vR:W.takesIn K (.builtin "object.__class__")=some true)
  {aC ac9 jC:Addr} {ab5 ada:Str} {ab6 aaZ:List Value} {ab7:Bool} {ab8:List Str} {aa0:Option Bool} {ab9 aa1 aa2:Option Addr} {acd ace acf acg ach:Option Value} {aa3 aa4 aa5 aa6 uz aa7:Value} {aa8:Array (Option Value)}
  (aL:W.nsIn K mainGlobals "NoShape"=some (some (.ref aC)))
  (qp:K.lookup aC=some (PySem.excClassObj ab5 ada aC ac9 ab6 (.ref aN::bmV) true ab8 aaZ ab7 aa0 ab9 acd ace acf acg ach "ValueError.__new__"))
  (qt:W.keepIn K (.ref aC)=true) (qu:W.findIn K (.ref aC) "__setattr__"=some (some (.builtin "object.__setattr__"))) (qw:W.findIn K (.ref aC) "__getattribute__"=some (some (.builtin "BaseException.__getattribute__"))) (qx:W.findIn K (.ref aC) "__getattr__"=some none)
  (qy:W.findIn K (.ref aC) "__class__"=some (some (.builtin "object.__class__"))) (qz:W.specialIn K (.builtin "object.__class__") "__get__"=some (some (.builtin "getset_descriptor.__get__"))) (qC:W.takesIn K (.builtin "object.__class__")=some true)
  (qD:W.findIn K (.ref aC) "__init__"=some (some (.ref jC))) (qF:W.typeIn K (.ref jC)=some (.type "function"))
  (qG:K.lookup jC=some ⟨aa3,aa1,.func (W.fnOf "__init__" "NoShape.__init__" (Dk Gx) (Cp Gx) (Ag Gx) .none aa4 aa5 aa6 aa2 uz aa7),aa8⟩) (qH:W.codeIn K uz "NoShape.__init__"=true) (qI:W.keepIn K (.ref jC)=true)
  (jf:W.takerIn K aC "form"=some none) (bC:W.findIn K (.ref aC) "form"=some none)
  {aq aci fj:Addr} {aa9 acj:Str} {abb zJ:List Value} {abd:Bool} {abe:List Str} {zK:Option Bool} {abf zL zM:Option Addr} {abg abh abj abk abl:Option Value} {zN zO zP zQ su zR:Value} {zT:Array (Option Value)}
  (aF:W.nsIn K mainGlobals "TooGreat"=some (some (.ref aq)))
  (m7:K.lookup aq=some (PySem.excClassObj aa9 acj aq aci abb (.ref aN::bmV) true abe zJ abd zK abf abg abh abj abk abl "ValueError.__new__"))
  (m8:W.keepIn K (.ref aq)=true) (m9:W.findIn K (.ref aq) "__setattr__"=some (some (.builtin "object.__setattr__"))) (nq:W.findIn K (.ref aq) "__getattribute__"=some (some (.builtin "BaseException.__getattribute__"))) (nu:W.findIn K (.ref aq) "__getattr__"=some none)
  (nA:W.findIn K (.ref aq) "__class__"=some (some (.builtin "object.__class__"))) (nH:W.specialIn K (.builtin "object.__class__") "__get__"=some (some (.builtin "getset_descriptor.__get__"))) (nJ:W.takesIn K (.builtin "object.__class__")=some true)
  (nM:W.findIn K (.ref aq) "__init__"=some (some (.ref fj))) (nP:W.typeIn K (.ref fj)=some (.type "function"))
  (nQ:K.lookup fj=some ⟨zN,zL,.func (W.fnOf "__init__" "TooGreat.__init__" (Dk FZ) (Cp FZ) (Ag FZ) .none zO zP zQ zM su zR),zT⟩) (nR:W.codeIn K su "TooGreat.__init__"=true) (nU:W.keepIn K (.ref fj)=true)
  (d7:W.takerIn K aq "number"=some none) (aU:W.findIn K (.ref aq) "number"=some none)
  (gH:W.takerIn K aq "most"=some none) (aZ:W.findIn K (.ref aq) "most"=some none)
  {au acn iW:Addr} {abm aco:Str} {abn zU:List Value} {abo:Bool} {abp:List Str} {zV:Option Bool} {abq zW zX:Option Addr} {abr abt abu abv abw:Option Value} {zY zZ z9 aac sy aad:Value} {aae:Array (Option Value)}
  (aG:W.nsIn K mainGlobals "NotPlain"=some (some (.ref au)))
  (nW:K.lookup au=some (PySem.excClassObj abm aco au acn abn (.ref aN::bmV) true abp zU abo zV abq abr abt abu abv abw "ValueError.__new__"))
  (nY:W.keepIn K (.ref au)=true) (nZ:W.findIn K (.ref au) "__setattr__"=some (some (.builtin "object.__setattr__"))) (n6:W.findIn K (.ref au) "__getattribute__"=some (some (.builtin "BaseException.__getattribute__"))) (n8:W.findIn K (.ref au) "__getattr__"=some none)
  (oh:W.findIn K (.ref au) "__class__"=some (some (.builtin "object.__class__"))) (ou:W.specialIn K (.builtin "object.__class__") "__get__"=some (some (.builtin "getset_descriptor.__get__"))) (oE:W.takesIn K (.builtin "object.__class__")=some true)
  (oG:W.findIn K (.ref au) "__init__"=some (some (.ref iW))) (oH:W.typeIn K (.ref iW)=some (.type "function"))
  (oJ:K.lookup iW=some ⟨zY,zW,.func (W.fnOf "__init__" "NotPlain.__init__" (Dk Ge) (Cp Ge) (Ag Ge) .none zZ z9 aac zX sy aad),aae⟩) (oK:W.codeIn K sy "NotPlain.__init__"=true) (oM:W.keepIn K (.ref iW)=true)
  (gK:W.takerIn K au "form"=some none) (bw:W.findIn K (.ref au) "form"=some none)
  {ak abx fL:Addr} {aaf aby:Str} {aag xM:List Value} {aah:Bool} {aai:List Str} {xP:Option Bool} {aaj xQ xR:Option Addr} {aak aal aam aan aao:Option Value} {xT xU xV xW pJ xX:Value} {xY:Array (Option Value)}
  (aD:W.nsIn K mainGlobals "NoMeasure"=some (some (.ref ak)))
  (kW:K.lookup ak=some (PySem.excClassObj aaf aby ak abx aag (.ref aN::bmV) true aai xM aah xP aaj aak aal aam aan aao "ValueError.__new__"))
  (kY:W.keepIn K (.ref ak)=true) (kZ:W.findIn K (.ref ak) "__setattr__"=some (some (.builtin "object.__setattr__"))) (lq:W.findIn K (.ref ak) "__getattribute__"=some (some (.builtin "BaseException.__getattribute__"))) (lB:W.findIn K (.ref ak) "__getattr__"=some none)
  (lC:W.findIn K (.ref ak) "__class__"=some (some (.builtin "object.__class__"))) (lH:W.specialIn K (.builtin "object.__class__") "__get__"=some (some (.builtin "getset_descriptor.__get__"))) (lJ:W.takesIn K (.builtin "object.__class__")=some true)
  (lK:W.findIn K (.ref ak) "__init__"=some (some (.ref fL))) (lM:W.typeIn K (.ref fL)=some (.type "function"))
  (lN:K.lookup fL=some ⟨xT,xQ,.func (W.fnOf "__init__" "NoMeasure.__init__" (Dk Fq) (Cp Fq) (Ag Fq) .none xU xV xW xR pJ xX),xY⟩) (lQ:W.codeIn K pJ "NoMeasure.__init__"=true) (lR:W.keepIn K (.ref fL)=true)
  (dz:W.takerIn K ak "number"=some none) (aQ:W.findIn K (.ref ak) "number"=some none)
  {sE vU:Addr} {adb ade:Option Addr} {adf:Array (Option Value)} {adg adh adi adk yK adl:Value}
  (vV:W.nsIn K mainGlobals "Shape"=some (some (.ref sE))) (vW:W.specialIn K (.ref sE) "__getattribute__"=some (some (.builtin "type.__getattribute__"))) (vX:W.readsIn K sE (.type "type")=true) (vY:W.findCls K (.ref sE) (.type "type") "__init__"=some (.val (.ref vU)))
  (vZ:K.lookup vU=some ⟨adg,adb,.func (W.fnOf "__init__" "Shape.__init__" (Dk Jr) (Cp Jr) (Ag Jr) .none adh adi adk ade yK adl),adf⟩) (v7:W.codeIn K yK "Shape.__init__"=true) (sG:W.keepIn K (.ref vU)=true)
  {cu uO:Addr} {ad7 ad8:Option Addr} {ad9:Array (Option Value)} {aea aeb aec aed abz aee:Value}
  (iT:W.nsIn K mainGlobals "Bowl"=some (some (.ref cu))) (aap:W.makesIn K cu=true) (aaq:W.findIn K (.ref cu) "__init__"=some (some (.ref uO))) (aar:W.isFn K (.ref uO)=true) (aas:W.keepIn K (.ref cu)=true)
  (v9:W.plainGet K cu Str.empty=true) (wg:W.hasDictIn K cu=true) (wj:W.plainOver K cu=true) (wk:W.findIn K (.ref cu) "__setattr__"=some (some (.builtin "object.__setattr__")))
  (wu:W.findIn K (.ref cu) "__class__"=some (some (.builtin "object.__class__"))) (wz:W.specialIn K (.builtin "object.__class__") "__get__"=some (some (.builtin "getset_descriptor.__get__"))) (wA:W.takesIn K (.builtin "object.__class__")=some true) (wB:W.mroIn K cu (.type "object")=some true)
  (aat:K.lookup uO=some ⟨aea,ad7,.func (W.fnOf "__init__" "Bowl.__init__" (Dk KH) (Cp KH) (Ag KH) .none aeb aec aed ad8 abz aee),ad9⟩) (aau:W.codeIn K abz "Bowl.__init__"=true) (wC:W.keepIn K (.ref uO)=true)
  (iU:W.findIn K (.ref cu) "form"=some none)
  (cX:W.findIn K (.ref cu) "measure"=some none)
  (dW:W.findIn K (.ref cu) "lowest"=some none)
  {aW oW:Addr} {acp acq:Option Addr} {acr:Array (Option Value)} {acs acu acv acw wD acy:Value}
  (bY:W.nsIn K mainGlobals "Saddle"=some (some (.ref aW))) (tW:W.makesIn K aW=true) (tX:W.findIn K (.ref aW) "__init__"=some (some (.ref oW))) (tY:W.isFn K (.ref oW)=true) (tZ:W.keepIn K (.ref aW)=true)
  (qJ:W.plainGet K aW Str.empty=true) (qK:W.hasDictIn K aW=true) (qL:W.plainOver K aW=true) (qM:W.findIn K (.ref aW) "__setattr__"=some (some (.builtin "object.__setattr__")))
  (qN:W.findIn K (.ref aW) "__class__"=some (some (.builtin "object.__class__"))) (qO:W.specialIn K (.builtin "object.__class__") "__get__"=some (some (.builtin "getset_descriptor.__get__"))) (qP:W.takesIn K (.builtin "object.__class__")=some true) (qQ:W.mroIn K aW (.type "object")=some true)
  (uc:K.lookup oW=some ⟨acs,acp,.func (W.fnOf "__init__" "Saddle.__init__" (Dk HF) (Cp HF) (Ag HF) .none acu acv acw acq wD acy),acr⟩) (ud:W.codeIn K wD "Saddle.__init__"=true) (qR:W.keepIn K (.ref oW)=true)
  (dX:W.findIn K (.ref aW) "form"=some none)
  (bV:W.findIn K (.ref aW) "measure"=some none)
  (cA:W.findIn K (.ref aW) "lowest"=some none)
  {oN:Addr} {adn ado:Option Addr} {adp:Array (Option Value)} {adq adt adu adv yL adw:Value}
  (jY:W.findIn K (.ref cu) "least"=some (some (.ref oN)))
  (jg:W.findIn K (.ref aW) "least"=some (some (.ref oN)))
  (sH:W.isFn K (.ref oN)=true) (wF:K.lookup oN=some ⟨adq,adn,.func (W.fnOf "least" "Shape.least" (Dk Jv) (Cp Jv) (Ag Jv) .none adt adu adv ado yL adw),adp⟩) (wG:W.codeIn K yL "Shape.least"=true) (j6:W.keepIn K (.ref oN)=true)
  {aO:Addr} {abA:ClassData} (oO:W.nsIn K mainGlobals "NoAnswer"=some (some (.ref aO))) (cJ:W.clsIn K aO=some abA) (cL:W.typeIn K (.ref aO)=some (.type "type"))
  (d8:W.mroIn K aC (.ref aO)=some false)
  (dD:W.mroIn K aq (.ref aO)=some false)
  (dF:W.mroIn K au (.ref aO)=some false)
  (cM:W.mroIn K ak (.ref aO)=some false)
  (gM:W.mroIn K aM (.ref aO)=some false)
  {bH:Addr} {adx:ClassData} (uf:W.nsIn K mainGlobals "NoRoot"=some (some (.ref bH))) (gO:W.clsIn K bH=some adx) (gP:W.typeIn K (.ref bH)=some (.type "type"))
  (gQ:W.mroIn K aC (.ref bH)=some false)
  (fQ:W.mroIn K aq (.ref bH)=some false)
  (fU:W.mroIn K au (.ref bH)=some false)
  (d9:W.mroIn K ak (.ref bH)=some false)
  (jJ:W.mroIn K aM (.ref bH)=some false)
  {bI:Addr} {ady:ClassData} (ug:W.nsIn K mainGlobals "NoTurn"=some (some (.ref bI))) (gR:W.clsIn K bI=some ady) (gU:W.typeIn K (.ref bI)=some (.type "type"))
  (gW:W.mroIn K aC (.ref bI)=some false)
  (fV:W.mroIn K aq (.ref bI)=some false)
  (fW:W.mroIn K au (.ref bI)=some false)
  (eE:W.mroIn K ak (.ref bI)=some false)
  (jK:W.mroIn K aM (.ref bI)=some false)
  {aP:Addr} {abB:ClassData} (oR:W.nsIn K mainGlobals "NotLevel"=some (some (.ref aP))) (cN:W.clsIn K aP=some abB) (cP:W.typeIn K (.ref aP)=some (.type "type"))
  (eF:W.mroIn K aC (.ref aP)=some false)
  (dG:W.mroIn K aq (.ref aP)=some false)
  (dH:W.mroIn K au (.ref aP)=some false)
  (cQ:W.mroIn K ak (.ref aP)=some false)
  (gY:W.mroIn K aM (.ref aP)=some false)
  {bJ:Addr} {adz:ClassData} (uh:W.nsIn K mainGlobals "NotOwn"=some (some (.ref bJ))) (gZ:W.clsIn K bJ=some adz) (iu:W.typeIn K (.ref bJ)=some (.type "type"))
  (iw:W.mroIn K aC (.ref bJ)=some false)
  (fX:W.mroIn K aq (.ref bJ)=some false)
  (fY:W.mroIn K au (.ref bJ)=some false)
  (eG:W.mroIn K ak (.ref bJ)=some false)
  (jL:W.mroIn K aM (.ref bJ)=some false)
  {bK:Addr} {adA:ClassData} (uo:W.nsIn K mainGlobals "Nought"=some (some (.ref bK))) (iy:W.clsIn K bK=some adA) (iB:W.typeIn K (.ref bK)=some (.type "type"))
  (iC:W.mroIn K aC (.ref bK)=some false)
  (fZ:W.mroIn K aq (.ref bK)=some false)
  (f9:W.mroIn K au (.ref bK)=some false)
  (eO:W.mroIn K ak (.ref bK)=some false)
  (jM:W.mroIn K aM (.ref bK)=some false)
  {acz:ClassData} (iD:W.clsIn K aC=some acz) (iG:W.typeIn K (.ref aC)=some (.type "type"))
  (eV:W.mroIn K aq (.ref aC)=some false)
  (eX:W.mroIn K au (.ref aC)=some false)
  (dJ:W.mroIn K ak (.ref aC)=some false)
  (jh:W.mroIn K aM (.ref aC)=some false)
  {abC:ClassData} (fC:W.clsIn K aq=some abC) (fD:W.typeIn K (.ref aq)=some (.type "type"))
  (eY:W.mroIn K aC (.ref aq)=some false)
  (dM:W.mroIn K au (.ref aq)=some false)
  (cR:W.mroIn K ak (.ref aq)=some false)
  (iH:W.mroIn K aM (.ref aq)=some false)
  {aef:ClassData} (j7:W.clsIn K aM=some aef) (j8:W.typeIn K (.ref aM)=some (.type "type"))
  (jj:W.mroIn K aC (.ref aM)=some false)
  (iI:W.mroIn K aq (.ref aM)=some false)
  (iJ:W.mroIn K au (.ref aM)=some false)
  (gb:W.mroIn K ak (.ref aM)=some false)
  {abD:ClassData} (fG:W.clsIn K au=some abD) (fH:W.typeIn K (.ref au)=some (.type "type"))
  (eZ:W.mroIn K aC (.ref au)=some false)
  (dN:W.mroIn K aq (.ref au)=some false)
  (cT:W.mroIn K ak (.ref au)=some false)
  (iK:W.mroIn K aM (.ref au)=some false)
  {aav:ClassData} (cY:W.clsIn K ak=some aav) (cZ:W.typeIn K (.ref ak)=some (.type "type"))
  (dR:W.mroIn K aC (.ref ak)=some false)
  (cU:W.mroIn K aq (.ref ak)=some false)
  (cV:W.mroIn K au (.ref ak)=some false)
  (gk:W.mroIn K aM (.ref ak)=some false)
  {aeg:Addr} {aeC:Option Addr} {aeD:Array (Option Value)} {ae0:Nat} {aeh:Tok} {aei:Tok} {aej:Tok} {aek:Tok}
  (pU:W.nsIn K mainGlobals "SAME"=some (some (.ref aeg))) (acA:K.lookup aeg=some ⟨.type "tuple",aeC,.seq #[.int (1) aeh,.int (0) aei,.int (0) aej,.int (1) aek] ae0,aeD⟩)
  {cG:Tok} (jO:W.nsIn K mainGlobals "MOST_MEASURE"=some (some (.int (4000) cG)))
  {mq:Tok} (jm:W.nsIn K mainGlobals "MOST_OF_TABLE"=some (some (.int (400) mq)))
  : ∃fd:FuncData,(∀(s:Shared)(v:Value),BindsTo s fd ⟨[v],[]⟩ [("_law_script",v)])∧∀base:Heap,K.In base→base.Ns mainGlobals mg→El l.prog w K mg base CX0 18 fa fd ["_law_script"] (lSp K Ul):=by
 obtain⟨f64,agG,agH,afw,afx,afy,afz,afA,afB,agI,a64,l64,c64,k64⟩:=h64
 have e:=hfa.symm.trans (W.mg_of X G a64)
 cases e
 have F64:=IK (st:=M7) l64 c64 k64
 have cD:XC K aM aN:=⟨⟨_,_,_,_,_,_,_,_,_,_,_,_,_,_,rZ⟩,⟨_,_,_,_,_,_,_,_,_,bM,bR,bT,bU⟩,vM,vN,vO,vP,vQ,vR⟩
 have bD:XC K aC aN:=⟨⟨_,_,_,_,_,_,_,_,_,_,_,_,_,_,qp⟩,⟨_,_,_,_,_,_,_,_,_,bM,bR,bT,bU⟩,qu,qw,qx,qy,qz,qC⟩
 have wH:=IK (st:=Gx) qG qH qI
 have aX:XC K aq aN:=⟨⟨_,_,_,_,_,_,_,_,_,_,_,_,_,_,m7⟩,⟨_,_,_,_,_,_,_,_,_,bM,bR,bT,bU⟩,m9,nq,nu,nA,nH,nJ⟩
 have uD:=IK (st:=FZ) nQ nR nU
 have aY:XC K au aN:=⟨⟨_,_,_,_,_,_,_,_,_,_,_,_,_,_,nW⟩,⟨_,_,_,_,_,_,_,_,_,bM,bR,bT,bU⟩,nZ,n6,n8,oh,ou,oE⟩
 have uE:=IK (st:=Ge) oJ oK oM
 have aR:XC K ak aN:=⟨⟨_,_,_,_,_,_,_,_,_,_,_,_,_,_,kW⟩,⟨_,_,_,_,_,_,_,_,_,bM,bR,bT,bU⟩,kZ,lq,lB,lC,lH,lJ⟩
 have sI:=IK (st:=Fq) lN lQ lR
 have abE:=IK (st:=Jr) vZ v7 sG
 have acU:=IK (st:=KH) aat aau wC
 have yM:=IK (st:=HF) uc ud qR
 have abF:=IK (st:=Jv) wF wG j6
 have T:Txt K mg:={
  adK:=⟨_,_,_,⟨⟨aap,aaq,aar,aas⟩,iT,W.mg_of X G iT,⟨v9,wg,wj,wk⟩,fun f hf=>by simp only[List.mem_cons,List.not_mem_nil,or_false]at hf;rcases hf with hf|hf|hf<;>(subst hf;first|exact iU|exact cX|exact dW)⟩,acU,acU.binds (ps:=["self","form"]) fun _ _ _ _ _ _ us hl=>match us,hl with | [_,_],_=>rfl⟩
  aev:=⟨(fun C e=>by rw[iT]at e;cases e;exact wu),wz,wA,(fun C e=>by rw[iT]at e;cases e;exact wB)⟩
  yU:=fun C e=>by rw[iT]at e;cases e;exact iU
  lV:=fun C e=>by rw[iT]at e;cases e;exact cX
  jy:=fun C e=>by rw[iT]at e;cases e;exact dW
  aaJ:=⟨_,_,_,⟨⟨tW,tX,tY,tZ⟩,bY,W.mg_of X G bY,⟨qJ,qK,qL,qM⟩,fun f hf=>by simp only[List.mem_cons,List.not_mem_nil,or_false]at hf;rcases hf with hf|hf|hf<;>(subst hf;first|exact dX|exact bV|exact cA)⟩,yM,yM.binds (ps:=["self","form"]) fun _ _ _ _ _ _ us hl=>match us,hl with | [_,_],_=>rfl⟩
  acX:=⟨(fun C e=>by rw[bY]at e;cases e;exact qN),qO,qP,(fun C e=>by rw[bY]at e;cases e;exact qQ)⟩
  uT:=fun C e=>by rw[bY]at e;cases e;exact dX
  jT:=fun C e=>by rw[bY]at e;cases e;exact bV
  gA:=fun C e=>by rw[bY]at e;cases e;exact cA
  aaK:=⟨_,_,⟨⟨_,W.mg_of X G vV,vW,vX,vY⟩,sG⟩,abE,abE.binds (ps:=["self","form","lowest"]) fun _ _ _ _ _ _ us hl=>match us,hl with | [_,_,_],_=>rfl⟩
  aaL:=⟨_,_,fun c hc=>by simp only[List.mem_cons,List.not_mem_nil,or_false]at hc;rcases hc with hc|hc<;>(subst hc;intro C e;first|(rw[iT]at e;cases e;exact⟨jY,sH,j6⟩)|(rw[bY]at e;cases e;exact⟨jg,sH,j6⟩)),j6,abF,abF.binds (ps:=["self"]) fun _ _ _ _ _ _ us hl=>match us,hl with | [_],_=>rfl⟩
  aaI:=⟨_,_,⟨aV,W.mg_of X G aV,vL,⟨_,_,_,_,_,_,_,_,_,_,_,_,_,_,_,_,_,_,_,_,rZ,vI,vJ,vK⟩,fun h Y=>cD.own Y,cD.xb⟩,cD⟩
  jx:=Under.mk aV cD (W.mg_of X G bL)
  yq:=⟨_,_,_,_,aL,W.mg_of X G aL,qt,bD,qD,qF,wH.binds (ps:=["self","form"]) fun _ _ _ _ _ _ us hl=>match us,hl with | [_,_],_=>rfl,rfl,wH,fun f hf=>by simp only[List.mem_cons,List.not_mem_nil,or_false]at hf;subst hf;exact jf⟩
  iV:=Under.mk aL bD (W.mg_of X G bL)
  bC:=HY.mk aL bC
  uQ:=⟨_,_,_,_,aF,W.mg_of X G aF,m8,aX,nM,nP,uD.binds (ps:=["self","number","most"]) fun _ _ _ _ _ _ us hl=>match us,hl with | [_,_,_],_=>rfl,rfl,uD,fun f hf=>by simp only[List.mem_cons,List.not_mem_nil,or_false]at hf;rcases hf with hf|hf<;>(subst hf;first|exact d7|exact gH)⟩
  gq:=Under.mk aF aX (W.mg_of X G bL)
  aU:=HY.mk aF aU
  aZ:=HY.mk aF aZ
  uR:=⟨_,_,_,_,aG,W.mg_of X G aG,nY,aY,oG,oH,uE.binds (ps:=["self","form"]) fun _ _ _ _ _ _ us hl=>match us,hl with | [_,_],_=>rfl,rfl,uE,fun f hf=>by simp only[List.mem_cons,List.not_mem_nil,or_false]at hf;subst hf;exact gK⟩
  gw:=Under.mk aG aY (W.mg_of X G bL)
  bw:=HY.mk aG bw
  uw:=⟨_,_,_,_,aD,W.mg_of X G aD,kY,aR,lK,lM,sI.binds (ps:=["self","number"]) fun _ _ _ _ _ _ us hl=>match us,hl with | [_,_],_=>rfl,rfl,sI,fun f hf=>by simp only[List.mem_cons,List.not_mem_nil,or_false]at hf;subst hf;exact dz⟩
  fJ:=Under.mk aD aR (W.mg_of X G bL)
  aQ:=HY.mk aD aQ
  jU:=⟨_,W.mg_of X G bL,_,_,_,_,_,_,_,_,_,_,_,_,_,_,_,_,bM⟩
  uU:=⟨_,W.mg_of X G oO,Bd.no aL bD cJ cL d8,Bd.no aF aX cJ cL dD,Bd.no aG aY cJ cL dF,Bd.no aD aR cJ cL cM,Bd.no aV cD cJ cL gM⟩
  aaM:=⟨_,W.mg_of X G uf,Bd.no aL bD gO gP gQ,Bd.no aF aX gO gP fQ,Bd.no aG aY gO gP fU,Bd.no aD aR gO gP d9,Bd.no aV cD gO gP jJ⟩
  aaN:=⟨_,W.mg_of X G ug,Bd.no aL bD gR gU gW,Bd.no aF aX gR gU fV,Bd.no aG aY gR gU fW,Bd.no aD aR gR gU eE,Bd.no aV cD gR gU jK⟩
  uV:=⟨_,W.mg_of X G oR,Bd.no aL bD cN cP eF,Bd.no aF aX cN cP dG,Bd.no aG aY cN cP dH,Bd.no aD aR cN cP cQ,Bd.no aV cD cN cP gY⟩
  aaO:=⟨_,W.mg_of X G uh,Bd.no aL bD gZ iu iw,Bd.no aF aX gZ iu fX,Bd.no aG aY gZ iu fY,Bd.no aD aR gZ iu eG,Bd.no aV cD gZ iu jL⟩
  aaP:=⟨_,W.mg_of X G uo,Bd.no aL bD iy iB iC,Bd.no aF aX iy iB fZ,Bd.no aG aY iy iB f9,Bd.no aD aR iy iB eO,Bd.no aV cD iy iB jM⟩
  sU:=⟨_,W.mg_of X G aL,Bd.self aL,Bd.no aF aX iD iG eV,Bd.no aG aY iD iG eX,Bd.no aD aR iD iG dJ,Bd.no aV cD iD iG jh⟩
  pN:=⟨_,W.mg_of X G aF,Bd.no aL bD fC fD eY,Bd.self aF,Bd.no aG aY fC fD dM,Bd.no aD aR fC fD cR,Bd.no aV cD fC fD iH⟩
  acL:=⟨_,W.mg_of X G aV,Bd.no aL bD j7 j8 jj,Bd.no aF aX j7 j8 iI,Bd.no aG aY j7 j8 iJ,Bd.no aD aR j7 j8 gb,Bd.self aV⟩
  pP:=⟨_,W.mg_of X G aG,Bd.no aL bD fG fH eZ,Bd.no aF aX fG fH dN,Bd.self aG,Bd.no aD aR fG fH cT,Bd.no aV cD fG fH iK⟩
  mK:=⟨_,W.mg_of X G aD,Bd.no aL bD cY cZ dR,Bd.no aF aX cY cZ cU,Bd.no aG aY cY cZ cV,Bd.self aD,Bd.no aV cD cY cZ gk⟩
  cW:=W.mg_none_of X G cW
  yt:=tM X G h0 (by walk_at "b2")
  aaQ:=tM X G h1 (by walk_at "b2")
  uW:=tM X G h2 (by walk_at "b3")
  adL:=tM X G h3 (by walk_at "b1")
  ux:=tM X G h4 (by walk_at "b1")
  acY:=tM X G h5 (by walk_at "b4")
  lW:=tM X G h6 (by walk_at "b2")
  mL:=tM X G h7 (by walk_at "b2")
  yu:=tM X G h8 (by walk_at "b1")
  qW:=tM X G h9 (by walk_at "b1")
  aeJ:=tM X G h10 (by walk_at "b2")
  qX:=tM X G h11 (by walk_at "b2")
  adM:=tM X G h12 (by walk_at "b1")
  yw:=tM X G h13 (by walk_at "b1")
  acM:=tM X G h14 (by walk_at "b2")
  yx:=tM X G h15 (by walk_at "b1")
  acN:=tM X G h16 (by walk_at "b2")
  aaR:=tM X G h17 (by walk_at "b3")
  abM:=tM X G h18 (by walk_at "b1")
  acO:=tM X G h19 (by walk_at "b1")
  qY:=tM X G h20 (by walk_at "b1")
  mQ:=tM X G h21 (by walk_at "b1")
  yC:=tM X G h22 (by walk_at "b1")
  qZ:=tM X G h23 (by walk_at "b1")
  mR:=tM X G h24 (by walk_at "b1")
  mU:=tM X G h25 (by walk_at "b2")
  pq:=tM X G h26 (by walk_at "b2")
  pA:=tM X G h27 (by walk_at "b2")
  acP:=tM X G h28 (by walk_at "b1")
  pB:=tM X G h29 (by walk_at "b1")
  abN:=tM X G h30 (by walk_at "b1")
  yD:=tM X G h31 (by walk_at "b1")
  uX:=tM X G h32 (by walk_at "b1")
  uY:=tM X G h33 (by walk_at "b1")
  yE:=tM X G h34 (by walk_at "b2")
  q9:=tM X G h35 (by walk_at "b2")
  pC:=tM X G h36 (by walk_at "b1")
  jV:=tM X G h37 (by walk_at "b2")
  lX:=tM X G h38 (by walk_at "b2")
  rz:=tM X G h39 (by walk_at "b3")
  rA:=tM X G h40 (by walk_at "b4")
  uZ:=tM X G h41 (by walk_at "b2")
  lY:=tM X G h42 (by walk_at "b1")
  adN:=tM X G h43 (by walk_at "b1")
  yF:=tM X G h44 (by walk_at "b1")
  pD:=tM X G h45 (by walk_at "b1")
  uH:=tM X G h46 (by walk_at "b1")
  pG:=tM X G h47 (by walk_at "b2")
  acQ:=tM X G h48 (by walk_at "b1")
  mV:=tM X G h49 (by walk_at "b2")
  lZ:=tM X G h50 (by walk_at "b2")
  acR:=tM X G h51 (by walk_at "b2")
  u5:=tM X G h52 (by walk_at "b1")
  u6:=tM X G h53 (by walk_at "b3")
  uy:=tM X G h54 (by walk_at "b3")
  rB:=tM X G h55 (by walk_at "b1")
  rC:=tM X G h56 (by walk_at "b1")
  u9:=tM X G h57 (by walk_at "b2")
  rD:=tM X G h58 (by walk_at "b1")
  vd:=tM X G h59 (by walk_at "b2")
  vf:=tM X G h60 (by walk_at "b3")
  pH:=tM X G h61 (by walk_at "b3")
  mj:=tM X G h62 (by walk_at "b3")
  rE:=tM X G h63 (by walk_at "b0")
  aeK:=⟨_,_,F64,W.mg_of X G a64,F64.binds (ps:=["_law_script"]) fun _ _ _ _ _ _ us hl=>match us,hl with | [_],_=>rfl⟩
  pI:=W.mg_none_of X G pI
  aK:=W.mg_none_of X G aK
  vg:=W.mg_none_of X G vg
  yG:=W.mg_none_of X G yG
  yH:=W.mg_none_of X G yH
  jW:=W.mg_none_of X G jW
  kE:=W.mg_none_of X G kE
  yI:=W.mg_none_of X G yI
  abO:=⟨_,W.mg_of X G pU,fun H=>Em.mpr ⟨_,[.int (1),.int (0),.int (0),.int (1)],rfl,.inr ⟨_,_,_,acA,rfl,rfl,Ay (by show 4≤1000;decide),.cons ⟨_,rfl⟩ (.cons ⟨_,rfl⟩ (.cons ⟨_,rfl⟩ (.cons ⟨_,rfl⟩ (.nil))))⟩,RpL.cons (Bl.mpr rfl) (RpL.cons (Bl.mpr rfl) (RpL.cons (Bl.mpr rfl) (RpL.cons (Bl.mpr rfl) (RpL.nil))))⟩⟩
  aH:=⟨_,W.mg_of X G jO⟩
  dU:=⟨_,W.mg_of X G jm⟩
 }
 refine⟨W.fnOf "law" "law" (Dk M7) (Cp M7) (Ag M7) .none afw afx afy afz afA afB,fun s v=>.of_eq rfl,fun base kb nb=>?_⟩
 have abG:=AaQ l.prog w base T 
 have adB:=Xa l.prog w base T 
 have acB:=V7 l.prog w base T 
 have aaw:=Af1 l.prog w base T 
 have adC:=YH l.prog w base T 
 have sJ:=RM l.prog w base T 
 have iM:=Yz l.prog w base T 
 have aeE:=Ad4 l.prog w base T 
 have ael:=Abv l.prog w base T 
 have oV:=O8 l.prog w base T 
 have aax:=Sv l.prog w base T 
 have wI:=Pk l.prog w base T 
 have xZ:=QT l.prog w base T 
 have gn:=Lj l.prog w base T 
 have aay:=RK l.prog w base T 
 have aaz:=RG l.prog w base T 
 have qT:=Wt l.prog w base T 
 have sS:=R6 l.prog w base T 
 have yc:=Qt l.prog w base T 
 have abH:=Abp l.prog w base T iM
 have aem:=Abr l.prog w base T acB
 have uF:=Vc l.prog w base T aaw
 have lU:=RX l.prog w base T adC
 have yN:=YC l.prog w base T adB
 have aaA:=Sd l.prog w base T gn iM
 have aaB:=Rz l.prog w base T gn iM
 have acC:=Vt l.prog w base T sS qT
 have acD:=Vf l.prog w base T sS qT
 have uM:=Nj l.prog w base T yc qT
 have j9:=M8 l.prog w base T 
 have jo:=Nh l.prog w base T 
 have afi:=AjB l.prog w base T lU
 have ae1:=Afz l.prog w base T lU
 have acV:=Adc l.prog w base T lU aeE ael
 have aaC:=AdV l.prog w base T iM uF
 have jR:=Pa l.prog w base T yN
 have uN:=N6 l.prog w base T aem gn
 have iQ:=M9 l.prog w base T uF
 have yd:=Qe l.prog w base T yN
 have aaD:=Ss l.prog w base T aaC
 have mz:=NP l.prog w base T j9 aaC iM
 have wJ:=Pj mz
 have pK:=Rh l.prog w base T xZ acV sJ
 have acE:=Vu l.prog w base T afi
 have yg:=Ro l.prog w base T yd oV aaw
 have adD:=Yx l.prog w base T aaD oV aax acV sJ
 have aeF:=Ab7 l.prog w base T wJ aaw iM wI pK
 have aeG:=Acq l.prog w base T abH adD
 have yh:=QW l.prog w base T aaw aeF pK iM
 have acF:=Wo l.prog w base T mz yh
 have acG:=Vo l.prog w base T abH acF
 have qU:=VN l.prog w base T iQ jo yg
 have adE:=Xl qU
 have jX:=T6 l.prog w base T aeG acG aaC
 have wK:=VF jX
 have acH:=W2 l.prog w base T wK
 have yj:=Rv l.prog w base T jX jR
 have wL:=VP l.prog w base T abG yj uN aaA acE wK ae1 aaB
 have uq:=Yr wL
 have aaE:=AbM l.prog w base T iQ j9 acH
 have ae2:=Afu aaE
 have mC:=Nu l.prog w base T uq
 have wM:=Ph l.prog w base T mC
 have aen:=AaK l.prog w base T jX jR
 have uG:=Uj l.prog w base T abG jX jo jR aaE mC
 have acI:=Vk uG
 have abI:=AaX l.prog w base T iQ jo qU wM
 have aeH:=AdY abI
 have abJ:=UL l.prog w base T abI wL aen uG aaE qU
 have aaF:=R7 l.prog w base T ae2 acI uq aeH adE
 have abK:=U7 l.prog w base T abJ
 have afj:=AjL l.prog w base T aaF abK acC acD uM aay aaz uq
 obtain⟨f,fd,FT,GG⟩:=afj
 have e1:=FT.mg.symm.trans (W.mg_of X G a64)
 cases e1
 have e2:=FT.fn.uniq F64
 subst e2
 exact GG
theorem walk{l:W.OpenLaw}{q:Program}{loose:List Str}{XP:(Str→Option Value)→Heap→Prop}{YP:World→Heap→Prop}{d:DefRec}{K:Params→W.Frag}(hn:l.most=some 63)(hdf:d.params.defaults=[])
  (hY:∀(w:World)(h:Heap),YP w h→(K w.params).In h)
  (F:∀(w:World)(mg:Str→Option Value)(fa:Addr)(h:Heap),(K w.params).In h→h.Ns mainGlobals mg→mg d.name=some (.ref fa) →
   ∃fd:FuncData,(∀(s:Shared)(u:Value),BindsTo s fd ⟨[u],[]⟩ [("_law_script",u)])∧∀base:Heap,(K w.params).In base→base.Ns mainGlobals mg→El l.prog w (K w.params) mg base CX0 18 fa fd ["_law_script"] (lSp (K w.params) Ul)) :
  W.WalkO q loose XP YP l.row.toRowW d [] (fun f vs=>PySem.call f vs) :=
 L2.Ae4 (n:=63) (k:=18) (x:="_law_script") (CX:=fun _=>CX0) (sp:=fun w=>lSp (K w.params) Ul) hn (by decide) hdf ⟨rfl,by decide,by decide⟩ hY F (fun w H a ns hl _ hS=>Abg hl hS) fun _ _ _ _ _ z=>z
end My
open PySem W PyProof.Rows
local macro_rules | `(tactic| walk_at "nF") => `(tactic| (refine' My.Aho ?qa ?ql ?qc ?qk; (case qa => k_is); (case ql => k_is); (case qc => k_is); (case qk => k_is)))
theorem My.hFk{K:W.Frag}{n:PySem.Str}{s:PySem.Stmt}(f:PySem.Addr)(m:String)(t c:Nat)(a:W.nsIn K PySem.mainGlobals n=some (some (.ref f)):=by kernel_rfl)(l:K.lookup f=some ⟨.type "function",none,.func (W.fnOf n n (L2.Dk s) (L2.Cp s) (L2.Ag s) .none .none .none (.str (.ofString m) t) none (.ref c) .none),#[]⟩:=by kernel_rfl)(d:W.codeIn K (.ref c) n=true:=by kernel_rfl)(k:W.keepIn K (.ref f)=true:=by kernel_rfl):My.nF K n s:=My.Aho a l d k
theorem My.hF0(P:PySem.Params):My.nF (My.KK P) "divisor" My.HB:=My.hFk 236 "formcycle.wholes" 473 235
theorem My.hF1(P:PySem.Params):My.nF (My.KK P) "shares" My.Jo:=My.hFk 243 "formcycle.wholes" 473 242
theorem My.hF2(P:PySem.Params):My.nF (My.KK P) "row_less" My.GJ:=My.hFk 250 "formcycle.wholes" 473 249
theorem My.hF3(P:PySem.Params):My.nF (My.KK P) "root" My.JB:=My.hFk 257 "formcycle.wholes" 473 256
theorem My.hF4(P:PySem.Params):My.nF (My.KK P) "is_square" My.Ey:=My.hFk 264 "formcycle.wholes" 473 263
theorem My.hF5(P:PySem.Params):My.nF (My.KK P) "powered" My.NZ:=My.hFk 271 "formcycle.wholes" 473 270
theorem My.hF6(P:PySem.Params):My.nF (My.KK P) "check_at_most" My.Cz:=My.hFk 278 "formcycle.wholes" 473 277
theorem My.hF7(P:PySem.Params):My.nF (My.KK P) "check_within" My.Cu:=My.hFk 285 "formcycle.wholes" 473 284
theorem My.hF8(P:PySem.Params):My.nF (My.KK P) "is_turn" My.HN:=My.hFk 293 "formcycle.turns" 549 292
theorem My.hF9(P:PySem.Params):My.nF (My.KK P) "check_turn" My.Di:=My.hFk 300 "formcycle.turns" 549 299
theorem My.afC(P:PySem.Params):My.nF (My.KK P) "led" My.Tv:=My.hFk 307 "formcycle.turns" 549 306
theorem My.afD(P:PySem.Params):My.nF (My.KK P) "put_behind" My.DY:=My.hFk 314 "formcycle.turns" 549 313
theorem My.afE(P:PySem.Params):My.nF (My.KK P) "back" My.Np:=My.hFk 321 "formcycle.turns" 549 320
theorem My.afF(P:PySem.Params):My.nF (My.KK P) "measure" My.Dg:=My.hFk 328 "formcycle.forms" 593 327
theorem My.afG(P:PySem.Params):My.nF (My.KK P) "value" My.Kz:=My.hFk 335 "formcycle.forms" 593 334
theorem My.afH(P:PySem.Params):My.nF (My.KK P) "content" My.Gz:=My.hFk 342 "formcycle.forms" 593 341
theorem My.afI(P:PySem.Params):My.nF (My.KK P) "moved" My.JK:=My.hFk 349 "formcycle.forms" 593 348
theorem My.afJ(P:PySem.Params):My.nF (My.KK P) "middle" My.Jl:=My.hFk 356 "formcycle.forms" 593 355
theorem My.afK(P:PySem.Params):My.nF (My.KK P) "opposite" My.LC:=My.hFk 363 "formcycle.forms" 593 362
theorem My.afL(P:PySem.Params):My.nF (My.KK P) "shape" My.Iu:=My.hFk 370 "formcycle.forms" 593 369
theorem My.afM(P:PySem.Params):My.nF (My.KK P) "check_bowl" My.Fb:=My.hFk 377 "formcycle.bowls" 654 376
theorem My.afN(P:PySem.Params):My.nF (My.KK P) "stands_least" My.CT:=My.hFk 384 "formcycle.bowls" 654 383
theorem My.afO(P:PySem.Params):My.nF (My.KK P) "settled" My.HD:=My.hFk 391 "formcycle.bowls" 654 390
theorem My.afP(P:PySem.Params):My.nF (My.KK P) "turn_lower" My.Ft:=My.hFk 398 "formcycle.bowls" 654 397
theorem My.afQ(P:PySem.Params):My.nF (My.KK P) "check_saddle" My.Ce:=My.hFk 405 "formcycle.saddles" 690 404
theorem My.afR(P:PySem.Params):My.nF (My.KK P) "stands_level" My.Dw:=My.hFk 412 "formcycle.saddles" 690 411
theorem My.afS(P:PySem.Params):My.nF (My.KK P) "turn_behind" My.Eh:=My.hFk 419 "formcycle.saddles" 690 418
theorem My.afT(P:PySem.Params):My.nF (My.KK P) "stop_behind" My.Dp:=My.hFk 426 "formcycle.saddles" 690 425
theorem My.afU(P:PySem.Params):My.nF (My.KK P) "eased" My.Ku:=My.hFk 433 "formcycle.saddles" 690 432
theorem My.afV(P:PySem.Params):My.nF (My.KK P) "stops_round" My.Ei:=My.hFk 440 "formcycle.saddles" 690 439
theorem My.afW(P:PySem.Params):My.nF (My.KK P) "round_of" My.LQ:=My.hFk 445 "formcycle.saddles" 690 444
theorem My.afX(P:PySem.Params):My.nF (My.KK P) "lowered" My.Hy:=My.hFk 452 "formcycle.saddles" 690 451
theorem My.afY(P:PySem.Params):My.nF (My.KK P) "shape_of" My.CG:=My.hFk 539 "formcycle.shapes" 763 538
theorem My.afZ(P:PySem.Params):My.nF (My.KK P) "least_of" My.GP:=My.hFk 546 "formcycle.shapes" 763 545
theorem My.af0(P:PySem.Params):My.nF (My.KK P) "product" My.Dv:=My.hFk 553 "formcycle.products" 882 552
theorem My.af2(P:PySem.Params):My.nF (My.KK P) "check_pair" My.Fv:=My.hFk 560 "formcycle.products" 882 559
theorem My.af3(P:PySem.Params):My.nF (My.KK P) "check_plain" My.CJ:=My.hFk 567 "formcycle.products" 882 566
theorem My.af4(P:PySem.Params):My.nF (My.KK P) "half_of_middles" My.BP:=My.hFk 574 "formcycle.products" 882 573
theorem My.af5(P:PySem.Params):My.nF (My.KK P) "common_shares" My.Dh:=My.hFk 581 "formcycle.products" 882 580
theorem My.af6(P:PySem.Params):My.nF (My.KK P) "joint_form" My.Fe:=My.hFk 588 "formcycle.products" 882 587
theorem My.af7(P:PySem.Params):My.nF (My.KK P) "joint_rows" My.Fo:=My.hFk 595 "formcycle.products" 882 594
theorem My.af8(P:PySem.Params):My.nF (My.KK P) "rows_led" My.DN:=My.hFk 600 "formcycle.products" 882 599
theorem My.af9(P:PySem.Params):My.nF (My.KK P) "check_measure" My.Cj:=My.hFk 607 "formcycle.classes" 968 606
theorem My.aga(P:PySem.Params):My.nF (My.KK P) "unit" My.Jb:=My.hFk 614 "formcycle.classes" 968 613
theorem My.agb(P:PySem.Params):My.nF (My.KK P) "classes" My.Ef:=My.hFk 621 "formcycle.classes" 968 620
theorem My.agc(P:PySem.Params):My.nF (My.KK P) "least_bowls" My.Dn:=My.hFk 626 "formcycle.classes" 968 625
theorem My.agd(P:PySem.Params):My.nF (My.KK P) "least_saddles" My.Hf:=My.hFk 633 "formcycle.classes" 968 632
theorem My.agf(P:PySem.Params):My.nF (My.KK P) "plain_forms" My.Dq:=My.hFk 638 "formcycle.classes" 968 637
theorem My.agg(P:PySem.Params):My.nF (My.KK P) "table" My.GZ:=My.hFk 643 "formcycle.classes" 968 642
theorem My.agh(P:PySem.Params):My.nF (My.KK P) "row_of_table" My.CQ:=My.hFk 648 "formcycle.classes" 968 647
theorem My.agi(P:PySem.Params):My.nF (My.KK P) "least_product" My.Cy:=My.hFk 655 "formcycle.classes" 968 654
theorem My.agj(P:PySem.Params):My.nF (My.KK P) "power" My.Ko:=My.hFk 662 "formcycle.classes" 968 661
theorem My.agk(P:PySem.Params):My.nF (My.KK P) "order_of" My.DX:=My.hFk 669 "formcycle.classes" 968 668
theorem My.agl(P:PySem.Params):My.nF (My.KK P) "_law_ask" My.GX:=My.hFk 676 "law_formcycle_k49_no_product" 1059 675
theorem My.agm(P:PySem.Params):My.nF (My.KK P) "_law_told" My.Gb:=My.hFk 683 "law_formcycle_k49_no_product" 1059 682
theorem My.agn(P:PySem.Params):My.nF (My.KK P) "_law_kinds" My.Fj:=My.hFk 690 "law_formcycle_k49_no_product" 1059 689
theorem My.ago(P:PySem.Params):My.nF (My.KK P) "_law_field" My.Fd:=My.hFk 697 "law_formcycle_k49_no_product" 1059 696
theorem My.agp(P:PySem.Params):My.nF (My.KK P) "_law_due" My.Ea:=My.hFk 702 "law_formcycle_k49_no_product" 1059 701
theorem My.agq(P:PySem.Params):My.nF (My.KK P) "_law_forms" My.DQ:=My.hFk 709 "law_formcycle_k49_no_product" 1059 708
theorem My.agr(P:PySem.Params):My.nF (My.KK P) "_law_two" My.GR:=My.hFk 716 "law_formcycle_k49_no_product" 1059 715
theorem My.ags(P:PySem.Params):My.nF (My.KK P) "_law_one" My.Gw:=My.hFk 723 "law_formcycle_k49_no_product" 1059 722
theorem My.agt(P:PySem.Params):My.nF (My.KK P) "_law_number" My.Ed:=My.hFk 730 "law_formcycle_k49_no_product" 1059 729
theorem My.agu(P:PySem.Params):My.nF (My.KK P) "_law_numbered" My.Df:=My.hFk 737 "law_formcycle_k49_no_product" 1059 736
theorem My.agv(P:PySem.Params):My.nF (My.KK P) "_law_edges" My.Fg:=My.hFk 744 "law_formcycle_k49_no_product" 1059 743
theorem My.agw(P:PySem.Params):My.nF (My.KK P) "law" My.M7:=My.hFk 751 "law_formcycle_k49_no_product" 1059 750
set_option maxRecDepth 100000 in
set_option maxHeartbeats 0 in
theorem PySem.Challenge.cw_formcycle_k49_no_product_holds : PySem.Challenge.rw_formcycle_k49_no_product.Holds := by
 w_on
 refine holds_law My.said0 fun said=>?_
 refine holds_open (r:=PySem.Challenge.rw_formcycle_k49_no_product.row) (q:=My.vw) (loose:=[]) (Xt:=fun s=>xlAt My.vw [] s&&recOk (RowW.records (PySem.Challenge.rw_formcycle_k49_no_product.row.toRowW)) s) (XP:=XL My.vw []) (Yf:=Hook.obs (kHook My.KK My.asK (fun _=>by kernel_rfl))) (Ya:=Hook.val (kHook My.KK My.asK (fun _=>by kernel_rfl))) (YP:=Hook.says (kHook My.KK My.asK (fun _=>by kernel_rfl))) (N:=5843) My.hl (Hook.of (kHook My.KK My.asK (fun _=>by kernel_rfl))) (Hook.keeps (kHook My.KK My.asK (fun _=>by kernel_rfl))) (fun s e=>xl_of s (Bool.and_eq_true_iff.mp e).1) XL.keeps (by rfl) (by rfl) (by rfl) (fun s e=>recFacts_of (Bool.and_eq_true_iff.mp e).2) (by rfl) said (by decide +kernel) ⟨rfl,rfl,rfl,rfl,rfl,by decide +kernel⟩ ?hw ?hc
 (case hw=>w_witness2)
 k_fill
 refine My.walk (l:=PySem.Challenge.rw_formcycle_k49_no_product) rfl rfl (fun w h Y=>PySem.W.kIn_of Y) ?F
 case F =>
  intro w mg fa h KX G hmg
  refine' My.all_mk KX G hmg (My.hF0 _) (My.hF1 _) (My.hF2 _) (My.hF3 _) (My.hF4 _) (My.hF5 _) (My.hF6 _) (My.hF7 _) (My.hF8 _) (My.hF9 _) (My.afC _) (My.afD _) (My.afE _) (My.afF _) (My.afG _) (My.afH _) (My.afI _) (My.afJ _) (My.afK _) (My.afL _) (My.afM _) (My.afN _) (My.afO _) (My.afP _) (My.afQ _) (My.afR _) (My.afS _) (My.afT _) (My.afU _) (My.afV _) (My.afW _) (My.afX _) (My.afY _) (My.afZ _) (My.af0 _) (My.af2 _) (My.af3 _) (My.af4 _) (My.af5 _) (My.af6 _) (My.af7 _) (My.af8 _) (My.af9 _) (My.aga _) (My.agb _) (My.agc _) (My.agd _) (My.agf _) (My.agg _) (My.agh _) (My.agi _) (My.agj _) (My.agk _) (My.agl _) (My.agm _) (My.agn _) (My.ago _) (My.agp _) (My.agq _) (My.agr _) (My.ags _) (My.agt _) (My.agu _) (My.agv _) (My.agw _) ?pI ?aK ?vg ?yG ?yH ?jW ?kE ?yI ?cW ?bL ?bM ?bR ?bT ?bU ?aV ?rZ ?vI ?vJ ?vK ?vL ?vM ?vN ?vO ?vP ?vQ ?vR ?aL ?qp ?qt ?qu ?qw ?qx ?qy ?qz ?qC ?qD ?qF ?qG ?qH ?qI ?jf ?bC ?aF ?m7 ?m8 ?m9 ?nq ?nu ?nA ?nH ?nJ ?nM ?nP ?nQ ?nR ?nU ?d7 ?aU ?gH ?aZ ?aG ?nW ?nY ?nZ ?n6 ?n8 ?oh ?ou ?oE ?oG ?oH ?oJ ?oK ?oM ?gK ?bw ?aD ?kW ?kY ?kZ ?lq ?lB ?lC ?lH ?lJ ?lK ?lM ?lN ?lQ ?lR ?dz ?aQ ?vV ?vW ?vX ?vY ?vZ ?v7 ?sG ?iT ?aap ?aaq ?aar ?aas ?v9 ?wg ?wj ?wk ?wu ?wz ?wA ?wB ?aat ?aau ?wC ?iU ?cX ?dW ?bY ?tW ?tX ?tY ?tZ ?qJ ?qK ?qL ?qM ?qN ?qO ?qP ?qQ ?uc ?ud ?qR ?dX ?bV ?cA ?jY ?jg ?sH ?wF ?wG ?j6 ?oO ?cJ ?cL ?d8 ?dD ?dF ?cM ?gM ?uf ?gO ?gP ?gQ ?fQ ?fU ?d9 ?jJ ?ug ?gR ?gU ?gW ?fV ?fW ?eE ?jK ?oR ?cN ?cP ?eF ?dG ?dH ?cQ ?gY ?uh ?gZ ?iu ?iw ?fX ?fY ?eG ?jL ?uo ?iy ?iB ?iC ?fZ ?f9 ?eO ?jM ?iD ?iG ?eV ?eX ?dJ ?jh ?fC ?fD ?eY ?dM ?cR ?iH ?j7 ?j8 ?jj ?iI ?iJ ?gb ?fG ?fH ?eZ ?dN ?cT ?iK ?cY ?cZ ?dR ?cU ?cV ?gk ?pU ?acA ?jO ?jm
  case pI|aK|vg|yG|yH|jW|kE|yI|cW|bL|bM|bR=>as_aux_lemma=>k_is
  (case bT=>rfl)
  (case bU=>rfl)
  case aV|rZ|vI=>as_aux_lemma=>k_is
  (case vJ=>rfl)
  (case vK=>rfl)
  case vL|vM|vN|vO|vP|vQ|vR|aL|qp|qt|qu|qw|qx|qy|qz|qC|qD|qF|qG|qH|qI|jf|bC|aF|m7|m8|m9|nq|nu|nA|nH|nJ|nM|nP|nQ|nR|nU|d7|aU|gH|aZ|aG|nW|nY|nZ|n6|n8|oh|ou|oE|oG|oH|oJ|oK|oM|gK|bw|aD|kW|kY|kZ|lq|lB|lC|lH|lJ|lK|lM|lN|lQ|lR|dz|aQ|vV|vW|vX|vY|vZ|v7|sG|iT|aap|aaq|aar|aas|v9|wg|wj|wk|wu|wz|wA|wB|aat|aau|wC|iU|cX|dW|bY|tW|tX|tY|tZ|qJ|qK|qL|qM|qN|qO|qP|qQ|uc|ud|qR|dX|bV|cA|jY|jg|sH|wF|wG|j6|oO|cJ|cL|d8|dD|dF|cM|gM|uf|gO|gP|gQ|fQ|fU|d9|jJ|ug|gR|gU|gW|fV|fW|eE|jK|oR|cN|cP|eF|dG|dH|cQ|gY|uh|gZ|iu|iw|fX|fY|eG|jL|uo|iy|iB|iC|fZ|f9|eO|jM|iD|iG|eV|eX|dJ|jh|fC|fD|eY|dM|cR|iH|j7|j8|jj|iI|iJ|gb|fG|fH|eZ|dN|cT|iK|cY|cZ|dR|cU|cV|gk|pU|acA|jO|jm=>as_aux_lemma=>k_is
