import PyProof.Rows.All
import Wide.All
import OpenK.AllK
import Wide.FinOn
import Lean
import PyProof.EqAt
import PyProof.EqKinds
import PyProof.TupleCall
import PySem.Challenge.RW_formcycle_k48_orders_and_powers
set_option Elab.async false
set_option linter.all false
set_option maxRecDepth 100000
set_option maxRecDepth 1000000
set_option maxHeartbeats 0
theorem My.said0:PySem.Challenge.rw_formcycle_k48_orders_and_powers.wellSaid=true:=by kernel_rfl
namespace My
open PySem PySem.W
noncomputable def U3 (tb:String→Option Builtin) (p:Program) (w:World) (m:Nat) (ann:Option Value):Nat→SharedT→Thread→Option SharedT
 | 0,_,_=>none
 | k+1,s,t=>match through t with
  | true=>some s
  | false=>match stepOk m ann t with
   | false=>none
   | true=>match stepT (denote tb) p w s t with
    | some (s',t')=>U3 tb p w m ann k s' t'
    | none=>none
theorem Sw {tb:String→Option Builtin} {p:Program} {w:World} {m:Nat} {ann:Option Value}:∀ (k:Nat) {s r:SharedT} {t:Thread},U3 tb p w m ann k s t=some r→topRun tb p w m ann k s.abs t=some r.abs
 | 0,s,r,t,h=>by cases h
 | k+1,s,r,t,h=>by
  unfold U3 at h
  unfold topRun
  cases e:through t with
  | true =>
   rw [e] at h
   cases h
   rfl
  | false =>
   rw [e] at h
   dsimp only at h ⊢
   cases e2:stepOk m ann t with
   | false=>rw [e2] at h;cases h
   | true =>
    rw [e2] at h
    dsimp only at h ⊢
    cases e3:stepT (denote tb) p w s t with
    | none=>rw [e3] at h;cases h
    | some st =>
     obtain ⟨s',t'⟩:=st
     rw [e3] at h
     rw [stepT_spec e3]
     exact Sw k h
noncomputable def Afa:List Obj→Nat→BT→BT
 | [],_,t=>t
 | o :: os,n,t=>Afa os (n+1) (t.ins n o)
noncomputable def RT (w:World) (os:OsState):SharedT:=⟨Afa (boot_heap w.params).objs.toList 0 .nil,(boot_heap w.params).objs.size,(boot_heap w.params).life,Array.mk [],boot_drawn,boot_toks,os⟩
noncomputable def BJ (w:World) (os:OsState):Shared:=⟨boot_heap w.params,Array.mk [],boot_drawn,boot_toks,os⟩
noncomputable def stays (p:Program) (s₀ s₁:Shared):Bool:=staticsOk (importedModules p.main.body) s₀.heap s₁.heap && namesBound p s₁.heap && gensDone s₁ && laidKept s₀.heap s₁.heap
theorem boot_abs:∀ w os,(RT w os).abs=BJ w os:=fun w os=>by kernel_rfl
theorem Ack {p:Program} {w:World} {N:Nat} {α:Type} {F:Shared→α} {g:α} (e:opening p=plainProg p.main.scope.names) (hN:Nat.ble 600 N=true) (f:∀ s,fenceModules? p s=some s)
  (h:∀ os,(U3 treeTable p w (BJ w os).heap.objs.size ((BJ w os).heap.nsMap mainGlobals "__annotations__") N (RT w os) (topStub p)).map (fun r=>(stays p (BJ w os) r.abs,F r.abs))=some (true,g))
  (h0:∀ os,((BJ w os).heap.isNs mainGlobals && (BJ w os).gens.size == 0)=true):(openEnds treeTable p w N).map F=some g:=by
 have hb:=boot_open e hN f w
 unfold openEnds
 cases q:fencedOpening treeTable p w N with
 | none=>rw [q] at hb;cases hb
 | some s =>
  rw [q] at hb
  have hs:s=BJ w s.os:=by
   obtain ⟨a,b,c,d,o⟩:=s
   simp only [Option.map_some,Option.some.injEq,Prod.mk.injEq] at hb
   obtain ⟨rfl,rfl,rfl,rfl⟩:=hb
   rfl
  generalize s.os=o at hs
  subst hs
  show (topFrom treeTable p w N (BJ w o)).map F=some g
  unfold topFrom
  rw [h0 o]
  have hh:=h o
  cases q2:U3 treeTable p w (BJ w o).heap.objs.size ((BJ w o).heap.nsMap mainGlobals "__annotations__") N (RT w o) (topStub p) with
  | none=>rw [q2] at hh;cases hh
  | some r =>
   rw [q2] at hh
   have hr:=Sw N q2
   rw [boot_abs] at hr
   simp only [Option.map_some,Option.some.injEq,Prod.mk.injEq] at hh
   obtain ⟨h1,h2⟩:=hh
   unfold stays at h1
   dsimp only
   rw [hr]
   show (match staticsOk (importedModules p.main.body) (BJ w o).heap r.abs.heap && namesBound p r.abs.heap && gensDone r.abs && laidKept (BJ w o).heap r.abs.heap with
    | true=>some r.abs
    | false=>none).map F=some g
   rw [h1]
   exact congrArg some h2
noncomputable def TR (p:Program) (w:World) (os:OsState) (N:Nat):Option SharedT:=U3 treeTable p w (BJ w os).heap.objs.size ((BJ w os).heap.nsMap mainGlobals "__annotations__") N (RT w os) (topStub p)
theorem Aig {p:Program} {w:World} {N:Nat} {α β:Type} {F:Shared→α} {G:Shared→β} {f':α} {g':β} (e:opening p=plainProg p.main.scope.names) (hN:Nat.ble 600 N=true) (f:∀ s,fenceModules? p s=some s)
  (h1:∀ os,(TR p w os N).map (fun r=>stays p (BJ w os) r.abs)=some true) (h2:∀ os,(TR p w os N).map (fun r=>F r.abs)=some f') (h3:∀ os,(TR p w os N).map (fun r=>G r.abs)=some g')
  (h0:∀ os,((BJ w os).heap.isNs mainGlobals && (BJ w os).gens.size == 0)=true):(openEnds treeTable p w N).map (fun s=>(F s,G s))=some (f',g') :=
 Ack (F:=fun s=>(F s,G s)) e hN f (fun os=>by
  have a:=h1 os
  have b:=h2 os
  have c:=h3 os
  unfold TR at a b c
  revert a b c
  generalize U3 treeTable p w (BJ w os).heap.objs.size ((BJ w os).heap.nsMap mainGlobals "__annotations__") N (RT w os) (topStub p)=o
  intro a b c
  cases o with
  | none=>cases a
  | some r =>
   simp only [Option.map_some,Option.some.injEq] at a b c ⊢
   rw [a,b,c]) h0
end My
namespace My
open PySem PySem.W
noncomputable def goT (tb:String→Option Builtin) (p:Program) (w:World) (m:Nat) (ann:Option Value):Nat→SharedT→Thread→Option (SharedT × Thread)
 | 0,s,t=>some (s,t)
 | k+1,s,t=>match through t with
  | true=>none
  | false=>match stepOk m ann t with
   | false=>none
   | true=>match stepT (denote tb) p w s t with
    | some (s',t')=>goT tb p w m ann k s' t'
    | none=>none
theorem Aa6 {tb:String→Option Builtin} {p:Program} {w:World} {m:Nat} {ann:Option Value}:∀ (k:Nat) {s s':SharedT} {t t':Thread},goT tb p w m ann k s t=some (s',t')→topGo tb p w m ann k s.abs t=some (s'.abs,t')
 | 0,s,s',t,t',h=>by cases h;rfl
 | k+1,s,s',t,t',h=>by
  unfold goT at h
  unfold topGo
  cases e:through t with
  | true=>rw [e] at h;cases h
  | false =>
   rw [e] at h
   dsimp only at h ⊢
   cases e2:stepOk m ann t with
   | false=>rw [e2] at h;cases h
   | true =>
    rw [e2] at h
    dsimp only at h ⊢
    cases e3:stepT (denote tb) p w s t with
    | none=>rw [e3] at h;cases h
    | some st =>
     obtain ⟨s2,t2⟩:=st
     rw [e3] at h
     rw [stepT_spec e3]
     exact Aa6 k h
theorem Aa0 {p:Program} {w:World} {N:Nat} {α:Type} {F:Shared→α} {g:α} (e:opening p=plainProg p.main.scope.names) (hN:Nat.ble 600 N=true) (f:∀ s,fenceModules? p s=some s)
  (h:∀ os,∃ r:Shared,topRun treeTable p w (BJ w os).heap.objs.size ((BJ w os).heap.nsMap mainGlobals "__annotations__") N (BJ w os) (topStub p)=some r∧stays p (BJ w os) r=true∧F r=g)
  (h0:∀ os,((BJ w os).heap.isNs mainGlobals && (BJ w os).gens.size == 0)=true):(openEnds treeTable p w N).map F=some g:=by
 have hb:=boot_open e hN f w
 unfold openEnds
 cases q:fencedOpening treeTable p w N with
 | none=>rw [q] at hb;cases hb
 | some s =>
  rw [q] at hb
  have hs:s=BJ w s.os:=by
   obtain ⟨a,b,c,d,o⟩:=s
   simp only [Option.map_some,Option.some.injEq,Prod.mk.injEq] at hb
   obtain ⟨rfl,rfl,rfl,rfl⟩:=hb
   rfl
  generalize s.os=o at hs
  subst hs
  show (topFrom treeTable p w N (BJ w o)).map F=some g
  unfold topFrom
  rw [h0 o]
  obtain ⟨r,hr,h1,h2⟩:=h o
  unfold stays at h1
  dsimp only
  rw [hr]
  show (match staticsOk (importedModules p.main.body) (BJ w o).heap r.heap && namesBound p r.heap && gensDone r && laidKept (BJ w o).heap r.heap with
   | true=>some r
   | false=>none).map F=some g
  rw [h1]
  exact congrArg some h2
theorem AbL {p:Program} {w:World} {N:Nat} {α β:Type} {F:Shared→α} {G:Shared→β} {f':α} {g':β} {TL:OsState→Option SharedT} (e:opening p=plainProg p.main.scope.names) (hN:Nat.ble 600 N=true) (f:∀ s,fenceModules? p s=some s)
  (hr:∀ os r,TL os=some r→topRun treeTable p w (BJ w os).heap.objs.size ((BJ w os).heap.nsMap mainGlobals "__annotations__") N (BJ w os) (topStub p)=some r.abs)
  (h1:∀ os,(TL os).map (fun r=>stays p (BJ w os) r.abs)=some true) (h2:∀ os,(TL os).map (fun r=>F r.abs)=some f') (h3:∀ os,(TL os).map (fun r=>G r.abs)=some g')
  (h0:∀ os,((BJ w os).heap.isNs mainGlobals && (BJ w os).gens.size == 0)=true):(openEnds treeTable p w N).map (fun s=>(F s,G s))=some (f',g') :=
 Aa0 (F:=fun s=>(F s,G s)) e hN f (fun os=>by
  have a:=h1 os
  have b:=h2 os
  have c:=h3 os
  have d:=hr os
  cases q:TL os with
  | none=>rw [q] at a;cases a
  | some r =>
   rw [q] at a b c
   simp only [Option.map_some,Option.some.injEq] at a b c
   exact ⟨_,d r q,a,by rw [b,c]⟩) h0
end My
set_option maxRecDepth 1000000
set_option maxHeartbeats 0
namespace My
open PySem PySem.W
noncomputable def tp (i:Nat):Stmt:=PySem.Challenge.pw_formcycle_k48_orders_and_powers.main.body.getD i (.Pass ⟨0,0,0,0⟩)
noncomputable def fA (s:Stmt):Arguments:=match s with
 | .FunctionDef _ a _ _ _ _ _ _ _ _=>a
 | _=>⟨[],[],none,[],[],none,[]⟩
noncomputable def fB (s:Stmt):List Stmt:=match s with
 | .FunctionDef _ _ b _ _ _ _ _ _ _=>b
 | _=>[]
noncomputable def fS (s:Stmt):Scope:=match s with
 | .FunctionDef _ _ _ _ _ _ c _ _ _=>c
 | _=>⟨.function,[],false,false,[]⟩
noncomputable def inC (s:Stmt) (j:Nat):Stmt:=match s with
 | .ClassDef _ _ _ b _ _ _ _ _ _ _=>b.getD j (.Pass ⟨0,0,0,0⟩)
 | _=>.Pass ⟨0,0,0,0⟩
noncomputable section
noncomputable abbrev O:=Obj
noncomputable abbrev sT (s:String) (t:Nat):Value:=.str (.ofString s) t
noncomputable abbrev iZ (n:Int):Value:=.int n 0
noncomputable abbrev dE (P:Params) (s:String) (t:Nat) (v:Value):DictEntry:=.mk (PyData.keyHash P (.ofString s)) (.str (.ofString s) t) v
noncomputable abbrev fO (n q:String) (w:Stmt) (m:String) (t c:Nat):Obj:=.mk (.type "function") none (Data.func (FuncData.mk (.ofString n) (.ofString q) (fA w) (.stmts (fB w)) (fS w) 3 [] .none .none .none (.str (.ofString m) t) none (.ref c) .none 0)) #[]
noncomputable abbrev tO (a:Array Value):Obj:=.mk (.type "tuple") none (Data.seq a) #[]
noncomputable abbrev cO (a:Array Value):Obj:=.mk (.type "code") none (Data.fields a) #[]
noncomputable abbrev nO (a:Array Value):Obj:=.mk .none none (Data.fields a) #[]
noncomputable abbrev mO (a:Array DictEntry):Obj:=.mk (.type "dict") none (Data.dict a) #[]
noncomputable abbrev bO (a:Array Value):Obj:=.mk (.type "builtin_function_or_method") none (Data.fields a) #[]
noncomputable abbrev Lf (o:Obj):BT:=.node o .nil .nil
noncomputable abbrev Nd (o:Obj) (l r:BT):BT:=.node o l r
noncomputable abbrev sF (t:Nat):Value:=.str (.ofString "/claim/cut.py") t
noncomputable def tE:Obj:=.mk (.type "tuple") none (Data.seq #[]) #[]
noncomputable abbrev cF (n q:String) (a l k r t:Nat):Obj:=.mk (.type "code") none (Data.fields #[.str (.ofString n) a,.str (.ofString q) (a+1),.str (.ofString "/claim/cut.py") (a+2),.int l 0,.int k 0,.int 0 0,.int 0 0,.int 3 0,.ref r,.bool true,.int 181 0,.ref (r+1),.none,.ref (r+2),.ref (r+3),.ref (r+4),.int t 0,.int l 0,.str (.ofString "/claim/cut.py") (t+1)]) #[]
noncomputable abbrev pO (n q:String) (w:Stmt) (c:Nat):Obj:=.mk .none none (Data.func (FuncData.mk (.ofString n) (.ofString q) (fA w) (.stmts (fB w)) (fS w) 3 [] .none .none .none .none none (.ref c) .none 0)) #[]
noncomputable abbrev rO (c l:Nat) (m:String) (t:Nat):Obj:=.mk (.type "frame") none Data.plain #[some (.ref c),some (.ref 3),some (.ref l),none,some (.str (.ofString m) t),none,some (.ref 0)]
noncomputable abbrev sO (c:Nat):Obj:=.mk (.type "super") none (Data.fields #[.ref c,.ref c,.ref c]) #[]
noncomputable abbrev dO (a:Array DictEntry) (n:Nat):Obj:=.mk (.type "dict") none (Data.dict a n) #[]
noncomputable abbrev xO (n:String) (b c d e t u:Nat):Obj:=.mk (.type "type") none (Data.cls (ClassData.mk (.ofString n) [.ref b] [.ref c,.ref b,.type "ValueError",.type "Exception",.type "BaseException",.type "object"] d (.ofString n) true [] [] false none false)) #[some (.ref e),none,some (.str (.ofString n) t),some (.str (.ofString n) u),some (.builtin "ValueError.__new__"),some (.bool true)]
noncomputable def o2:O:=.mk .none none (Data.dict #[]) #[]
noncomputable def o3 (P:Params):O:=dO #[dE P "__name__" 165 (sT "law_formcycle_k48_orders_and_powers" 954),dE P "__doc__" 166 .none,dE P "__package__" 167 .none,dE P "__loader__" 168 (.builtin "__main__.__loader__#opaque"),dE P "__spec__" 169 .none,dE P "__annotations__" 170 (.ref 6),dE P "__builtins__" 171 (.ref 4),dE P "__file__" 173 (sF 172),dE P "__cached__" 174 .none,dE P "_wall" 193 (.ref 21),dE P "FormError" 213 (.ref 31),dE P "NoTurn" 238 (.ref 51),dE P "NoShape" 263 (.ref 70),dE P "TooGreat" 290 (.ref 89),dE P "NoRoot" 315 (.ref 108),dE P "Apart" 331 (.ref 120),dE P "NotPlain" 356 (.ref 139),dE P "NoMeasure" 381 (.ref 158),dE P "divisor" 392 (.ref 167),dE P "shares" 403 (.ref 174),dE P "row_less" 412 (.ref 181),dE P "root" 421 (.ref 188),dE P "is_square" 429 (.ref 195),dE P "powered" 441 (.ref 202),dE P "check_at_most" 449 (.ref 209),dE P "check_within" 457 (.ref 216),dE P "SAME" 464 (.ref 217),dE P "is_turn" 471 (.ref 224),dE P "check_turn" 478 (.ref 231),dE P "led" 486 (.ref 238),dE P "put_behind" 494 (.ref 245),dE P "back" 501 (.ref 252),dE P "measure" 510 (.ref 259),dE P "value" 520 (.ref 266),dE P "content" 527 (.ref 273),dE P "moved" 537 (.ref 280),dE P "middle" 547 (.ref 287),dE P "opposite" 554 (.ref 294),dE P "shape" 562 (.ref 301),dE P "check_bowl" 571 (.ref 308),dE P "stands_least" 581 (.ref 315),dE P "settled" 590 (.ref 322),dE P "turn_lower" 598 (.ref 329),dE P "MOST_MEASURE" 602 (.int 4000 601),dE P "check_saddle" 609 (.ref 336),dE P "stands_level" 618 (.ref 343),dE P "turn_behind" 629 (.ref 350),dE P "stop_behind" 638 (.ref 357),dE P "eased" 647 (.ref 364),dE P "stops_round" 658 (.ref 371),dE P "round_of" 664 (.ref 376),dE P "lowered" 671 (.ref 383),dE P "Shape" 728 (.ref 421),dE P "Bowl" 752 (.ref 442),dE P "Saddle" 776 (.ref 461),dE P "shape_of" 783 (.ref 470),dE P "least_of" 790 (.ref 477),dE P "product" 803 (.ref 484),dE P "check_pair" 813 (.ref 491),dE P "check_plain" 820 (.ref 498),dE P "half_of_middles" 828 (.ref 505),dE P "common_shares" 838 (.ref 512),dE P "joint_form" 853 (.ref 519),dE P "joint_rows" 870 (.ref 526),dE P "rows_led" 876 (.ref 531),dE P "check_measure" 885 (.ref 538),dE P "unit" 893 (.ref 545),dE P "classes" 900 (.ref 552),dE P "least_bowls" 906 (.ref 557),dE P "least_saddles" 918 (.ref 564),dE P "plain_forms" 924 (.ref 569),dE P "least_product" 932 (.ref 576),dE P "power" 941 (.ref 583),dE P "order_of" 953 (.ref 590),dE P "_law_cell" 963 (.ref 597),dE P "_law_whole" 970 (.ref 604),dE P "_law_wholes" 976 (.ref 609),dE P "_law_root" 984 (.ref 616),dE P "_law_turn" 998 (.ref 623),dE P "_law_value" 1007 (.ref 630),dE P "_law_moved" 1020 (.ref 637),dE P "_law_number" 1028 (.ref 644),dE P "_law_powers" 1040 (.ref 651),dE P "law" 1056 (.ref 658)] 84
noncomputable def o17:O:=tO #[sT "k" 190]
noncomputable def o20:O:=cF "_wall" "_wall" 187 1 1 15 191
noncomputable def o21:O:=fO "_wall" "_wall" (tp 0) "__main__" 164 20
noncomputable def o22:O:=tO #[.type "ValueError"]
noncomputable def o30 (P:Params):O:=dO #[dE P "__module__" 203 (sT "formcycle.errors" 194),dE P "__firstlineno__" 207 (.int 5 206),dE P "__static_attributes__" 208 (.ref 29),dE P "__weakref__" 210 (.ref 32),dE P "__doc__" 211 .none] 3
noncomputable def o31:O:=.mk (.type "type") none (Data.cls (ClassData.mk (.ofString "FormError") [.type "ValueError"] [.ref 31,.type "ValueError",.type "Exception",.type "BaseException",.type "object"] 30 (.ofString "FormError") Bool.true [] [.ref 51,.ref 70,.ref 89,.ref 108,.ref 120,.ref 139,.ref 158] Bool.false none Bool.false)) #[some (.ref 22),none,some (sT "FormError" 196),some (sT "FormError" 204),some (.builtin "ValueError.__new__"),some (.bool true)]
noncomputable def o32:O:=.mk (.type "getset_descriptor") none (Data.fields #[sT "__weakref__" 209,.ref 31,.builtin "ExceptionGroup.__weakref__",.none]) #[]
noncomputable def o35:O:=tO #[.ref 31]
noncomputable def o44:O:=tO #[sT "self" 229,sT "turn" 230]
noncomputable def o47:O:=cF "__init__" "NoTurn.__init__" 226 9 2 42 231
noncomputable def o48:O:=fO "__init__" "NoTurn.__init__" (inC (tp 3) 0) "formcycle.errors" 194 47
noncomputable def o49:O:=tO #[sT "turn" 234]
noncomputable def o50 (P:Params):O:=dO #[dE P "__module__" 221 (sT "formcycle.errors" 194),dE P "__firstlineno__" 225 (.int 7 224),dE P "__init__" 233 (.ref 48),dE P "__static_attributes__" 235 (.ref 49),dE P "__doc__" 236 .none] 2
noncomputable def o51:O:=xO "NoTurn" 31 51 50 35 214 222
noncomputable def o54:O:=tO #[.ref 31]
noncomputable def o63:O:=tO #[sT "self" 254,sT "form" 255]
noncomputable def o66:O:=cF "__init__" "NoShape.__init__" 251 13 2 61 256
noncomputable def o67:O:=fO "__init__" "NoShape.__init__" (inC (tp 4) 0) "formcycle.errors" 194 66
noncomputable def o68:O:=tO #[sT "form" 259]
noncomputable def o69 (P:Params):O:=dO #[dE P "__module__" 246 (sT "formcycle.errors" 194),dE P "__firstlineno__" 250 (.int 11 249),dE P "__init__" 258 (.ref 67),dE P "__static_attributes__" 260 (.ref 68),dE P "__doc__" 261 .none] 2
noncomputable def o70:O:=xO "NoShape" 31 70 69 54 239 247
noncomputable def o73:O:=tO #[.ref 31]
noncomputable def o82:O:=tO #[sT "self" 279,sT "number" 280,sT "most" 281]
noncomputable def o85:O:=cF "__init__" "TooGreat.__init__" 276 17 3 80 282
noncomputable def o86:O:=fO "__init__" "TooGreat.__init__" (inC (tp 5) 0) "formcycle.errors" 194 85
noncomputable def o87:O:=tO #[sT "most" 285,sT "number" 286]
noncomputable def o88 (P:Params):O:=dO #[dE P "__module__" 271 (sT "formcycle.errors" 194),dE P "__firstlineno__" 275 (.int 15 274),dE P "__init__" 284 (.ref 86),dE P "__static_attributes__" 287 (.ref 87),dE P "__doc__" 288 .none] 2
noncomputable def o89:O:=xO "TooGreat" 31 89 88 73 264 272
noncomputable def o92:O:=tO #[.ref 31]
noncomputable def Ago:O:=tO #[sT "self" 306,sT "number" 307]
noncomputable def Ag0:O:=cF "__init__" "NoRoot.__init__" 303 22 2 99 308
noncomputable def Agc:O:=fO "__init__" "NoRoot.__init__" (inC (tp 6) 0) "formcycle.errors" 194 104
noncomputable def AgW:O:=tO #[sT "number" 311]
noncomputable def AgQ (P:Params):O:=dO #[dE P "__module__" 298 (sT "formcycle.errors" 194),dE P "__firstlineno__" 302 (.int 20 301),dE P "__init__" 310 (.ref 105),dE P "__static_attributes__" 312 (.ref 106),dE P "__doc__" 313 .none] 2
noncomputable def Ahj:O:=xO "NoRoot" 31 108 107 92 291 299
noncomputable def o111:O:=tO #[.ref 31]
noncomputable def AgK (P:Params):O:=dO #[dE P "__module__" 323 (sT "formcycle.errors" 194),dE P "__firstlineno__" 327 (.int 24 326),dE P "__static_attributes__" 328 (.ref 118),dE P "__doc__" 329 .none] 2
noncomputable def Ag1:O:=xO "Apart" 31 120 119 111 316 324
noncomputable def AgY:O:=tO #[.ref 31]
noncomputable def Ahf:O:=tO #[sT "self" 347,sT "form" 348]
noncomputable def Agf:O:=cF "__init__" "NotPlain.__init__" 344 28 2 130 349
noncomputable def Agx:O:=fO "__init__" "NotPlain.__init__" (inC (tp 8) 0) "formcycle.errors" 194 135
noncomputable def Ag3:O:=tO #[sT "form" 352]
noncomputable def AfO (P:Params):O:=dO #[dE P "__module__" 339 (sT "formcycle.errors" 194),dE P "__firstlineno__" 343 (.int 26 342),dE P "__init__" 351 (.ref 136),dE P "__static_attributes__" 353 (.ref 137),dE P "__doc__" 354 .none] 2
noncomputable def Af9:O:=xO "NotPlain" 31 139 138 123 332 340
noncomputable def Ah9:O:=tO #[.ref 31]
noncomputable def Aj6:O:=tO #[sT "self" 372,sT "number" 373]
noncomputable def AiS:O:=cF "__init__" "NoMeasure.__init__" 369 32 2 149 374
noncomputable def AkU:O:=fO "__init__" "NoMeasure.__init__" (inC (tp 9) 0) "formcycle.errors" 194 154
noncomputable def Aia:O:=tO #[sT "number" 377]
noncomputable def AkK (P:Params):O:=dO #[dE P "__module__" 364 (sT "formcycle.errors" 194),dE P "__firstlineno__" 368 (.int 30 367),dE P "__init__" 376 (.ref 155),dE P "__static_attributes__" 378 (.ref 156),dE P "__doc__" 379 .none] 2
noncomputable def Akx:O:=xO "NoMeasure" 31 158 157 142 357 365
noncomputable def Ajf:O:=tO #[sT "one" 387,sT "other" 388,sT "rest" 389]
noncomputable def Ajn:O:=cF "divisor" "divisor" 384 35 2 161 390
noncomputable def Ah4:O:=fO "divisor" "divisor" (tp 11) "formcycle.wholes" 382 166
noncomputable def Aiy:O:=tO #[sT "one" 396,sT "other" 397,sT "row" 398,sT "lower" 399,sT "rest" 400]
noncomputable def AhD:O:=cF "shares" "shares" 393 41 2 168 401
noncomputable def Aji:O:=fO "shares" "shares" (tp 12) "formcycle.wholes" 382 173
noncomputable def AhV:O:=tO #[sT "row" 407,sT "lower" 408,sT "often" 409]
noncomputable def Akd:O:=cF "row_less" "row_less" 404 51 3 175 410
noncomputable def AjL:O:=fO "row_less" "row_less" (tp 13) "formcycle.wholes" 382 180
noncomputable def AiV:O:=tO #[sT "number" 416,sT "guess" 417,sT "better" 418]
noncomputable def Ajb:O:=cF "root" "root" 413 53 1 182 419
noncomputable def Aj8:O:=fO "root" "root" (tp 14) "formcycle.wholes" 382 187
noncomputable def AkE:O:=tO #[sT "number" 425,sT "side" 426]
noncomputable def Akb:O:=cF "is_square" "is_square" 422 64 1 189 427
noncomputable def AjF:O:=fO "is_square" "is_square" (tp 15) "formcycle.wholes" 382 194
noncomputable def Ai8:O:=tO #[sT "thing" 433,sT "count" 434,sT "put" 435,sT "first" 436,sT "came" 437,sT "place" 438]
noncomputable def Akm:O:=cF "powered" "powered" 430 69 4 196 439
noncomputable def Ahv:O:=fO "powered" "powered" (tp 16) "formcycle.wholes" 382 201
noncomputable def AkI:O:=tO #[sT "number" 445,sT "most" 446]
noncomputable def Ajw:O:=cF "check_at_most" "check_at_most" 442 78 2 203 447
noncomputable def Ak4:O:=fO "check_at_most" "check_at_most" (tp 17) "formcycle.wholes" 382 208
noncomputable def Ah7:O:=tO #[sT "number" 453,sT "most" 454]
noncomputable def AkO:O:=cF "check_within" "check_within" 450 81 2 210 455
noncomputable def AkL:O:=fO "check_within" "check_within" (tp 18) "formcycle.wholes" 382 215
noncomputable def Ajt:O:=tO #[.int 1 460,.int 0 461,.int 0 462,.int 1 463]
noncomputable def AkN:O:=tO #[sT "turn" 468]
noncomputable def AkB:O:=cF "is_turn" "is_turn" 465 86 1 218 469
noncomputable def AhW:O:=fO "is_turn" "is_turn" (tp 21) "formcycle.turns" 458 223
noncomputable def AjJ:O:=tO #[sT "turn" 475]
noncomputable def Akp:O:=cF "check_turn" "check_turn" 472 88 1 225 476
noncomputable def AkA:O:=fO "check_turn" "check_turn" (tp 22) "formcycle.turns" 458 230
noncomputable def AjZ:O:=tO #[sT "turn" 482,sT "point" 483]
noncomputable def Aj1:O:=cF "led" "led" 479 91 2 232 484
noncomputable def AkF:O:=fO "led" "led" (tp 23) "formcycle.turns" 458 237
noncomputable def Ah5:O:=tO #[sT "one" 490,sT "other" 491]
noncomputable def Ain:O:=cF "put_behind" "put_behind" 487 94 2 239 492
noncomputable def Aib:O:=fO "put_behind" "put_behind" (tp 24) "formcycle.turns" 458 244
noncomputable def AkJ:O:=tO #[sT "turn" 498]
noncomputable def AhM:O:=cF "back" "back" 495 96 1 246 499
noncomputable def AiG:O:=fO "back" "back" (tp 25) "formcycle.turns" 458 251
noncomputable def AhB:O:=tO #[sT "form" 507]
noncomputable def Aje:O:=cF "measure" "measure" 504 100 1 253 508
noncomputable def Ajx:O:=fO "measure" "measure" (tp 27) "formcycle.forms" 502 258
noncomputable def Ako:O:=tO #[sT "form" 514,sT "point" 515,sT "x" 516,sT "y" 517]
noncomputable def Ajh:O:=cF "value" "value" 511 102 2 260 518
noncomputable def Aie:O:=fO "value" "value" (tp 28) "formcycle.forms" 502 265
noncomputable def Aky:O:=tO #[sT "form" 524]
noncomputable def AkH:O:=cF "content" "content" 521 106 1 267 525
noncomputable def AjA:O:=fO "content" "content" (tp 29) "formcycle.forms" 502 272
noncomputable def Aju:O:=tO #[sT "form" 531,sT "turn" 532,sT "left" 533,sT "right" 534]
noncomputable def Ajg:O:=cF "moved" "moved" 528 108 2 274 535
noncomputable def AiU:O:=fO "moved" "moved" (tp 30) "formcycle.forms" 502 279
noncomputable def AiR:O:=tO #[sT "form" 541,sT "left" 542,sT "right" 543,sT "crossed" 544]
noncomputable def AiE:O:=cF "middle" "middle" 538 113 3 281 545
noncomputable def Aif:O:=fO "middle" "middle" (tp 31) "formcycle.forms" 502 286
noncomputable def Akn:O:=tO #[sT "form" 551]
noncomputable def Ahy:O:=cF "opposite" "opposite" 548 116 1 288 552
noncomputable def Akf:O:=fO "opposite" "opposite" (tp 32) "formcycle.forms" 502 293
noncomputable def AjR:O:=tO #[sT "form" 558,sT "number" 559]
noncomputable def o300:O:=cF "shape" "shape" 555 118 1 295 560
noncomputable def AhO:O:=fO "shape" "shape" (tp 33) "formcycle.forms" 502 300
noncomputable def AhX:O:=tO #[sT "form" 568]
noncomputable def Ak1:O:=cF "check_bowl" "check_bowl" 565 128 1 302 569
noncomputable def AhQ:O:=fO "check_bowl" "check_bowl" (tp 35) "formcycle.bowls" 563 307
noncomputable def Ajs:O:=tO #[sT "form" 575,sT "a" 576,sT "b" 577,sT "c" 578]
noncomputable def Ahx:O:=cF "stands_least" "stands_least" 572 131 1 309 579
noncomputable def Aj5:O:=fO "stands_least" "stands_least" (tp 36) "formcycle.bowls" 563 314
noncomputable def Ak9:O:=tO #[sT "form" 585,sT "turn" 586,sT "lowering" 587]
noncomputable def AjD:O:=cF "settled" "settled" 582 138 1 316 588
noncomputable def Ajy:O:=fO "settled" "settled" (tp 37) "formcycle.bowls" 563 321
noncomputable def Ajd:O:=tO #[sT "form" 594,sT "often" 595]
noncomputable def Ah8:O:=cF "turn_lower" "turn_lower" 591 146 1 323 596
noncomputable def Aka:O:=fO "turn_lower" "turn_lower" (tp 38) "formcycle.bowls" 563 328
noncomputable def Aj2:O:=tO #[sT "form" 606]
noncomputable def AhY:O:=cF "check_saddle" "check_saddle" 603 153 1 330 607
noncomputable def AjH:O:=fO "check_saddle" "check_saddle" (tp 41) "formcycle.saddles" 599 335
noncomputable def AhT:O:=tO #[sT "form" 613,sT "far" 614,sT "b" 615]
noncomputable def Ai5:O:=cF "stands_level" "stands_level" 610 157 2 337 616
noncomputable def AjK:O:=fO "stands_level" "stands_level" (tp 42) "formcycle.saddles" 599 342
noncomputable def Ah1:O:=tO #[sT "form" 622,sT "top" 623,sT "b" 624,sT "c" 625,sT "d" 626]
noncomputable def AkZ:O:=cF "turn_behind" "turn_behind" 619 160 2 344 627
noncomputable def Aip:O:=fO "turn_behind" "turn_behind" (tp 43) "formcycle.saddles" 599 349
noncomputable def AhK:O:=tO #[sT "stop" 633,sT "top" 634,sT "turn" 635]
noncomputable def Aiz:O:=cF "stop_behind" "stop_behind" 630 165 2 351 636
noncomputable def Ajj:O:=fO "stop_behind" "stop_behind" (tp 44) "formcycle.saddles" 599 356
noncomputable def Aik:O:=tO #[sT "form" 642,sT "far" 643,sT "stop" 644]
noncomputable def Aic:O:=cF "eased" "eased" 639 168 1 358 645
noncomputable def AiX:O:=fO "eased" "eased" (tp 45) "formcycle.saddles" 599 363
noncomputable def Ak8:O:=tO #[sT "form" 651,sT "far" 652,sT "first" 653,sT "stops" 654,sT "stop" 655]
noncomputable def Ai0:O:=cF "stops_round" "stops_round" 648 175 1 365 656
noncomputable def AiK:O:=fO "stops_round" "stops_round" (tp 46) "formcycle.saddles" 599 370
noncomputable def AhG:O:=cO #[sT "round_of" 659,sT "round_of" 660,sF 661,iZ 185,iZ 1,iZ 0,iZ 0,iZ 3,.ref 372,.bool true,iZ 181,.ref 373,.none,.none,.none,.ref 374,iZ 662,iZ 185,sF 663]
noncomputable def Aih:O:=fO "round_of" "round_of" (tp 47) "formcycle.saddles" 599 375
noncomputable def AkS:O:=tO #[sT "form" 668]
noncomputable def AhC:O:=cF "lowered" "lowered" 665 190 1 377 669
noncomputable def Ajc:O:=fO "lowered" "lowered" (tp 48) "formcycle.saddles" 599 382
noncomputable def AiO:O:=tO #[sT "self" 689,sT "form" 690,sT "lowest" 691]
noncomputable def Ajm:O:=cF "__init__" "Shape.__init__" 686 196 3 391 692
noncomputable def Akc:O:=fO "__init__" "Shape.__init__" (inC (tp 50) 0) "formcycle.shapes" 672 396
noncomputable def o400:O:=tO #[sT "self" 698]
noncomputable def AhS:O:=cF "least" "Shape.least" 695 201 1 398 699
noncomputable def AiB:O:=fO "least" "Shape.least" (inC (tp 50) 1) "formcycle.shapes" 672 403
noncomputable def Aks:O:=tO #[sT "self" 705,sT "turn" 706]
noncomputable def AiN:O:=cF "leaves" "Shape.leaves" 702 204 2 405 707
noncomputable def Ajl:O:=fO "leaves" "Shape.leaves" (inC (tp 50) 2) "formcycle.shapes" 672 410
noncomputable def AiH:O:=tO #[sT "self" 713,sT "other" 714]
noncomputable def Ail:O:=cF "way_to" "Shape.way_to" 710 207 2 412 715
noncomputable def AhA:O:=fO "way_to" "Shape.way_to" (inC (tp 50) 3) "formcycle.shapes" 672 417
noncomputable def AjC:O:=tO #[sT "form" 718,sT "lowest" 719,sT "measure" 720]
noncomputable def Aio (P:Params):O:=dO #[dE P "__module__" 681 (sT "formcycle.shapes" 672),dE P "__firstlineno__" 685 (.int 194 684),dE P "__init__" 694 (.ref 397),dE P "least" 701 (.ref 404),dE P "leaves" 709 (.ref 411),dE P "way_to" 717 (.ref 418),dE P "__static_attributes__" 721 (.ref 419),dE P "__dict__" 723 (.ref 422),dE P "__weakref__" 725 (.ref 423),dE P "__doc__" 726 .none] 4
noncomputable def AmG:O:=.mk (.type "type") none (Data.cls (ClassData.mk (.ofString "Shape") [.type "object"] [.ref 421,.type "object"] 420 (.ofString "Shape") Bool.true [] [.ref 442,.ref 461] Bool.false none Bool.false)) #[none,none,some (sT "Shape" 674),some (sT "Shape" 682),some (.builtin "object.__new__"),some (.bool true)]
noncomputable def Ak6:O:=.mk (.type "getset_descriptor") none (Data.fields #[sT "__dict__" 722,.ref 421,.builtin "function.__dict__",.builtin "function.__dict__#set"]) #[]
noncomputable def Ajk:O:=.mk (.type "getset_descriptor") none (Data.fields #[sT "__weakref__" 724,.ref 421,.builtin "ExceptionGroup.__weakref__",.none]) #[]
noncomputable def AmY:O:=tO #[.ref 421]
noncomputable def Als:O:=tO #[sT "self" 744,sT "form" 745]
noncomputable def AlT:O:=cF "__init__" "Bowl.__init__" 741 211 2 433 746
noncomputable def Al2:O:=fO "__init__" "Bowl.__init__" (inC (tp 51) 0) "formcycle.shapes" 672 438
noncomputable def Alp (P:Params):O:=dO #[dE P "__module__" 736 (sT "formcycle.shapes" 672),dE P "__firstlineno__" 740 (.int 209 739),dE P "__init__" 748 (.ref 439),dE P "__static_attributes__" 749 (.ref 440),dE P "__doc__" 750 .none] 2
noncomputable def Anx:O:=.mk (.type "type") none (Data.cls (ClassData.mk (.ofString "Bowl") [.ref 421] [.ref 442,.ref 421,.type "object"] 441 (.ofString "Bowl") Bool.true [] [] Bool.false none Bool.false)) #[some (.ref 426),none,some (sT "Bowl" 729),some (sT "Bowl" 737),some (.builtin "object.__new__"),some (.bool true)]
noncomputable def Anm:O:=tO #[.ref 421]
noncomputable def AlM:O:=tO #[sT "self" 768,sT "form" 769]
noncomputable def Amw:O:=cF "__init__" "Saddle.__init__" 765 215 2 452 770
noncomputable def Amb:O:=fO "__init__" "Saddle.__init__" (inC (tp 52) 0) "formcycle.shapes" 672 457
noncomputable def Amp (P:Params):O:=dO #[dE P "__module__" 760 (sT "formcycle.shapes" 672),dE P "__firstlineno__" 764 (.int 213 763),dE P "__init__" 772 (.ref 458),dE P "__static_attributes__" 773 (.ref 459),dE P "__doc__" 774 .none] 2
noncomputable def AmW:O:=.mk (.type "type") none (Data.cls (ClassData.mk (.ofString "Saddle") [.ref 421] [.ref 461,.ref 421,.type "object"] 460 (.ofString "Saddle") Bool.true [] [] Bool.false none Bool.false)) #[some (.ref 445),none,some (sT "Saddle" 753),some (sT "Saddle" 761),some (.builtin "object.__new__"),some (.bool true)]
noncomputable def Amt:O:=tO #[sT "form" 780]
noncomputable def Ald:O:=cF "shape_of" "shape_of" 777 217 1 464 781
noncomputable def Alf:O:=fO "shape_of" "shape_of" (tp 53) "formcycle.shapes" 672 469
noncomputable def Anw:O:=tO #[sT "form" 787]
noncomputable def AlG:O:=cF "least_of" "least_of" 784 221 1 471 788
noncomputable def Al4:O:=fO "least_of" "least_of" (tp 54) "formcycle.shapes" 672 476
noncomputable def AlA:O:=tO #[sT "one" 796,sT "other" 797,sT "common" 798,sT "form" 799,sT "lowest" 800]
noncomputable def Al6:O:=cF "product" "product" 793 224 2 478 801
noncomputable def Al9:O:=fO "product" "product" (tp 56) "formcycle.products" 791 483
noncomputable def Ane:O:=tO #[sT "one" 807,sT "other" 808,sT "first" 809,sT "second" 810]
noncomputable def AlK:O:=cF "check_pair" "check_pair" 804 230 2 485 811
noncomputable def Anb:O:=fO "check_pair" "check_pair" (tp 57) "formcycle.products" 791 490
noncomputable def AlJ:O:=tO #[sT "form" 817]
noncomputable def Al1:O:=cF "check_plain" "check_plain" 814 237 1 492 818
noncomputable def AnB:O:=fO "check_plain" "check_plain" (tp 58) "formcycle.products" 791 497
noncomputable def Alb:O:=tO #[sT "one" 824,sT "other" 825]
noncomputable def AmK:O:=cF "half_of_middles" "half_of_middles" 821 240 2 499 826
noncomputable def Anr:O:=fO "half_of_middles" "half_of_middles" (tp 59) "formcycle.products" 791 504
noncomputable def Ams:O:=tO #[sT "one" 832,sT "other" 833,sT "firsts" 834,sT "whole" 835]
noncomputable def Alx:O:=cF "common_shares" "common_shares" 829 242 2 506 836
noncomputable def AmV:O:=fO "common_shares" "common_shares" (tp 60) "formcycle.products" 791 511
noncomputable def Ale:O:=tO #[sT "one" 842,sT "other" 843,sT "common" 844,sT "g" 845,sT "d" 846,sT "e" 847,sT "first" 848,sT "more" 849,sT "middle" 850]
noncomputable def AmJ:O:=cF "joint_form" "joint_form" 839 246 3 513 851
noncomputable def AnG:O:=fO "joint_form" "joint_form" (tp 61) "formcycle.products" 791 518
noncomputable def AmQ:O:=tO #[sT "one" 857,sT "other" 858,sT "g" 859,sT "middle" 860,sT "a" 861,sT "b" 862,sT "d" 863,sT "e" 864,sT "s" 865,sT "last" 866,sT "upper" 867]
noncomputable def Amm:O:=cF "joint_rows" "joint_rows" 854 254 4 520 868
noncomputable def Al8:O:=fO "joint_rows" "joint_rows" (tp 62) "formcycle.products" 791 525
noncomputable def Aml:O:=cO #[sT "rows_led" 871,sT "rows_led" 872,sF 873,iZ 263,iZ 2,iZ 0,iZ 0,iZ 3,.ref 527,.bool true,iZ 181,.ref 528,.none,.none,.none,.ref 529,iZ 874,iZ 263,sF 875]
noncomputable def AlX:O:=fO "rows_led" "rows_led" (tp 63) "formcycle.products" 791 530
noncomputable def Am3:O:=tO #[sT "number" 882]
noncomputable def AmU:O:=cF "check_measure" "check_measure" 879 267 1 532 883
noncomputable def Ami:O:=fO "check_measure" "check_measure" (tp 65) "formcycle.classes" 877 537
noncomputable def Ani:O:=tO #[sT "number" 889,sT "middle" 890]
noncomputable def Alk:O:=cF "unit" "unit" 886 270 1 539 891
noncomputable def Am4:O:=fO "unit" "unit" (tp 66) "formcycle.classes" 877 544
noncomputable def Amz:O:=tO #[sT "number" 897]
noncomputable def Amk:O:=cF "classes" "classes" 894 275 1 546 898
noncomputable def Alr:O:=fO "classes" "classes" (tp 67) "formcycle.classes" 877 551
noncomputable def Am5:O:=cO #[sT "least_bowls" 901,sT "least_bowls" 902,sF 903,iZ 281,iZ 1,iZ 0,iZ 0,iZ 3,.ref 553,.bool true,iZ 181,.ref 554,.none,.none,.none,.ref 555,iZ 904,iZ 281,sF 905]
noncomputable def AnE:O:=fO "least_bowls" "least_bowls" (tp 68) "formcycle.classes" 877 556
noncomputable def Anp:O:=tO #[sT "number" 910,sT "far" 911,sT "found" 912,sT "seen" 913,sT "form" 914,sT "other" 915]
noncomputable def AlL:O:=cF "least_saddles" "least_saddles" 907 283 1 558 916
noncomputable def Ann:O:=fO "least_saddles" "least_saddles" (tp 69) "formcycle.classes" 877 563
noncomputable def Amn:O:=cO #[sT "plain_forms" 919,sT "plain_forms" 920,sF 921,iZ 293,iZ 2,iZ 0,iZ 0,iZ 3,.ref 565,.bool true,iZ 181,.ref 566,.none,.none,.none,.ref 567,iZ 922,iZ 293,sF 923]
noncomputable def AlD:O:=fO "plain_forms" "plain_forms" (tp 70) "formcycle.classes" 877 568
noncomputable def AmP:O:=tO #[sT "one" 928,sT "other" 929]
noncomputable def Aln:O:=cF "least_product" "least_product" 925 300 2 570 930
noncomputable def Ans:O:=fO "least_product" "least_product" (tp 71) "formcycle.classes" 877 575
noncomputable def Am6:O:=tO #[sT "form" 936,sT "count" 937,sT "whole" 938]
noncomputable def Ano:O:=cF "power" "power" 933 302 2 577 939
noncomputable def Amh:O:=fO "power" "power" (tp 72) "formcycle.classes" 877 582
noncomputable def AmZ:O:=tO #[sT "form" 945,sT "whole" 946,sT "first" 947,sT "lowest" 948,sT "came" 949,sT "count" 950]
noncomputable def AmF:O:=cF "order_of" "order_of" 942 308 1 584 951
noncomputable def AmT:O:=fO "order_of" "order_of" (tp 73) "formcycle.classes" 877 589
noncomputable def AlS:O:=tO #[sT "_law_script" 959,sT "_law_k" 960]
noncomputable def Ant:O:=cF "_law_cell" "_law_cell" 956 321 2 591 961
noncomputable def Am0:O:=fO "_law_cell" "_law_cell" (tp 75) "law_formcycle_k48_orders_and_powers" 954 596
noncomputable def o600:O:=tO #[sT "_law_found" 967]
noncomputable def AmX:O:=cF "_law_whole" "_law_whole" 964 325 1 598 968
noncomputable def Amo:O:=fO "_law_whole" "_law_whole" (tp 76) "law_formcycle_k48_orders_and_powers" 954 603
noncomputable def Alj:O:=cO #[sT "_law_wholes" 971,sT "_law_wholes" 972,sF 973,iZ 327,iZ 2,iZ 0,iZ 0,iZ 3,.ref 605,.bool true,iZ 181,.ref 606,.none,.none,.none,.ref 607,iZ 974,iZ 327,sF 975]
noncomputable def Anc:O:=fO "_law_wholes" "_law_wholes" (tp 77) "law_formcycle_k48_orders_and_powers" 954 608
noncomputable def Alq:O:=tO #[sT "_law_number_here" 980,sT "_law_near" 981]
noncomputable def Amg:O:=cF "_law_root" "_law_root" 977 331 1 610 982
noncomputable def AlW:O:=fO "_law_root" "_law_root" (tp 78) "law_formcycle_k48_orders_and_powers" 954 615
noncomputable def AmL:O:=tO #[sT "_law_first" 988,sT "_law_cells" 989,sT "_law_p" 990,sT "_law_q" 991,sT "_law_r" 992,sT "_law_s" 993,sT "_law_cell_here" 994,sT "_law_k" 995]
noncomputable def AmN:O:=cF "_law_turn" "_law_turn" 985 336 2 617 996
noncomputable def AlZ:O:=fO "_law_turn" "_law_turn" (tp 79) "law_formcycle_k48_orders_and_powers" 954 622
noncomputable def Anh:O:=tO #[sT "_law_form" 1002,sT "_law_x" 1003,sT "_law_y" 1004]
noncomputable def Alm:O:=cF "_law_value" "_law_value" 999 342 3 624 1005
noncomputable def Am2:O:=fO "_law_value" "_law_value" (tp 80) "law_formcycle_k48_orders_and_powers" 954 629
noncomputable def Anq:O:=tO #[sT "_law_form" 1011,sT "_law_turn_here" 1012,sT "_law_p" 1013,sT "_law_q" 1014,sT "_law_r" 1015,sT "_law_s" 1016,sT "_law_middle" 1017]
noncomputable def Am1:O:=cF "_law_moved" "_law_moved" 1008 344 2 631 1018
noncomputable def AlY:O:=fO "_law_moved" "_law_moved" (tp 81) "law_formcycle_k48_orders_and_powers" 954 636
noncomputable def AlV:O:=tO #[sT "_law_script" 1024,sT "_law_number_here" 1025]
noncomputable def AnD:O:=cF "_law_number" "_law_number" 1021 348 1 638 1026
noncomputable def Anj:O:=fO "_law_number" "_law_number" (tp 82) "law_formcycle_k48_orders_and_powers" 954 643
noncomputable def Ama:O:=tO #[sT "_law_form" 1032,sT "_law_first" 1033,sT "_law_order" 1034,sT "_law_found" 1035,sT "_law_k" 1036,sT "_law_now" 1037]
noncomputable def AmH:O:=cF "_law_powers" "_law_powers" 1029 357 3 645 1038
noncomputable def Alw:O:=fO "_law_powers" "_law_powers" (tp 83) "law_formcycle_k48_orders_and_powers" 954 650
noncomputable def Ank:O:=tO #[sT "_law_script" 1044,sT "_law_number_here" 1045,sT "_law_forms" 1046,sT "_law_form" 1047,sT "_law_far" 1048,sT "_law_order" 1049,sT "_law_powers_here" 1050,sT "_law_count" 1051,sT "_law_many" 1052,sT "_law_found" 1053]
noncomputable def Anz:O:=cF "law" "law" 1041 367 1 652 1054
noncomputable def AmM:O:=fO "law" "law" (tp 84) "law_formcycle_k48_orders_and_powers" 954 657
noncomputable def KK:Params→Frag :=
fun P=>(nat_lit 2,o2)::(nat_lit 3,o3 P)::(nat_lit 15,tE)::(nat_lit 17,o17)::(nat_lit 18,tE)::(nat_lit 20,o20)::(nat_lit 21,o21)::(nat_lit 22,o22)::(nat_lit 29,tE)::(nat_lit 30,o30 P)::(nat_lit 31,o31)::(nat_lit 32,o32)::(nat_lit 35,o35)::(nat_lit 42,tE)::(nat_lit 44,o44)::(nat_lit 45,tE)::(nat_lit 47,o47)::(nat_lit 48,o48)::(nat_lit 49,o49)::(nat_lit 50,o50 P)::(nat_lit 51,o51)::(nat_lit 54,o54)::(nat_lit 61,tE)::(nat_lit 63,o63)::(nat_lit 64,tE)::(nat_lit 66,o66)::(nat_lit 67,o67)::(nat_lit 68,o68)::(nat_lit 69,o69 P)::(nat_lit 70,o70)::(nat_lit 73,o73)::(nat_lit 80,tE)::(nat_lit 82,o82)::(nat_lit 83,tE)::(nat_lit 85,o85)::(nat_lit 86,o86)::(nat_lit 87,o87)::(nat_lit 88,o88 P)::(nat_lit 89,o89)::(nat_lit 92,o92)::(nat_lit 99,tE)::(nat_lit 101,Ago)::(nat_lit 102,tE)::(nat_lit 104,Ag0)::(nat_lit 105,Agc)::(nat_lit 106,AgW)::(nat_lit 107,AgQ P)::(nat_lit 108,Ahj)::(nat_lit 111,o111)::(nat_lit 118,tE)::(nat_lit 119,AgK P)::(nat_lit 120,Ag1)::(nat_lit 123,AgY)::(nat_lit 130,tE)::(nat_lit 132,Ahf)::(nat_lit 133,tE)::(nat_lit 135,Agf)::(nat_lit 136,Agx)::(nat_lit 137,Ag3)::(nat_lit 138,AfO P)::(nat_lit 139,Af9)::(nat_lit 142,Ah9)::(nat_lit 149,tE)::(nat_lit 151,Aj6)::(nat_lit 152,tE)::(nat_lit 154,AiS)::(nat_lit 155,AkU)::(nat_lit 156,Aia)::(nat_lit 157,AkK P)::(nat_lit 158,Akx)::(nat_lit 161,tE)::(nat_lit 163,Ajf)::(nat_lit 164,tE)::(nat_lit 166,Ajn)::(nat_lit 167,Ah4)::(nat_lit 168,tE)::(nat_lit 170,Aiy)::(nat_lit 171,tE)::(nat_lit 173,AhD)::(nat_lit 174,Aji)::(nat_lit 175,tE)::(nat_lit 177,AhV)::(nat_lit 178,tE)::(nat_lit 180,Akd)::(nat_lit 181,AjL)::(nat_lit 182,tE)::(nat_lit 184,AiV)::(nat_lit 185,tE)::(nat_lit 187,Ajb)::(nat_lit 188,Aj8)::(nat_lit 189,tE)::(nat_lit 191,AkE)::(nat_lit 192,tE)::(nat_lit 194,Akb)::(nat_lit 195,AjF)::(nat_lit 196,tE)::(nat_lit 198,Ai8)::(nat_lit 199,tE)::(nat_lit 201,Akm)::(nat_lit 202,Ahv)::(nat_lit 203,tE)::(nat_lit 205,AkI)::(nat_lit 206,tE)::(nat_lit 208,Ajw)::(nat_lit 209,Ak4)::(nat_lit 210,tE)::(nat_lit 212,Ah7)::(nat_lit 213,tE)::(nat_lit 215,AkO)::(nat_lit 216,AkL)::(nat_lit 217,Ajt)::(nat_lit 218,tE)::(nat_lit 220,AkN)::(nat_lit 221,tE)::(nat_lit 223,AkB)::(nat_lit 224,AhW)::(nat_lit 225,tE)::(nat_lit 227,AjJ)::(nat_lit 228,tE)::(nat_lit 230,Akp)::(nat_lit 231,AkA)::(nat_lit 232,tE)::(nat_lit 234,AjZ)::(nat_lit 235,tE)::(nat_lit 237,Aj1)::(nat_lit 238,AkF)::(nat_lit 239,tE)::(nat_lit 241,Ah5)::(nat_lit 242,tE)::(nat_lit 244,Ain)::(nat_lit 245,Aib)::(nat_lit 246,tE)::(nat_lit 248,AkJ)::(nat_lit 249,tE)::(nat_lit 251,AhM)::(nat_lit 252,AiG)::(nat_lit 253,tE)::(nat_lit 255,AhB)::(nat_lit 256,tE)::(nat_lit 258,Aje)::(nat_lit 259,Ajx)::(nat_lit 260,tE)::(nat_lit 262,Ako)::(nat_lit 263,tE)::(nat_lit 265,Ajh)::(nat_lit 266,Aie)::(nat_lit 267,tE)::(nat_lit 269,Aky)::(nat_lit 270,tE)::(nat_lit 272,AkH)::(nat_lit 273,AjA)::(nat_lit 274,tE)::(nat_lit 276,Aju)::(nat_lit 277,tE)::(nat_lit 279,Ajg)::(nat_lit 280,AiU)::(nat_lit 281,tE)::(nat_lit 283,AiR)::(nat_lit 284,tE)::(nat_lit 286,AiE)::(nat_lit 287,Aif)::(nat_lit 288,tE)::(nat_lit 290,Akn)::(nat_lit 291,tE)::(nat_lit 293,Ahy)::(nat_lit 294,Akf)::(nat_lit 295,tE)::(nat_lit 297,AjR)::(nat_lit 298,tE)::(nat_lit 300,o300)::(nat_lit 301,AhO)::(nat_lit 302,tE)::(nat_lit 304,AhX)::(nat_lit 305,tE)::(nat_lit 307,Ak1)::(nat_lit 308,AhQ)::(nat_lit 309,tE)::(nat_lit 311,Ajs)::(nat_lit 312,tE)::(nat_lit 314,Ahx)::(nat_lit 315,Aj5)::(nat_lit 316,tE)::(nat_lit 318,Ak9)::(nat_lit 319,tE)::(nat_lit 321,AjD)::(nat_lit 322,Ajy)::(nat_lit 323,tE)::(nat_lit 325,Ajd)::(nat_lit 326,tE)::(nat_lit 328,Ah8)::(nat_lit 329,Aka)::(nat_lit 330,tE)::(nat_lit 332,Aj2)::(nat_lit 333,tE)::(nat_lit 335,AhY)::(nat_lit 336,AjH)::(nat_lit 337,tE)::(nat_lit 339,AhT)::(nat_lit 340,tE)::(nat_lit 342,Ai5)::(nat_lit 343,AjK)::(nat_lit 344,tE)::(nat_lit 346,Ah1)::(nat_lit 347,tE)::(nat_lit 349,AkZ)::(nat_lit 350,Aip)::(nat_lit 351,tE)::(nat_lit 353,AhK)::(nat_lit 354,tE)::(nat_lit 356,Aiz)::(nat_lit 357,Ajj)::(nat_lit 358,tE)::(nat_lit 360,Aik)::(nat_lit 361,tE)::(nat_lit 363,Aic)::(nat_lit 364,AiX)::(nat_lit 365,tE)::(nat_lit 367,Ak8)::(nat_lit 368,tE)::(nat_lit 370,Ai0)::(nat_lit 371,AiK)::(nat_lit 372,tE)::(nat_lit 375,AhG)::(nat_lit 376,Aih)::(nat_lit 377,tE)::(nat_lit 379,AkS)::(nat_lit 380,tE)::(nat_lit 382,AhC)::(nat_lit 383,Ajc)::(nat_lit 391,tE)::(nat_lit 393,AiO)::(nat_lit 394,tE)::(nat_lit 396,Ajm)::(nat_lit 397,Akc)::(nat_lit 398,tE)::(nat_lit 400,o400)::(nat_lit 401,tE)::(nat_lit 403,AhS)::(nat_lit 404,AiB)::(nat_lit 405,tE)::(nat_lit 407,Aks)::(nat_lit 408,tE)::(nat_lit 410,AiN)::(nat_lit 411,Ajl)::(nat_lit 412,tE)::(nat_lit 414,AiH)::(nat_lit 415,tE)::(nat_lit 417,Ail)::(nat_lit 418,AhA)::(nat_lit 419,AjC)::(nat_lit 420,Aio P)::(nat_lit 421,AmG)::(nat_lit 422,Ak6)::(nat_lit 423,Ajk)::(nat_lit 426,AmY)::(nat_lit 433,tE)::(nat_lit 435,Als)::(nat_lit 436,tE)::(nat_lit 438,AlT)::(nat_lit 439,Al2)::(nat_lit 440,tE)::(nat_lit 441,Alp P)::(nat_lit 442,Anx)::(nat_lit 445,Anm)::(nat_lit 452,tE)::(nat_lit 454,AlM)::(nat_lit 455,tE)::(nat_lit 457,Amw)::(nat_lit 458,Amb)::(nat_lit 459,tE)::(nat_lit 460,Amp P)::(nat_lit 461,AmW)::(nat_lit 464,tE)::(nat_lit 466,Amt)::(nat_lit 467,tE)::(nat_lit 469,Ald)::(nat_lit 470,Alf)::(nat_lit 471,tE)::(nat_lit 473,Anw)::(nat_lit 474,tE)::(nat_lit 476,AlG)::(nat_lit 477,Al4)::(nat_lit 478,tE)::(nat_lit 480,AlA)::(nat_lit 481,tE)::(nat_lit 483,Al6)::(nat_lit 484,Al9)::(nat_lit 485,tE)::(nat_lit 487,Ane)::(nat_lit 488,tE)::(nat_lit 490,AlK)::(nat_lit 491,Anb)::(nat_lit 492,tE)::(nat_lit 494,AlJ)::(nat_lit 495,tE)::(nat_lit 497,Al1)::(nat_lit 498,AnB)::(nat_lit 499,tE)::(nat_lit 501,Alb)::(nat_lit 502,tE)::(nat_lit 504,AmK)::(nat_lit 505,Anr)::(nat_lit 506,tE)::(nat_lit 508,Ams)::(nat_lit 509,tE)::(nat_lit 511,Alx)::(nat_lit 512,AmV)::(nat_lit 513,tE)::(nat_lit 515,Ale)::(nat_lit 516,tE)::(nat_lit 518,AmJ)::(nat_lit 519,AnG)::(nat_lit 520,tE)::(nat_lit 522,AmQ)::(nat_lit 523,tE)::(nat_lit 525,Amm)::(nat_lit 526,Al8)::(nat_lit 527,tE)::(nat_lit 530,Aml)::(nat_lit 531,AlX)::(nat_lit 532,tE)::(nat_lit 534,Am3)::(nat_lit 535,tE)::(nat_lit 537,AmU)::(nat_lit 538,Ami)::(nat_lit 539,tE)::(nat_lit 541,Ani)::(nat_lit 542,tE)::(nat_lit 544,Alk)::(nat_lit 545,Am4)::(nat_lit 546,tE)::(nat_lit 548,Amz)::(nat_lit 549,tE)::(nat_lit 551,Amk)::(nat_lit 552,Alr)::(nat_lit 553,tE)::(nat_lit 556,Am5)::(nat_lit 557,AnE)::(nat_lit 558,tE)::(nat_lit 560,Anp)::(nat_lit 561,tE)::(nat_lit 563,AlL)::(nat_lit 564,Ann)::(nat_lit 565,tE)::(nat_lit 568,Amn)::(nat_lit 569,AlD)::(nat_lit 570,tE)::(nat_lit 572,AmP)::(nat_lit 573,tE)::(nat_lit 575,Aln)::(nat_lit 576,Ans)::(nat_lit 577,tE)::(nat_lit 579,Am6)::(nat_lit 580,tE)::(nat_lit 582,Ano)::(nat_lit 583,Amh)::(nat_lit 584,tE)::(nat_lit 586,AmZ)::(nat_lit 587,tE)::(nat_lit 589,AmF)::(nat_lit 590,AmT)::(nat_lit 591,tE)::(nat_lit 593,AlS)::(nat_lit 594,tE)::(nat_lit 596,Ant)::(nat_lit 597,Am0)::(nat_lit 598,tE)::(nat_lit 600,o600)::(nat_lit 601,tE)::(nat_lit 603,AmX)::(nat_lit 604,Amo)::(nat_lit 605,tE)::(nat_lit 608,Alj)::(nat_lit 609,Anc)::(nat_lit 610,tE)::(nat_lit 612,Alq)::(nat_lit 613,tE)::(nat_lit 615,Amg)::(nat_lit 616,AlW)::(nat_lit 617,tE)::(nat_lit 619,AmL)::(nat_lit 620,tE)::(nat_lit 622,AmN)::(nat_lit 623,AlZ)::(nat_lit 624,tE)::(nat_lit 626,Anh)::(nat_lit 627,tE)::(nat_lit 629,Alm)::(nat_lit 630,Am2)::(nat_lit 631,tE)::(nat_lit 633,Anq)::(nat_lit 634,tE)::(nat_lit 636,Am1)::(nat_lit 637,AlY)::(nat_lit 638,tE)::(nat_lit 640,AlV)::(nat_lit 641,tE)::(nat_lit 643,AnD)::(nat_lit 644,Anj)::(nat_lit 645,tE)::(nat_lit 647,Ama)::(nat_lit 648,tE)::(nat_lit 650,AmH)::(nat_lit 651,Alw)::(nat_lit 652,tE)::(nat_lit 654,Ank)::(nat_lit 655,tE)::(nat_lit 657,Anz)::(nat_lit 658,AmM)::[]
noncomputable def Bj:O:=nO #[]
noncomputable def AaF:O:=cO #[sT "<module>" 182,sT "<module>" 183,sF 184,iZ 1,iZ 0,iZ 0,iZ 0,iZ 0,.ref 11,.bool false,iZ 181,.ref 12,.none,.none,.none,.none,iZ 185,iZ 1,sF 186]
noncomputable def AbS:O:=rO 13 3 "__main__" 164
noncomputable def Ame (P:Params):O:=dO #[dE P "__name__" 165 (sT "formcycle.errors" 194),dE P "__doc__" 166 .none,dE P "__package__" 167 .none,dE P "__loader__" 168 (.builtin "__main__.__loader__#opaque"),dE P "__spec__" 169 .none,dE P "__annotations__" 170 (.ref 6),dE P "__builtins__" 171 (.ref 4),dE P "__file__" 173 (sF 172),dE P "__cached__" 174 .none,dE P "_wall" 193 (.ref 21),dE P "FormError" 213 (.ref 31),dE P "NoTurn" 238 (.ref 51),dE P "NoShape" 263 (.ref 70),dE P "TooGreat" 290 (.ref 89),dE P "NoRoot" 315 (.ref 108),dE P "Apart" 331 (.ref 120),dE P "NotPlain" 356 (.ref 139)] 17
noncomputable def AkG:O:=nO #[iZ 1,iZ 0,.ref 20,iZ 5,iZ 0,.ref 27,iZ 7,iZ 0,.ref 40,iZ 11,iZ 0,.ref 59,iZ 15,iZ 0,.ref 78,iZ 20,iZ 0,.ref 97,iZ 24,iZ 0,.ref 116,iZ 26,iZ 0,.ref 128]
noncomputable def Afi:O:=.mk .none none (Data.func (FuncData.mk (.ofString "_wall") (.ofString "_wall") (fA (tp 0)) (.stmts (fB (tp 0))) (fS (tp 0)) 0 [] .none .none .none .none none .none .none 0)) #[]
noncomputable def GX:O:=bO #[.builtin "type.__prepare__",.type "type"]
noncomputable def Afc (P:Params):O:=dO #[dE P "__module__" 203 (sT "formcycle.errors" 194),dE P "__qualname__" 205 (sT "FormError" 204),dE P "__firstlineno__" 207 (.int 5 206),dE P "__static_attributes__" 208 (.ref 29)] 4
noncomputable def AeY:O:=cO #[sT "FormError" 198,sT "FormError" 199,sF 200,iZ 5,iZ 0,iZ 0,iZ 0,iZ 0,.ref 25,.bool false,iZ 181,.ref 26,.none,.none,.none,.none,iZ 201,iZ 5,sF 202]
noncomputable def AeA:O:=rO 27 24 "formcycle.errors" 194
noncomputable def Akv:O:=.mk (.type "type") none (Data.cls (ClassData.mk (.ofString "FormError") [.type "ValueError"] [.ref 31,.type "ValueError",.type "Exception",.type "BaseException",.type "object"] 30 (.ofString "FormError") Bool.true [] [.ref 51,.ref 70,.ref 89,.ref 108,.ref 120,.ref 139] Bool.false none Bool.false)) #[some (.ref 22),none,some (sT "FormError" 196),some (sT "FormError" 204),some (.builtin "ValueError.__new__"),some (.bool true)]
noncomputable def AeE:O:=sO 31
noncomputable def Afd:O:=bO #[.builtin "object.__init_subclass__",.ref 31]
noncomputable def Aew (P:Params):O:=dO #[dE P "__module__" 221 (sT "formcycle.errors" 194),dE P "__qualname__" 223 (sT "NoTurn" 222),dE P "__firstlineno__" 225 (.int 7 224),dE P "__init__" 233 (.ref 48),dE P "__static_attributes__" 235 (.ref 49)] 5
noncomputable def Afk:O:=nO #[iZ 9,iZ 4,.ref 47]
noncomputable def AeU:O:=cO #[sT "NoTurn" 216,sT "NoTurn" 217,sF 218,iZ 7,iZ 0,iZ 0,iZ 0,iZ 0,.ref 38,.bool false,iZ 181,.ref 39,.none,.none,.none,.none,iZ 219,iZ 7,sF 220]
noncomputable def Afq:O:=rO 40 37 "formcycle.errors" 194
noncomputable def AeV:O:=.mk .none none (Data.func (FuncData.mk (.ofString "__init__") (.ofString "NoTurn.__init__") (fA (inC (tp 3) 0)) (.stmts (fB (inC (tp 3) 0))) (fS (inC (tp 3) 0)) 0 [] .none .none .none .none none .none .none 0)) #[]
noncomputable def AeZ:O:=sO 51
noncomputable def Afg:O:=bO #[.builtin "object.__init_subclass__",.ref 51]
noncomputable def AeK (P:Params):O:=dO #[dE P "__module__" 246 (sT "formcycle.errors" 194),dE P "__qualname__" 248 (sT "NoShape" 247),dE P "__firstlineno__" 250 (.int 11 249),dE P "__init__" 258 (.ref 67),dE P "__static_attributes__" 260 (.ref 68)] 5
noncomputable def AeF:O:=nO #[iZ 13,iZ 4,.ref 66]
noncomputable def Ae9:O:=cO #[sT "NoShape" 241,sT "NoShape" 242,sF 243,iZ 11,iZ 0,iZ 0,iZ 0,iZ 0,.ref 57,.bool false,iZ 181,.ref 58,.none,.none,.none,.none,iZ 244,iZ 11,sF 245]
noncomputable def AeT:O:=rO 59 56 "formcycle.errors" 194
noncomputable def AeM:O:=.mk .none none (Data.func (FuncData.mk (.ofString "__init__") (.ofString "NoShape.__init__") (fA (inC (tp 4) 0)) (.stmts (fB (inC (tp 4) 0))) (fS (inC (tp 4) 0)) 0 [] .none .none .none .none none .none .none 0)) #[]
noncomputable def AeS:O:=sO 70
noncomputable def Afz:O:=bO #[.builtin "object.__init_subclass__",.ref 70]
noncomputable def Ae4 (P:Params):O:=dO #[dE P "__module__" 271 (sT "formcycle.errors" 194),dE P "__qualname__" 273 (sT "TooGreat" 272),dE P "__firstlineno__" 275 (.int 15 274),dE P "__init__" 284 (.ref 86),dE P "__static_attributes__" 287 (.ref 87)] 5
noncomputable def Ae0:O:=nO #[iZ 17,iZ 4,.ref 85]
noncomputable def AeQ:O:=cO #[sT "TooGreat" 266,sT "TooGreat" 267,sF 268,iZ 15,iZ 0,iZ 0,iZ 0,iZ 0,.ref 76,.bool false,iZ 181,.ref 77,.none,.none,.none,.none,iZ 269,iZ 15,sF 270]
noncomputable def Afp:O:=rO 78 75 "formcycle.errors" 194
noncomputable def AeN:O:=.mk .none none (Data.func (FuncData.mk (.ofString "__init__") (.ofString "TooGreat.__init__") (fA (inC (tp 5) 0)) (.stmts (fB (inC (tp 5) 0))) (fS (inC (tp 5) 0)) 0 [] .none .none .none .none none .none .none 0)) #[]
noncomputable def Afu:O:=sO 89
noncomputable def Afe:O:=bO #[.builtin "object.__init_subclass__",.ref 89]
noncomputable def Afl (P:Params):O:=dO #[dE P "__module__" 298 (sT "formcycle.errors" 194),dE P "__qualname__" 300 (sT "NoRoot" 299),dE P "__firstlineno__" 302 (.int 20 301),dE P "__init__" 310 (.ref 105),dE P "__static_attributes__" 312 (.ref 106)] 5
noncomputable def Ae2:O:=nO #[iZ 22,iZ 4,.ref 104]
noncomputable def Aft:O:=cO #[sT "NoRoot" 293,sT "NoRoot" 294,sF 295,iZ 20,iZ 0,iZ 0,iZ 0,iZ 0,.ref 95,.bool false,iZ 181,.ref 96,.none,.none,.none,.none,iZ 296,iZ 20,sF 297]
noncomputable def Ae3:O:=rO 97 94 "formcycle.errors" 194
noncomputable def Aam:O:=.mk .none none (Data.func (FuncData.mk (.ofString "__init__") (.ofString "NoRoot.__init__") (fA (inC (tp 6) 0)) (.stmts (fB (inC (tp 6) 0))) (fS (inC (tp 6) 0)) 0 [] .none .none .none .none none .none .none 0)) #[]
noncomputable def Aby:O:=sO 108
noncomputable def AbQ:O:=bO #[.builtin "object.__init_subclass__",.ref 108]
noncomputable def AbN (P:Params):O:=dO #[dE P "__module__" 323 (sT "formcycle.errors" 194),dE P "__qualname__" 325 (sT "Apart" 324),dE P "__firstlineno__" 327 (.int 24 326),dE P "__static_attributes__" 328 (.ref 118)] 4
noncomputable def AbH:O:=cO #[sT "Apart" 318,sT "Apart" 319,sF 320,iZ 24,iZ 0,iZ 0,iZ 0,iZ 0,.ref 114,.bool false,iZ 181,.ref 115,.none,.none,.none,.none,iZ 321,iZ 24,sF 322]
noncomputable def AaR:O:=rO 116 113 "formcycle.errors" 194
noncomputable def AbD:O:=sO 120
noncomputable def AbJ:O:=bO #[.builtin "object.__init_subclass__",.ref 120]
noncomputable def Acb (P:Params):O:=dO #[dE P "__module__" 339 (sT "formcycle.errors" 194),dE P "__qualname__" 341 (sT "NotPlain" 340),dE P "__firstlineno__" 343 (.int 26 342),dE P "__init__" 351 (.ref 136),dE P "__static_attributes__" 353 (.ref 137)] 5
noncomputable def Abh:O:=nO #[iZ 28,iZ 4,.ref 135]
noncomputable def Aa7:O:=cO #[sT "NotPlain" 334,sT "NotPlain" 335,sF 336,iZ 26,iZ 0,iZ 0,iZ 0,iZ 0,.ref 126,.bool false,iZ 181,.ref 127,.none,.none,.none,.none,iZ 337,iZ 26,sF 338]
noncomputable def Abl:O:=rO 128 125 "formcycle.errors" 194
noncomputable def Aa4:O:=.mk .none none (Data.func (FuncData.mk (.ofString "__init__") (.ofString "NotPlain.__init__") (fA (inC (tp 8) 0)) (.stmts (fB (inC (tp 8) 0))) (fS (inC (tp 8) 0)) 0 [] .none .none .none .none none .none .none 0)) #[]
noncomputable def Abr:O:=sO 139
noncomputable def AaZ:O:=bO #[.builtin "object.__init_subclass__",.ref 139]
noncomputable def AiZ (P:Params):O:=dO #[dE P "__name__" 165 (sT "formcycle.shapes" 672),dE P "__doc__" 166 .none,dE P "__package__" 167 .none,dE P "__loader__" 168 (.builtin "__main__.__loader__#opaque"),dE P "__spec__" 169 .none,dE P "__annotations__" 170 (.ref 6),dE P "__builtins__" 171 (.ref 4),dE P "__file__" 173 (sF 172),dE P "__cached__" 174 .none,dE P "_wall" 193 (.ref 21),dE P "FormError" 213 (.ref 31),dE P "NoTurn" 238 (.ref 51),dE P "NoShape" 263 (.ref 70),dE P "TooGreat" 290 (.ref 89),dE P "NoRoot" 315 (.ref 108),dE P "Apart" 331 (.ref 120),dE P "NotPlain" 356 (.ref 139),dE P "NoMeasure" 381 (.ref 158),dE P "divisor" 392 (.ref 167),dE P "shares" 403 (.ref 174),dE P "row_less" 412 (.ref 181),dE P "root" 421 (.ref 188),dE P "is_square" 429 (.ref 195),dE P "powered" 441 (.ref 202),dE P "check_at_most" 449 (.ref 209),dE P "check_within" 457 (.ref 216),dE P "SAME" 464 (.ref 217),dE P "is_turn" 471 (.ref 224),dE P "check_turn" 478 (.ref 231),dE P "led" 486 (.ref 238),dE P "put_behind" 494 (.ref 245),dE P "back" 501 (.ref 252),dE P "measure" 510 (.ref 259),dE P "value" 520 (.ref 266),dE P "content" 527 (.ref 273),dE P "moved" 537 (.ref 280),dE P "middle" 547 (.ref 287),dE P "opposite" 554 (.ref 294),dE P "shape" 562 (.ref 301),dE P "check_bowl" 571 (.ref 308),dE P "stands_least" 581 (.ref 315),dE P "settled" 590 (.ref 322),dE P "turn_lower" 598 (.ref 329),dE P "MOST_MEASURE" 602 (.int 4000 601),dE P "check_saddle" 609 (.ref 336),dE P "stands_level" 618 (.ref 343),dE P "turn_behind" 629 (.ref 350),dE P "stop_behind" 638 (.ref 357),dE P "eased" 647 (.ref 364),dE P "stops_round" 658 (.ref 371),dE P "round_of" 664 (.ref 376),dE P "lowered" 671 (.ref 383),dE P "Shape" 728 (.ref 421)] 53
noncomputable def Agv:O:=nO #[iZ 1,iZ 0,.ref 20,iZ 5,iZ 0,.ref 27,iZ 7,iZ 0,.ref 40,iZ 11,iZ 0,.ref 59,iZ 15,iZ 0,.ref 78,iZ 20,iZ 0,.ref 97,iZ 24,iZ 0,.ref 116,iZ 26,iZ 0,.ref 128,iZ 30,iZ 0,.ref 147,iZ 35,iZ 0,.ref 166,iZ 41,iZ 0,.ref 173,iZ 51,iZ 0,.ref 180,iZ 53,iZ 0,.ref 187,iZ 64,iZ 0,.ref 194,iZ 69,iZ 0,.ref 201,iZ 78,iZ 0,.ref 208,iZ 81,iZ 0,.ref 215,iZ 86,iZ 0,.ref 223,iZ 88,iZ 0,.ref 230,iZ 91,iZ 0,.ref 237,iZ 94,iZ 0,.ref 244,iZ 96,iZ 0,.ref 251,iZ 100,iZ 0,.ref 258,iZ 102,iZ 0,.ref 265,iZ 106,iZ 0,.ref 272,iZ 108,iZ 0,.ref 279,iZ 113,iZ 0,.ref 286,iZ 116,iZ 0,.ref 293,iZ 118,iZ 0,.ref 300,iZ 128,iZ 0,.ref 307,iZ 131,iZ 0,.ref 314,iZ 138,iZ 0,.ref 321,iZ 146,iZ 0,.ref 328,iZ 153,iZ 0,.ref 335,iZ 157,iZ 0,.ref 342,iZ 160,iZ 0,.ref 349,iZ 165,iZ 0,.ref 356,iZ 168,iZ 0,.ref 363,iZ 175,iZ 0,.ref 370,iZ 185,iZ 0,.ref 375,iZ 190,iZ 0,.ref 382,iZ 194,iZ 0,.ref 389]
noncomputable def Aec (P:Params):O:=dO #[dE P "__module__" 364 (sT "formcycle.errors" 194),dE P "__qualname__" 366 (sT "NoMeasure" 365),dE P "__firstlineno__" 368 (.int 30 367),dE P "__init__" 376 (.ref 155),dE P "__static_attributes__" 378 (.ref 156)] 5
noncomputable def Aei:O:=nO #[iZ 32,iZ 4,.ref 154]
noncomputable def AcA:O:=cO #[sT "NoMeasure" 359,sT "NoMeasure" 360,sF 361,iZ 30,iZ 0,iZ 0,iZ 0,iZ 0,.ref 145,.bool false,iZ 181,.ref 146,.none,.none,.none,.none,iZ 362,iZ 30,sF 363]
noncomputable def AcD:O:=rO 147 144 "formcycle.errors" 194
noncomputable def AdW:O:=.mk .none none (Data.func (FuncData.mk (.ofString "__init__") (.ofString "NoMeasure.__init__") (fA (inC (tp 9) 0)) (.stmts (fB (inC (tp 9) 0))) (fS (inC (tp 9) 0)) 0 [] .none .none .none .none none .none .none 0)) #[]
noncomputable def AcM:O:=sO 158
noncomputable def AcZ:O:=bO #[.builtin "object.__init_subclass__",.ref 158]
noncomputable def AdI:O:=.mk .none none (Data.func (FuncData.mk (.ofString "divisor") (.ofString "divisor") (fA (tp 11)) (.stmts (fB (tp 11))) (fS (tp 11)) 0 [] .none .none .none .none none .none .none 0)) #[]
noncomputable def AdR:O:=.mk .none none (Data.func (FuncData.mk (.ofString "shares") (.ofString "shares") (fA (tp 12)) (.stmts (fB (tp 12))) (fS (tp 12)) 0 [] .none .none .none .none none .none .none 0)) #[]
noncomputable def Aeg:O:=.mk .none none (Data.func (FuncData.mk (.ofString "row_less") (.ofString "row_less") (fA (tp 13)) (.stmts (fB (tp 13))) (fS (tp 13)) 0 [] .none .none .none .none none .none .none 0)) #[]
noncomputable def AdQ:O:=.mk .none none (Data.func (FuncData.mk (.ofString "root") (.ofString "root") (fA (tp 14)) (.stmts (fB (tp 14))) (fS (tp 14)) 0 [] .none .none .none .none none .none .none 0)) #[]
noncomputable def Ad7:O:=.mk .none none (Data.func (FuncData.mk (.ofString "is_square") (.ofString "is_square") (fA (tp 15)) (.stmts (fB (tp 15))) (fS (tp 15)) 0 [] .none .none .none .none none .none .none 0)) #[]
noncomputable def Ac7:O:=.mk .none none (Data.func (FuncData.mk (.ofString "powered") (.ofString "powered") (fA (tp 16)) (.stmts (fB (tp 16))) (fS (tp 16)) 0 [] .none .none .none .none none .none .none 0)) #[]
noncomputable def Acx:O:=.mk .none none (Data.func (FuncData.mk (.ofString "check_at_most") (.ofString "check_at_most") (fA (tp 17)) (.stmts (fB (tp 17))) (fS (tp 17)) 0 [] .none .none .none .none none .none .none 0)) #[]
noncomputable def Ac9:O:=.mk .none none (Data.func (FuncData.mk (.ofString "check_within") (.ofString "check_within") (fA (tp 18)) (.stmts (fB (tp 18))) (fS (tp 18)) 0 [] .none .none .none .none none .none .none 0)) #[]
noncomputable def Adt:O:=.mk .none none (Data.func (FuncData.mk (.ofString "is_turn") (.ofString "is_turn") (fA (tp 21)) (.stmts (fB (tp 21))) (fS (tp 21)) 0 [] .none .none .none .none none .none .none 0)) #[]
noncomputable def Acn:O:=.mk .none none (Data.func (FuncData.mk (.ofString "check_turn") (.ofString "check_turn") (fA (tp 22)) (.stmts (fB (tp 22))) (fS (tp 22)) 0 [] .none .none .none .none none .none .none 0)) #[]
noncomputable def Ac6:O:=.mk .none none (Data.func (FuncData.mk (.ofString "led") (.ofString "led") (fA (tp 23)) (.stmts (fB (tp 23))) (fS (tp 23)) 0 [] .none .none .none .none none .none .none 0)) #[]
noncomputable def Aes:O:=.mk .none none (Data.func (FuncData.mk (.ofString "put_behind") (.ofString "put_behind") (fA (tp 24)) (.stmts (fB (tp 24))) (fS (tp 24)) 0 [] .none .none .none .none none .none .none 0)) #[]
noncomputable def AcE:O:=.mk .none none (Data.func (FuncData.mk (.ofString "back") (.ofString "back") (fA (tp 25)) (.stmts (fB (tp 25))) (fS (tp 25)) 0 [] .none .none .none .none none .none .none 0)) #[]
noncomputable def Acv:O:=.mk .none none (Data.func (FuncData.mk (.ofString "measure") (.ofString "measure") (fA (tp 27)) (.stmts (fB (tp 27))) (fS (tp 27)) 0 [] .none .none .none .none none .none .none 0)) #[]
noncomputable def Ac1:O:=.mk .none none (Data.func (FuncData.mk (.ofString "value") (.ofString "value") (fA (tp 28)) (.stmts (fB (tp 28))) (fS (tp 28)) 0 [] .none .none .none .none none .none .none 0)) #[]
noncomputable def Aej:O:=.mk .none none (Data.func (FuncData.mk (.ofString "content") (.ofString "content") (fA (tp 29)) (.stmts (fB (tp 29))) (fS (tp 29)) 0 [] .none .none .none .none none .none .none 0)) #[]
noncomputable def Aeq:O:=.mk .none none (Data.func (FuncData.mk (.ofString "moved") (.ofString "moved") (fA (tp 30)) (.stmts (fB (tp 30))) (fS (tp 30)) 0 [] .none .none .none .none none .none .none 0)) #[]
noncomputable def AdX:O:=.mk .none none (Data.func (FuncData.mk (.ofString "middle") (.ofString "middle") (fA (tp 31)) (.stmts (fB (tp 31))) (fS (tp 31)) 0 [] .none .none .none .none none .none .none 0)) #[]
noncomputable def AdU:O:=.mk .none none (Data.func (FuncData.mk (.ofString "opposite") (.ofString "opposite") (fA (tp 32)) (.stmts (fB (tp 32))) (fS (tp 32)) 0 [] .none .none .none .none none .none .none 0)) #[]
noncomputable def Ac3:O:=.mk .none none (Data.func (FuncData.mk (.ofString "shape") (.ofString "shape") (fA (tp 33)) (.stmts (fB (tp 33))) (fS (tp 33)) 0 [] .none .none .none .none none .none .none 0)) #[]
noncomputable def Aea:O:=.mk .none none (Data.func (FuncData.mk (.ofString "check_bowl") (.ofString "check_bowl") (fA (tp 35)) (.stmts (fB (tp 35))) (fS (tp 35)) 0 [] .none .none .none .none none .none .none 0)) #[]
noncomputable def Acs:O:=.mk .none none (Data.func (FuncData.mk (.ofString "stands_least") (.ofString "stands_least") (fA (tp 36)) (.stmts (fB (tp 36))) (fS (tp 36)) 0 [] .none .none .none .none none .none .none 0)) #[]
noncomputable def Adn:O:=.mk .none none (Data.func (FuncData.mk (.ofString "settled") (.ofString "settled") (fA (tp 37)) (.stmts (fB (tp 37))) (fS (tp 37)) 0 [] .none .none .none .none none .none .none 0)) #[]
noncomputable def AcK:O:=.mk .none none (Data.func (FuncData.mk (.ofString "turn_lower") (.ofString "turn_lower") (fA (tp 38)) (.stmts (fB (tp 38))) (fS (tp 38)) 0 [] .none .none .none .none none .none .none 0)) #[]
noncomputable def AdK:O:=.mk .none none (Data.func (FuncData.mk (.ofString "check_saddle") (.ofString "check_saddle") (fA (tp 41)) (.stmts (fB (tp 41))) (fS (tp 41)) 0 [] .none .none .none .none none .none .none 0)) #[]
noncomputable def AdE:O:=.mk .none none (Data.func (FuncData.mk (.ofString "stands_level") (.ofString "stands_level") (fA (tp 42)) (.stmts (fB (tp 42))) (fS (tp 42)) 0 [] .none .none .none .none none .none .none 0)) #[]
noncomputable def AdB:O:=.mk .none none (Data.func (FuncData.mk (.ofString "turn_behind") (.ofString "turn_behind") (fA (tp 43)) (.stmts (fB (tp 43))) (fS (tp 43)) 0 [] .none .none .none .none none .none .none 0)) #[]
noncomputable def Ac4:O:=.mk .none none (Data.func (FuncData.mk (.ofString "stop_behind") (.ofString "stop_behind") (fA (tp 44)) (.stmts (fB (tp 44))) (fS (tp 44)) 0 [] .none .none .none .none none .none .none 0)) #[]
noncomputable def AcJ:O:=.mk .none none (Data.func (FuncData.mk (.ofString "eased") (.ofString "eased") (fA (tp 45)) (.stmts (fB (tp 45))) (fS (tp 45)) 0 [] .none .none .none .none none .none .none 0)) #[]
noncomputable def Ad5:O:=.mk .none none (Data.func (FuncData.mk (.ofString "stops_round") (.ofString "stops_round") (fA (tp 46)) (.stmts (fB (tp 46))) (fS (tp 46)) 0 [] .none .none .none .none none .none .none 0)) #[]
noncomputable def Ad2:O:=.mk .none none (Data.func (FuncData.mk (.ofString "round_of") (.ofString "round_of") (fA (tp 47)) (.stmts (fB (tp 47))) (fS (tp 47)) 0 [] .none .none .none .none none .none .none 0)) #[]
noncomputable def AcQ:O:=.mk .none none (Data.func (FuncData.mk (.ofString "lowered") (.ofString "lowered") (fA (tp 48)) (.stmts (fB (tp 48))) (fS (tp 48)) 0 [] .none .none .none .none none .none .none 0)) #[]
noncomputable def Aef (P:Params):O:=dO #[dE P "__module__" 681 (sT "formcycle.shapes" 672),dE P "__qualname__" 683 (sT "Shape" 682),dE P "__firstlineno__" 685 (.int 194 684),dE P "__init__" 694 (.ref 397),dE P "least" 701 (.ref 404),dE P "leaves" 709 (.ref 411),dE P "way_to" 717 (.ref 418),dE P "__static_attributes__" 721 (.ref 419)] 8
noncomputable def Adw:O:=nO #[iZ 196,iZ 4,.ref 396,iZ 201,iZ 4,.ref 403,iZ 204,iZ 4,.ref 410,iZ 207,iZ 4,.ref 417]
noncomputable def Aco:O:=cO #[sT "Shape" 676,sT "Shape" 677,sF 678,iZ 194,iZ 0,iZ 0,iZ 0,iZ 0,.ref 387,.bool false,iZ 181,.ref 388,.none,.none,.none,.none,iZ 679,iZ 194,sF 680]
noncomputable def AcY:O:=rO 389 386 "formcycle.shapes" 672
noncomputable def AcF:O:=.mk .none none (Data.func (FuncData.mk (.ofString "__init__") (.ofString "Shape.__init__") (fA (inC (tp 50) 0)) (.stmts (fB (inC (tp 50) 0))) (fS (inC (tp 50) 0)) 0 [] .none .none .none .none none .none .none 0)) #[]
noncomputable def AdP:O:=.mk .none none (Data.func (FuncData.mk (.ofString "least") (.ofString "Shape.least") (fA (inC (tp 50) 1)) (.stmts (fB (inC (tp 50) 1))) (fS (inC (tp 50) 1)) 0 [] .none .none .none .none none .none .none 0)) #[]
noncomputable def AcT:O:=.mk .none none (Data.func (FuncData.mk (.ofString "leaves") (.ofString "Shape.leaves") (fA (inC (tp 50) 2)) (.stmts (fB (inC (tp 50) 2))) (fS (inC (tp 50) 2)) 0 [] .none .none .none .none none .none .none 0)) #[]
noncomputable def Adu:O:=.mk .none none (Data.func (FuncData.mk (.ofString "way_to") (.ofString "Shape.way_to") (fA (inC (tp 50) 3)) (.stmts (fB (inC (tp 50) 3))) (fS (inC (tp 50) 3)) 0 [] .none .none .none .none none .none .none 0)) #[]
noncomputable def Acz:O:=.mk (.type "type") none (Data.cls (ClassData.mk (.ofString "Shape") [.type "object"] [.ref 421,.type "object"] 420 (.ofString "Shape") Bool.true [] [] Bool.false none Bool.false)) #[none,none,some (sT "Shape" 674),some (sT "Shape" 682),some (.builtin "object.__new__"),some (.bool true)]
noncomputable def AdJ:O:=sO 421
noncomputable def Ac2:O:=bO #[.builtin "object.__init_subclass__",.ref 421]
noncomputable def tr0 (P:Params):BT:=Nd (boot_o_0 P) (Nd (boot_o_1 P) (Nd (boot_o_3 P) (Lf (boot_o_7 P)) (Lf tE)) (Nd (boot_o_5 P) (Lf (boot_o_9 P)) (Lf AaF))) (Nd (boot_o_2 P) (Nd (boot_o_4 P) (Lf (boot_o_8 P)) (Lf Bj)) (Nd (boot_o_6 P) (Lf (boot_o_10 P)) (Lf AbS)))
noncomputable def St0 (w:World) (os:OsState):SharedT:=⟨tr0 w.params,15,Life.mk [] [] [] 0 [] [] Bool.false #[] [] 0 Bool.false Bool.false Bool.false 0 [2000,10,10] Bool.false 0 Bool.true [] [] 0 Bool.false,Array.mk [],Drawn.mk 0 0 0 0,187,os⟩
noncomputable def ps0:Pos:=⟨0,0,0,0⟩
noncomputable def tr9 (P:Params):BT:=Nd (boot_o_0 P) (Nd (boot_o_1 P) (Nd (Ame P) (Nd (boot_o_7 P) (Nd tE (Nd Akv (Nd o63 (Lf Abh) .nil) (Lf tE)) (Nd o47 (Lf Afp) (Lf o111))) (Nd GX (Nd Afk (Nd AeS (Lf Agf) .nil) (Lf Aam)) (Nd GX (Lf o87) (Lf (AgK P))))) (Nd tE (Nd Afi (Nd o35 (Nd o67 (Lf Bj) .nil) (Lf tE)) (Nd o51 (Lf tE) (Lf Bj))) (Nd AeY (Nd Bj (Nd (Ae4 P) (Lf Af9) .nil) (Lf (AgQ P))) (Nd Ae9 (Lf Afe) (Lf AgY))))) (Nd (boot_o_5 P) (Nd (boot_o_9 P) (Nd o17 (Nd AeE (Nd AeM (Lf Abl) .nil) (Lf Aft)) (Nd o49 (Lf Bj) (Lf (AbN P)))) (Nd tE (Nd Afq (Nd o73 (Lf Ag3) .nil) (Lf Agc)) (Nd tE (Lf o89) (Lf AbD)))) (Nd AaF (Nd o21 (Nd (Aew P) (Nd (o69 P) (Lf tE) .nil) (Lf Ago)) (Nd Afg (Lf o85) (Lf AaR))) (Nd tE (Nd tE (Nd Ae0 (Lf AaZ) .nil) (Lf Aby)) (Nd tE (Lf GX) (Lf (Acb P))))))) (Nd (boot_o_2 P) (Nd (boot_o_4 P) (Nd (boot_o_8 P) (Nd Bj (Nd o32 (Nd tE (Lf Aa7) .nil) (Lf Ae2)) (Nd o48 (Lf tE) (Lf GX))) (Nd (Afc P) (Nd AeU (Nd Afz (Lf Agx) .nil) (Lf Ag0)) (Nd (AeK P) (Lf (o88 P)) (Lf Ag1)))) (Nd AkG (Nd o20 (Nd GX (Nd o68 (Lf Ahf) .nil) (Lf Bj)) (Nd AeZ (Lf AeN) (Lf AbH))) (Nd AeA (Nd o44 (Nd tE (Lf Abr) .nil) (Lf Ahj)) (Nd AeT (Lf o92) (Lf GX))))) (Nd (boot_o_6 P) (Nd (boot_o_10 P) (Nd tE (Nd Afd (Nd o66 (Lf tE) .nil) (Lf Ae3)) (Nd (o50 P) (Lf o82) (Lf tE))) (Nd Bj (Nd tE (Nd GX (Lf (AfO P)) .nil) (Lf AgW)) (Nd AeF (Lf Afu) (Lf AbJ)))) (Nd AbS (Nd o22 (Nd tE (Nd o70 (Lf Aa4) .nil) (Lf tE)) (Nd o54 (Lf o86) (Lf tE))) (Nd (o30 P) (Nd AeV (Lf AeQ) (Lf AbQ)) (Nd Bj (Lf (Afl P)) (Lf tE))))))
noncomputable def St9 (w:World) (os:OsState):SharedT:=⟨tr9 w.params,142,Life.mk [] [] [] 0 [] [] Bool.false #[] [] 0 Bool.false Bool.false Bool.false 0 [2000,10,10] Bool.false 0 Bool.true [] [] 0 Bool.false,Array.mk [],Drawn.mk 0 0 0 0,357,os⟩
noncomputable def ps9:Pos:=⟨26,0,29,24⟩
noncomputable def AlF (P:Params):BT:=Nd (boot_o_0 P) (Nd (boot_o_1 P) (Nd (AiZ P) (Nd (boot_o_7 P) (Nd tE (Nd o31 (Nd o63 (Nd Abh (Lf AhB) (Lf Ajc)) (Nd AkE (Lf tE) .nil)) (Nd tE (Nd AcM (Lf Aif) (Lf tE)) (Nd AkB (Lf tE) .nil))) (Nd o47 (Nd Afp (Nd GX (Lf Aej) (Lf Bj)) (Nd Acx (Lf AhY) .nil)) (Nd o111 (Nd tE (Lf Bj) .nil) (Nd tE (Lf Ak8) .nil)))) (Nd GX (Nd Afk (Nd AeS (Nd Agf (Lf tE) (Lf tE)) (Nd tE (Lf AcK) .nil)) (Nd Aam (Nd Ah4 (Lf tE) (Lf Ajk)) (Nd AkA (Lf Bj) .nil))) (Nd GX (Nd o87 (Nd Aj6 (Lf Ajg) (Lf Aks)) (Nd AkO (Lf AjK) .nil)) (Nd (AgK P) (Nd Bj (Lf Ajs) .nil) (Nd Bj (Lf AhG) .nil))))) (Nd tE (Nd Afi (Nd o35 (Nd o67 (Nd Bj (Lf Ajx) (Lf tE)) (Nd AjF (Lf tE) .nil)) (Nd tE (Nd Ajf (Lf tE) (Lf AjC)) (Nd AjJ (Lf Ac4) .nil))) (Nd o51 (Nd tE (Nd AcA (Lf Bj) (Lf AhS)) (Nd Bj (Lf AhT) .nil)) (Nd Bj (Nd Aeg (Lf Ak1) .nil) (Nd Aes (Lf AiK) .nil)))) (Nd AeY (Nd Bj (Nd (Ae4 P) (Nd Af9 (Lf tE) (Lf AcF)) (Nd tE (Lf Bj) .nil)) (Nd (AgQ P) (Nd tE (Lf Ac3) .nil) (Nd tE (Lf Aic) .nil))) (Nd Ae9 (Nd Afe (Nd AkU (Lf AiR) (Lf Ajl)) (Nd Bj (Lf tE) .nil)) (Nd AgY (Nd Ajb (Lf Aj5) .nil) (Nd AhM (Lf AkS) .nil)))))) (Nd (boot_o_5 P) (Nd (boot_o_9 P) (Nd o17 (Nd AeE (Nd AeM (Nd Abl (Lf Acv) (Lf GX)) (Nd Ad7 (Lf AjD) .nil)) (Nd Aft (Nd tE (Lf Bj) (Lf Ail)) (Nd tE (Lf AhK) .nil))) (Nd o49 (Nd Bj (Nd tE (Lf AjA) (Lf tE)) (Nd Ak4 (Lf tE) .nil)) (Nd (AbN P) (Nd AhV (Lf tE) .nil) (Nd Ah5 (Lf Ad5) .nil)))) (Nd tE (Nd Afq (Nd o73 (Nd Ag3 (Lf Ajh) (Lf AiO)) (Nd Akm (Lf Aka) .nil)) (Nd Agc (Nd Bj (Lf AjR) (Lf Ac2)) (Nd Bj (Lf tE) .nil))) (Nd tE (Nd o89 (Nd AdW (Lf tE) (Lf AcT)) (Nd Ajt (Lf Bj) .nil)) (Nd AbD (Nd tE (Lf Acs) .nil) (Nd tE (Lf tE) .nil))))) (Nd AaF (Nd o21 (Nd (Aew P) (Nd (o69 P) (Nd tE (Lf Bj) (Lf Aco)) (Nd Bj (Lf Ajd) .nil)) (Nd Ago (Nd AdI (Lf Ahy) (Lf Acz)) (Nd Acn (Lf Ajj) .nil))) (Nd Afg (Nd o85 (Nd tE (Lf tE) (Lf tE)) (Nd tE (Lf AdE) .nil)) (Nd AaR (Nd AjL (Lf tE) .nil) (Nd Aib (Lf Bj) .nil)))) (Nd tE (Nd tE (Nd Ae0 (Nd AaZ (Lf Aky) (Lf Akc)) (Nd AkI (Lf tE) .nil)) (Nd Aby (Nd AhD (Lf AhO) .nil) (Nd Aj1 (Lf tE) .nil))) (Nd tE (Nd GX (Nd (AkK P) (Lf AdX) (Lf Bj)) (Nd tE (Lf AkZ) .nil)) (Nd (Acb P) (Nd tE (Lf Bj) .nil) (Nd tE (Lf AcQ) .nil))))))) (Nd (boot_o_2 P) (Nd (boot_o_4 P) (Nd (boot_o_8 P) (Nd Bj (Nd o32 (Nd tE (Nd Aa7 (Lf tE) (Lf tE)) (Nd tE (Lf Adn) .nil)) (Nd Ae2 (Nd AcZ (Lf tE) (Lf Adu)) (Nd AhW (Lf Bj) .nil))) (Nd o48 (Nd tE (Nd (Aec P) (Lf AkH) (Lf o400)) (Nd Ajw (Lf AjH) .nil)) (Nd GX (Nd Bj (Lf AhX) .nil) (Nd Bj (Lf tE) .nil)))) (Nd (Afc P) (Nd AeU (Nd Afz (Nd Agx (Lf Ac1) (Lf Bj)) (Nd Ac7 (Lf Ah8) .nil)) (Nd Ag0 (Nd tE (Lf Bj) (Lf AdJ)) (Nd tE (Lf Aik) .nil))) (Nd (AeK P) (Nd (o88 P) (Nd tE (Lf AiU) (Lf tE)) (Nd AkL (Lf tE) .nil)) (Nd Ag1 (Nd AiV (Lf tE) .nil) (Nd AkJ (Lf Aih) .nil))))) (Nd Agv (Nd o20 (Nd GX (Nd o68 (Nd Ahf (Lf tE) (Lf Adw)) (Nd tE (Lf Bj) .nil)) (Nd Bj (Nd tE (Lf AdU) (Lf (Aio P))) (Nd tE (Lf Aiz) .nil))) (Nd AeZ (Nd AeN (Nd AcD (Lf Aju) (Lf AiB)) (Nd Ah7 (Lf tE) .nil)) (Nd AbH (Nd Akd (Lf AhQ) .nil) (Nd Ain (Lf tE) .nil)))) (Nd AeA (Nd o44 (Nd tE (Nd Abr (Lf Bj) (Lf Ajm)) (Nd Bj (Lf Aj2) .nil)) (Nd Ahj (Nd AdR (Lf o300) .nil) (Nd Ac6 (Lf AiX) .nil))) (Nd AeT (Nd o92 (Nd Aia (Lf tE) (Lf tE)) (Nd AkN (Lf AdB) .nil)) (Nd GX (Nd Aj8 (Lf tE) .nil) (Nd AiG (Lf tE) .nil)))))) (Nd (boot_o_6 P) (Nd (boot_o_10 P) (Nd tE (Nd Afd (Nd o66 (Nd tE (Lf Aje) (Lf (Aef P))) (Nd Akb (Lf Ajy) .nil)) (Nd Ae3 (Nd Bj (Lf Akn) (Lf AhA)) (Nd Bj (Lf tE) .nil))) (Nd (o50 P) (Nd o82 (Nd Aei (Lf tE) (Lf AdP)) (Nd tE (Lf Bj) .nil)) (Nd tE (Nd tE (Lf Aea) .nil) (Nd tE (Lf Ai0) .nil)))) (Nd Bj (Nd tE (Nd GX (Nd (AfO P) (Lf Aie) (Lf tE)) (Nd Ahv (Lf tE) .nil)) (Nd AgW (Nd Aiy (Lf tE) .nil) (Nd AjZ (Lf AcJ) .nil))) (Nd AeF (Nd Afu (Nd AiS (Lf Bj) (Lf AiN)) (Nd tE (Lf Ah1) .nil)) (Nd AbJ (Nd AdQ (Lf Ahx) .nil) (Nd AcE (Lf Bj) .nil))))) (Nd AbS (Nd o22 (Nd tE (Nd o70 (Nd Aa4 (Lf Ako) (Lf AcY)) (Nd Ai8 (Lf tE) .nil)) (Nd tE (Nd Ajn (Lf Akf) (Lf Ak6)) (Nd Akp (Lf tE) .nil))) (Nd o54 (Nd o86 (Nd Bj (Lf Aeq) (Lf Bj)) (Nd Ac9 (Lf Ai5) .nil)) (Nd tE (Nd tE (Lf Bj) .nil) (Nd tE (Lf Ad2) .nil)))) (Nd (o30 P) (Nd AeV (Nd AeQ (Nd Ah9 (Lf tE) (Lf tE)) (Nd tE (Lf AdK) .nil)) (Nd AbQ (Nd Aji (Lf tE) .nil) (Nd AkF (Lf Bj) .nil))) (Nd Bj (Nd (Afl P) (Nd Akx (Lf AiE) (Lf AiH)) (Nd Adt (Lf Aip) .nil)) (Nd tE (Nd Bj (Lf Ak9) .nil) (Nd Bj (Lf AhC) .nil)))))))
noncomputable def Akr (w:World) (os:OsState):SharedT:=⟨AlF w.params,426,Life.mk [] [] [] 0 [] [] Bool.false #[] [] 0 Bool.false Bool.false Bool.false 0 [2000,10,10] Bool.false 0 Bool.true [] [] 0 Bool.false,Array.mk [],Drawn.mk 0 0 0 0,729,os⟩
noncomputable def Ak2:Pos:=⟨194,0,208,16⟩
end
noncomputable def vw:Program:={ PySem.Challenge.pw_formcycle_k48_orders_and_powers with main:={ PySem.Challenge.pw_formcycle_k48_orders_and_powers.main with body:=[tp 0,tp 2,tp 3,tp 4,tp 5,tp 6,tp 7,tp 8,tp 9,tp 11,tp 12,tp 13,tp 14,tp 15,tp 16,tp 17,tp 18,tp 20,tp 21,tp 22,tp 23,tp 24,tp 25,tp 27,tp 28,tp 29,tp 30,tp 31,tp 32,tp 33,tp 35,tp 36,tp 37,tp 38,tp 40,tp 41,tp 42,tp 43,tp 44,tp 45,tp 46,tp 47,tp 48,tp 50,tp 51,tp 52,tp 53,tp 54,tp 56,tp 57,tp 58,tp 59,tp 60,tp 61,tp 62,tp 63,tp 65,tp 66,tp 67,tp 68,tp 69,tp 70,tp 71,tp 72,tp 73,tp 75,tp 76,tp 77,tp 78,tp 79,tp 80,tp 81,tp 82,tp 83,tp 84] } }
noncomputable def asK:List Nat:=[2,3,15,17,18,20,21,22,29,30,31,32,35,42,44,45,47,48,49,50,51,54,61,63,64,66,67,68,69,70,73,80,82,83,85,86,87,88,89,92,99,101,102,104,105,106,107,108,111,118,119,120,123,130,132,133,135,136,137,138,139,142,149,151,152,154,155,156,157,158,161,163,164,166,167,168,170,171,173,174,175,177,178,180,181,182,184,185,187,188,189,191,192,194,195,196,198,199,201,202,203,205,206,208,209,210,212,213,215,216,217,218,220,221,223,224,225,227,228,230,231,232,234,235,237,238,239,241,242,244,245,246,248,249,251,252,253,255,256,258,259,260,262,263,265,266,267,269,270,272,273,274,276,277,279,280,281,283,284,286,287,288,290,291,293,294,295,297,298,300,301,302,304,305,307,308,309,311,312,314,315,316,318,319,321,322,323,325,326,328,329,330,332,333,335,336,337,339,340,342,343,344,346,347,349,350,351,353,354,356,357,358,360,361,363,364,365,367,368,370,371,372,375,376,377,379,380,382,383,391,393,394,396,397,398,400,401,403,404,405,407,408,410,411,412,414,415,417,418,419,420,421,422,423,426,433,435,436,438,439,440,441,442,445,452,454,455,457,458,459,460,461,464,466,467,469,470,471,473,474,476,477,478,480,481,483,484,485,487,488,490,491,492,494,495,497,498,499,501,502,504,505,506,508,509,511,512,513,515,516,518,519,520,522,523,525,526,527,530,531,532,534,535,537,538,539,541,542,544,545,546,548,549,551,552,553,556,557,558,560,561,563,564,565,568,569,570,572,573,575,576,577,579,580,582,583,584,586,587,589,590,591,593,594,596,597,598,600,601,603,604,605,608,609,610,612,613,615,616,617,619,620,622,623,624,626,627,629,630,631,633,634,636,637,638,640,641,643,644,645,647,648,650,651,652,654,655,657,658]
noncomputable def bE:List Stmt:=behindTheImports PySem.Challenge.rw_formcycle_k48_orders_and_powers.row.prog
noncomputable def ev:Env:={ scope:=PySem.Challenge.rw_formcycle_k48_orders_and_powers.row.prog.main.scope,locals:=mainNs,globals:=mainNs,cells:=[],code:=.ref 13,frame:=some 14 }
noncomputable def cc:Code:=.body bE ev
noncomputable def qq:Pos:=.mk 0 0 0 0
noncomputable def pp:Pos:=⟨0,0,0,0⟩
theorem AhZ:∀ w os,goT treeTable PySem.Challenge.rw_formcycle_k48_orders_and_powers.row.prog w 11 (some (.ref 6)) 12 (RT w os) (topStub PySem.Challenge.rw_formcycle_k48_orders_and_powers.row.prog)=some (St0 w os,⟨denote treeTable cc,cc,pp,[topFrame qq]⟩):=fun w os=>by kernel_rfl
theorem AjO:∀ w os,segRunT treeTable PySem.Challenge.rw_formcycle_k48_orders_and_powers.row.prog w 11 (some (.ref 6)) 1 1 (St0 w os) (blockOf bE ev cc pp [topFrame qq])=some (.next,St0 w os,cc,ps0):=fun w os=>by kernel_rfl
noncomputable def l9:List Stmt:=List.take 9 bE
noncomputable def r9:List Stmt:=List.drop 9 bE
theorem g_9:∀ w os,segRunT treeTable PySem.Challenge.rw_formcycle_k48_orders_and_powers.row.prog w 11 (some (.ref 6)) 1 1665 (St0 w os) (piecesOf l9 ev cc ps0 [topFrame qq])=some (.next,St9 w os,cc,ps9):=fun w os=>by kernel_rfl
noncomputable def l51:List Stmt:=List.take 42 r9
noncomputable def r51:List Stmt:=List.drop 42 r9
theorem Amr:∀ w os,segRunT treeTable PySem.Challenge.rw_formcycle_k48_orders_and_powers.row.prog w 11 (some (.ref 6)) 1 1618 (St9 w os) (piecesOf l51 ev cc ps9 [topFrame qq])=some (.next,Akr w os,cc,Ak2):=fun w os=>by kernel_rfl
noncomputable def TL (w:World) (os:OsState):Option SharedT:=U3 treeTable PySem.Challenge.rw_formcycle_k48_orders_and_powers.row.prog w 11 (some (.ref 6)) 1470 (Akr w os) (restOf r51 ev cc Ak2 [topFrame qq])
theorem hr:∀ w os r,TL w os=some r→topRun treeTable PySem.Challenge.rw_formcycle_k48_orders_and_powers.row.prog w (BJ w os).heap.objs.size ((BJ w os).heap.nsMap mainGlobals "__annotations__") 4766 (BJ w os) (topStub PySem.Challenge.rw_formcycle_k48_orders_and_powers.row.prog)=some r.abs:=fun w os r h=>by
 rw [show (BJ w os).heap.objs.size=11 by kernel_rfl,show (BJ w os).heap.nsMap mainGlobals "__annotations__"=some (.ref 6) by kernel_rfl]
 have k:=Sw _ h
 have k:=piece_app (segRun_of (Amr w os)) k
 rw [show l51 ++ r51=r9 from List.take_append_drop _ _] at k
 have k:=piece_app (segRun_of (g_9 w os)) k
 rw [show l9 ++ r9=bE from List.take_append_drop _ _] at k
 have k:=piece_block (segRun_of (AjO w os)) k
 have k:=go_top (Aa6 _ (AhZ w os)) k
 rw [boot_abs] at k
 exact k
noncomputable def sA0 (s:Shared):=PyProof.Rows.seen ((PyProof.Rows.recsOf vw).map (·.name)) (PyProof.Rows.ownsOf vw) [] { s with gens:=#[] }
noncomputable def sA1 (s:Shared):=s.heap.bltView
noncomputable def sA2 (s:Shared):=s.heap.keysOk (looseW vw []) ((PyProof.Rows.recsOf vw).map (·.name)) ((PyProof.Rows.litsOf vw).map (·.1)) ((PyProof.Rows.clssOf vw (looseW vw [])).map (·.name)) && s.heap.accountedOkI (importedModules PySem.Challenge.rw_formcycle_k48_orders_and_powers.row.prog.main.body) && s.heap.isNs mainGlobals && s.heap.isNs builtinsNs && PyProof.Rows.tablesOk vw s.heap && (xlAt vw [] s && recOk (RowW.records PySem.Challenge.rw_formcycle_k48_orders_and_powers.row.toRowW) s) && (if true then s.gens.size == 0 else !leftWithCleanup s.gens)
noncomputable def sA3 (s:Shared):=PyProof.Rows.tabsOk vw s
noncomputable def sA4 (s:Shared):=pinSeenD vw (PyProof.Rows.drecsOf vw) s
noncomputable def sA5 (s:Shared):=PyProof.Rows.plainSeenE vw (looseW vw []) s
noncomputable def sA6 (s:Shared):=PyProof.Rows.plainSeenD vw [] s
noncomputable def sA7 (s:Shared):=wideSeen vw s
noncomputable def sA8 (s:Shared):=clsSeenW vw [] s
theorem hA:∀ (w:World) (os:OsState),(TL w os).map (fun r=>stays PySem.Challenge.rw_formcycle_k48_orders_and_powers.row.prog (BJ w os) r.abs)=some true:=fun w os=>by kernel_rfl
theorem hB0:∀ (w:World) (os:OsState),(TL w os).map (fun r=>sA0 r.abs)=some (PyProof.Rows.expectedOf vw):=fun w os=>by kernel_rfl
theorem hB1:∀ (w:World) (os:OsState),(TL w os).map (fun r=>(sA1 r.abs,sA3 r.abs,sA4 r.abs,sA6 r.abs,sA8 r.abs))=some (bltViewBooted,true,pinGoodD (PyProof.Rows.drecsOf vw),PyProof.Rows.plainGoodD vw [],clsGoodW vw []):=fun w os=>by kernel_rfl
theorem hB2:∀ (w:World) (os:OsState),(TL w os).map (fun r=>sA2 r.abs)=some true:=fun w os=>by kernel_rfl
theorem hB5:∀ (w:World) (os:OsState),(TL w os).map (fun r=>sA5 r.abs)=some (PyProof.Rows.plainGoodE vw (looseW vw [])):=fun w os=>by kernel_rfl
theorem hB7:∀ (w:World) (os:OsState),(TL w os).map (fun r=>sA7 r.abs)=some (wideGood vw):=fun w os=>by kernel_rfl
theorem nine {α0 α1 α2 α3 α4 α5 α6 α7 α8:Type} {o:Option SharedT} {A0:Shared→α0} {A1:Shared→α1} {A2:Shared→α2} {A3:Shared→α3} {A4:Shared→α4} {A5:Shared→α5} {A6:Shared→α6} {A7:Shared→α7} {A8:Shared→α8} {a0:α0} {a1:α1} {a2:α2} {a3:α3} {a4:α4} {a5:α5} {a6:α6} {a7:α7} {a8:α8}
  (h0:o.map (fun r=>A0 r.abs)=some a0) (h1:o.map (fun r=>(A1 r.abs,A3 r.abs,A4 r.abs,A6 r.abs,A8 r.abs))=some (a1,a3,a4,a6,a8)) (h2:o.map (fun r=>A2 r.abs)=some a2) (h5:o.map (fun r=>A5 r.abs)=some a5) (h7:o.map (fun r=>A7 r.abs)=some a7) :
  o.map (fun r=>(A0 r.abs,A1 r.abs,A2 r.abs,A3 r.abs,A4 r.abs,A5 r.abs,A6 r.abs,A7 r.abs,A8 r.abs))=some (a0,a1,a2,a3,a4,a5,a6,a7,a8):=by
 cases o with
 | none=>cases h0
 | some r =>
  simp only [Option.map_some,Option.some.injEq,Prod.mk.injEq] at h0 h1 h2 h5 h7 ⊢
  exact ⟨h0,h1.1,h2,h1.2.1,h1.2.2.1,h5,h1.2.2.2.1,h7,h1.2.2.2.2⟩
theorem hB:∀ (w:World) (os:OsState),(TL w os).map (fun r=>openSeen vw [] (importedModules PySem.Challenge.rw_formcycle_k48_orders_and_powers.row.prog.main.body) (fun s=>xlAt vw [] s && recOk (RowW.records PySem.Challenge.rw_formcycle_k48_orders_and_powers.row.toRowW) s) true r.abs)=some (openGood vw []):=fun w os=>nine (A0:=sA0) (A1:=sA1) (A2:=sA2) (A3:=sA3) (A4:=sA4) (A5:=sA5) (A6:=sA6) (A7:=sA7) (A8:=sA8) (hB0 w os) (hB1 w os) (hB2 w os) (hB5 w os) (hB7 w os)
theorem hC:∀ (w:World) (os:OsState),(TL w os).map (fun r=>Hook.obs (kHook My.KK My.asK (fun _=>by kernel_rfl)) r.abs)=some (Hook.val (kHook My.KK My.asK (fun _=>by kernel_rfl)) w):=fun w os=>by kernel_rfl
theorem hl:LeftO PySem.Challenge.rw_formcycle_k48_orders_and_powers.row.prog vw [] (fun s=>xlAt vw [] s && recOk (RowW.records PySem.Challenge.rw_formcycle_k48_orders_and_powers.row.toRowW) s) (Hook.obs (kHook My.KK My.asK (fun _=>by kernel_rfl))) (Hook.val (kHook My.KK My.asK (fun _=>by kernel_rfl))) 4766:=fun w=>AbL (TL:=TL w) (by kernel_rfl) (by decide) (fun _=>by kernel_rfl) (hr w) (hA w) (hB w) (hC w) (fun os=>by kernel_rfl)
end My
namespace L2
open PySem PySem.Spec PyProof.Rows
noncomputable abbrev Key:=Sum Int Str
noncomputable def Ye:Key→Value→Bool
 | .inl k,v=>Value.isInt k v
 | .inr x,v=>Value.isStrOf x v
noncomputable def AfX (w:World):Key→Int
 | .inl k=>hashInt k
 | .inr x=>hashStr w x
theorem Dd:∀ {k:Key} {v:Value},Ye k v=true→(∃ i t,k=Sum.inl i∧v=Value.int i t)∨(∃ x t,k=Sum.inr x∧v=Value.str x t)
 | .inl i,v,h=>by
  obtain ⟨t,e⟩:=Value.isInt_shape (k:=i) (v:=v) h
  exact .inl ⟨i,t,rfl,e⟩
 | .inr x,v,h=>by
  obtain ⟨t,e⟩:=Value.isStrOf_shape (x:=x) (v:=v) h
  exact .inr ⟨x,t,rfl,e⟩
theorem Z8 (i:Int) (t:Tok):Ye (.inl i) (.int i t)=true:=by simp [Ye,Value.isInt]
theorem Af0 (a b:Int):decide ((Sum.inl a:Key)=Sum.inl b)=(a == b):=by
 by_cases e:a=b
 ·subst e;simp
 ·have h:¬ (Sum.inl a:Key)=Sum.inl b:=fun q=>e (Sum.inl.inj q)
  rw [decide_eq_false h]
  exact (beq_eq_false_iff_ne.mpr e).symm
theorem Ag9 (a b:Str):decide ((Sum.inr a:Key)=Sum.inr b)=decide (a=b):=by
 by_cases e:a=b
 ·subst e;simp
 ·have h:¬ (Sum.inr a:Key)=Sum.inr b:=fun q=>e (Sum.inr.inj q)
  rw [decide_eq_false h,decide_eq_false e]
theorem AgB (a:Int) (b:Str):decide ((Sum.inl a:Key)=Sum.inr b)=false:=decide_eq_false (fun q=>nomatch q)
theorem AfM (a:Str) (b:Int):decide ((Sum.inr a:Key)=Sum.inl b)=false:=decide_eq_false (fun q=>nomatch q)
noncomputable def GZ (prog:Program) (w:World):PySem.KeyKind prog w Key where
 is:=Ye
 hash:=AfX w
 inj:=fun v a b ha hb=>by
  rcases Dd ha with ⟨i,t,rfl,rfl⟩ | ⟨x,t,rfl,rfl⟩
  ·rcases Dd hb with ⟨j,u,rfl,e⟩ | ⟨y,u,rfl,e⟩
   ·injection e with e1 _;rw [e1]
   ·exact nomatch e
  ·rcases Dd hb with ⟨j,u,rfl,e⟩ | ⟨y,u,rfl,e⟩
   ·exact nomatch e
   ·injection e with e1 _;rw [e1]
 byValue:=fun k v h=>by
  rcases Dd h with ⟨i,t,rfl,rfl⟩ | ⟨x,t,rfl,rfl⟩ <;> rfl
 pyHash:=fun hv h=>by
  rcases Dd hv with ⟨i,t,rfl,rfl⟩ | ⟨x,t,rfl,rfl⟩
  ·exact wpAny_pyHash_int h
  ·exact wpAny_pyHash_str h
 eqBool:=fun hu hv h=>by
  rcases Dd hu with ⟨i,t,rfl,rfl⟩ | ⟨x,t,rfl,rfl⟩
  ·rcases Dd hv with ⟨j,u,rfl,rfl⟩ | ⟨y,u,rfl,rfl⟩
   ·rw [Af0] at h;exact wpAny_eqBool_int h
   ·rw [AgB] at h;exact SeqAt.EqAt.int_str i t y u _ _ _ _ h
  ·rcases Dd hv with ⟨j,u,rfl,rfl⟩ | ⟨y,u,rfl,rfl⟩
   ·rw [AfM] at h;exact SeqAt.EqAt.str_int x t j u _ _ _ _ h
   ·rw [Ag9] at h;exact wpAny_eqBool_str h
 «strs» := fun k x t v h=>by
  rcases Dd h with ⟨i,u,rfl,e⟩ | ⟨y,u,rfl,e⟩
  ·exact nomatch e
  ·injection e with e1 _
   subst e1
   cases v <;> rfl
theorem Vl (prog:Program) (w:World) (i:Int) (t:Tok):(GZ prog w).is (.inl i) (.int i t)=true:=Z8 i t
end L2
namespace L2
open PySem PySem.Spec PyProof.Rows
inductive V where
 | non | bl (b:Bool) | int (i:Int) | str (x:Str) | byt (b:Array UInt8) | flt (b:UInt64) | ref (a:Addr) | ty (n:String)
 deriving DecidableEq
noncomputable def RelV:V→Value→Prop
 | .non,u=>u=Value.none
 | .bl b,u=>u=Value.bool b
 | .int i,u=>∃ t,u=Value.int i t
 | .str x,u=>∃ t,u=Value.str x t
 | .byt b,u=>∃ t,u=Value.bytes b t
 | .flt b,u=>∃ t,u=Value.float b t
 | .ref a,u=>u=Value.ref a
 | .ty n,u=>u=Value.type n
noncomputable abbrev Vals:List V→List Value→Prop:=Paired RelV
theorem Vals.length {xs:List V} {us:List Value} (r:Vals xs us):xs.length=us.length:=Paired.length r
theorem Vals.get:∀ {xs:List V} {us:List Value} {i:Nat} {x:V},Vals xs us→xs[i]? = some x→∃ u,us[i]? = some u∧RelV x u
 | _,_,_,_,.nil,e=>by simp at e
 | _,_,0,_,.cons r _,e=>by simp at e;subst e;exact ⟨_,rfl,r⟩
 | _,_,i+1,x,.cons _ t,e=>by
  obtain ⟨u,h1,h2⟩:=Vals.get (i:=i) (x:=x) t (by simpa using e)
  exact ⟨u,by simpa using h1,h2⟩
theorem Vals.append:∀ {xs ys:List V} {us ws:List Value},Vals xs us→Vals ys ws→Vals (xs ++ ys) (us ++ ws)
 | _,_,_,_,.nil,s=>s
 | _,_,_,_,.cons r t,s=>.cons r (Vals.append t s)
theorem Vals.take:∀ {xs:List V} {us:List Value} (n:Nat),Vals xs us→Vals (xs.take n) (us.take n)
 | _,_,0,_=>.nil
 | _,_,_+1,.nil=>.nil
 | _,_,n+1,.cons r t=>.cons r (Vals.take n t)
theorem Vals.drop:∀ {xs:List V} {us:List Value} (n:Nat),Vals xs us→Vals (xs.drop n) (us.drop n)
 | _,_,0,r=>r
 | _,_,_+1,.nil=>.nil
 | _,_,n+1,.cons _ t=>Vals.drop n t
noncomputable def Rj:Option V→Option Value→Prop
 | some v,some u=>RelV v u
 | none,none=>True
 | _,_=>False
noncomputable def KV {κ:Type}:List (κ × V)→List (κ × Value)→Prop:=Paired fun (p:κ × V) (q:κ × Value)=>p.1=q.1∧RelV p.2 q.2
noncomputable def kV:Key→V
 | .inl i=>.int i
 | .inr x=>.str x
inductive HO where
  | lst (xs:List V)
  | tup (xs:List V)
  | dK (kvs:List (Key × V)) | dT (kvs:List (List Key × V))
  | set (S:Int→Bool) (n:Nat)
  | ins (C dx:Addr) (fs:List (Str × V))
  | own (x:Addr)
  | xd (fs:List (Str × V))
  | met (f x:Addr)
  | rng (lo hi:Int)
  | frz (o:Obj) (u:HO)
  | tbl (ps:Array Value)
  | ext (φ:Heap→Prop)
noncomputable abbrev Hp:=Addr→Option HO
noncomputable def upd (H:Hp) (a:Addr) (o:HO):Hp:=fun b=>if b=a then some o else H b
theorem Bl {H:Hp} {a:Addr} {o:HO}:upd H a o a=some o:=by unfold upd;rw [if_pos rfl]
theorem Aw {H:Hp} {a b:Addr} {o:HO} (h:b≠a):upd H a o b=H b:=by unfold upd;rw [if_neg h]
theorem Bv {H:Hp} {a b:Addr} {o:HO} (h:H a=some o) (h':H b=none):a≠b:=by
 intro e;subst e;rw [h] at h';cases h'
section
variable (P:Program) (w:World)
noncomputable def HB (H:Hp) (h:Heap) (a:Addr):HO→Prop
 | .lst xs=>xs.length≤sizeLine∧∃ (its:List Value) (n:Nat),Vals xs its∧h.get? a=some { cls:=.type "list",data:=.seq its.toArray n }
 | .tup xs=>xs.length≤sizeLine∧∃ its:List Value,Vals xs its∧IsTup h a its.toArray
 | .dK kvs=>kvs.length≤sizeLine∧(a == sysModules)=false∧∃ vs,KV kvs vs∧h.DictOf (GZ P w) a vs
 | .dT kvs=>kvs.length≤sizeLine∧(a == sysModules)=false∧∃ xs:List (List Key × Addr × Value),
   Paired (fun (p:List Key × V) (q:List Key × Addr × Value)=>p.1=q.1∧H q.2.1=some (.tup (p.1.map kV))∧RelV p.2 q.2.2) kvs xs ∧
   ∃ o es ep,h.get? a=some o∧o.ExactDict∧o.data=.dict es ep∧es.toList=xs.map (entryOfKey (tupleKind (GZ P w)))∧(xs.map (·.1)).Nodup
 | .set S n=>h.SetOf (intKind P w) a S n
 | .ins C dx fs=>H dx=some (.own a)∧fs.length≤1000∧dx≠a∧h.get? a=some (PySem.W.instObj C dx) ∧
   ∃ mA,h.Ns1 dx mA∧(∀ f,Rj (fs.lookup f) (mA f))∧PySem.Within mA (fs.map (·.1))
 | .own _=>∃ o,h.get? a=some o
 | .xd fs=>∃ mA,h.Ns1 a mA∧∀ f,Rj (fs.lookup f) (mA f)
 | .rng lo hi=>∃ t u v,h.get? a=some { cls:=.type "range",data:=.fields #[.int lo t,.int hi u,.int 1 v] }
 | .frz o u=>h.get? a=some o∧HB H h a u
 | .tbl ps=>h.get? a=some { cls:=.none,data:=.fields ps }
 | .met f x=>h.get? a=some (PySem.W.methodObj (.ref f) (.ref x))
 | .ext φ=>φ h∧(∃ o,h.get? a=some o)∧∀ h1 h2:Heap,φ h1→(∀ o,h1.get? a=some o→h2.get? a=some o)→φ h2
noncomputable def HOk (H:Hp) (h:Heap):Prop:=∀ a o,H a=some o→HB P w H h a o
end
section
variable {P:Program} {w:World} {H H':Hp} {h h':Heap} {a:Addr} {o:HO}
theorem HB.lt (x:HB P w H h a o):a < h.objs.size:=by
 cases o with
 | lst xs=>obtain ⟨_,_,_,_,e⟩:=x;exact Heap.lt_size e
 | tup xs=>obtain ⟨_,_,_,p⟩:=x;exact p.lt
 | dK kvs=>obtain ⟨_,_,_,_,o,_,_,e,_⟩:=x;exact Heap.lt_size e
 | dT kvs=>obtain ⟨_,_,_,_,o,_,_,e,_⟩:=x;exact Heap.lt_size e
 | set S n=>obtain ⟨o,_,_,_,e,_⟩:=x;exact Heap.lt_size e
 | ins C dx fs=>obtain ⟨_,_,_,e,_⟩:=x;exact Heap.lt_size e
 | own y=>obtain ⟨_,e⟩:=x;exact Heap.lt_size e
 | xd fs=>obtain ⟨_,⟨_,_,_,e,_⟩,_⟩:=x;exact Heap.lt_size e
 | rng lo hi=>obtain ⟨_,_,_,e⟩:=x;exact Heap.lt_size e
 | frz ob u=>obtain ⟨e,_⟩:=x;exact Heap.lt_size e
 | tbl ps=>exact Heap.lt_size (show h.get? a=some _ from x)
 | met f y=>exact Heap.lt_size (show h.get? a=some _ from x)
 | ext φ=>obtain ⟨_,⟨_,e⟩,_⟩:=x;exact Heap.lt_size e
theorem Paired.mapP {α β:Type} {F G:α→β→Prop}:∀ {l₁:List α} {l₂:List β},Paired F l₁ l₂→(∀ a b,F a b→G a b)→Paired G l₁ l₂
 | _,_,.nil,_=>.nil
 | _,_,.cons r t,f=>.cons (f _ _ r) (Paired.mapP t f)
theorem HB.stay (x:HB P w H h a o) (k:∀ b u,(b=a∨H b=some (.own a))→h.get? b=some u→h'.get? b=some u)
  (ho:∀ b,H b=some (.own a)→H' b=some (.own a)) (ht:∀ b xs,H b=some (.tup xs)→H' b=some (.tup xs)):HB P w H' h' a o:=by
 induction o with
 | lst xs=>obtain ⟨z,its,n,r,e⟩:=x;exact ⟨z,its,n,r,k _ _ (.inl rfl) e⟩
 | tup xs=>obtain ⟨z,its,r,ob,e,c⟩:=x;exact ⟨z,its,r,ob,k _ _ (.inl rfl) e,c⟩
 | dK kvs=>obtain ⟨z,y,vs,r,ob,es,ep,e,c⟩:=x;exact ⟨z,y,vs,r,ob,es,ep,k _ _ (.inl rfl) e,c⟩
 | dT kvs =>
  obtain ⟨z,y,xs,r,ob,es,ep,e,c⟩:=x
  exact ⟨z,y,xs,Paired.mapP r fun p q z=>⟨z.1,ht _ _ z.2.1,z.2.2⟩,ob,es,ep,k _ _ (.inl rfl) e,c⟩
 | set S n=>obtain ⟨ob,es,ep,t,e,c⟩:=x;exact ⟨ob,es,ep,t,k _ _ (.inl rfl) e,c⟩
 | ins C dx fs =>
  obtain ⟨d,z,ne,e,mA,⟨od,es,ep,e2,c⟩,r⟩:=x
  exact ⟨ho _ d,z,ne,k _ _ (.inl rfl) e,mA,⟨od,es,ep,k _ _ (.inr d) e2,c⟩,r⟩
 | own y=>obtain ⟨ob,e⟩:=x;exact ⟨ob,k _ _ (.inl rfl) e⟩
 | xd fs=>obtain ⟨mA,⟨od,es,ep,e,c⟩,r⟩:=x;exact ⟨mA,⟨od,es,ep,k _ _ (.inl rfl) e,c⟩,r⟩
 | rng lo hi=>obtain ⟨t,u,v,e⟩:=x;exact ⟨t,u,v,k _ _ (.inl rfl) e⟩
 | frz ob u ih=>obtain ⟨e,q⟩:=x;exact ⟨k _ _ (.inl rfl) e,ih q⟩
 | tbl ps =>
  have e:h.get? a=some { cls:=.none,data:=.fields ps }:=x
  show h'.get? a=some { cls:=.none,data:=.fields ps }
  exact k a _ (.inl rfl) e
 | met f y =>
  have e:h.get? a=some (PySem.W.methodObj (.ref f) (.ref y)):=x
  show h'.get? a=some (PySem.W.methodObj (.ref f) (.ref y))
  exact k a _ (.inl rfl) e
 | ext φ=>obtain ⟨p,⟨o,e⟩,st⟩:=x;exact ⟨st _ _ p fun o q=>k _ _ (.inl rfl) q,⟨o,k _ _ (.inl rfl) e⟩,st⟩
theorem HOk.lt (x:HOk P w H h) (e:H a=some o):a < h.objs.size:=(x a o e).lt
theorem HOk.fresh (x:HOk P w H h) (e:h.objs.size≤a):H a=none:=by
 cases q:H a with
 | none=>rfl
 | some u=>exact absurd (Nat.lt_of_lt_of_le (x.lt q) e) (Nat.lt_irrefl _)
theorem HOk.kept (x:HOk P w H h) (k:∀ b u,h.get? b=some u→h'.get? b=some u):HOk P w H h':=fun a o e =>
 (x a o e).stay (fun b u _ q=>k b u q) (fun _ q=>q) fun _ _ q=>q
theorem HOk.laid (x:HOk P w H h) (k:∀ b u,h.get? b=some u→h'.get? b=some u) (hp:h.objs.size≤a) (new:HB P w (upd H a o) h' a o):HOk P w (upd H a o) h':=fun b u e=>by
 have hn:=x.fresh hp
 by_cases hb:b=a
 ·subst hb;rw [Bl] at e;cases e;exact new
 ·rw [Aw hb] at e
  exact (x b u e).stay (fun c v _ q=>k c v q) (fun c q=>by rw [Aw (Bv q hn)];exact q) fun c xs q=>by rw [Aw (Bv q hn)];exact q
end
noncomputable def Rd (H:Hp) (a:Addr) (u:HO):Prop:=H a=some u∨∃ o,H a=some (.frz o u)
theorem Rd.ok {P:Program} {w:World} {H:Hp} {h:Heap} {a:Addr} {u:HO} (r:Rd H a u) (x:HOk P w H h):HB P w H h a u:=by
 rcases r with r | ⟨o,r⟩
 ·exact x a u r
 ·obtain ⟨_,q⟩:=x a _ r
  exact q
noncomputable def Mut:Option HO→Prop
 | some (.lst _)=>True
 | some (.dK _)=>True
 | some (.dT _)=>True
 | some (.set _ _)=>True
 | some (.ins _ _ _)=>True
 | some (.ext _)=>True
 | _=>False
section
variable {P:Program} {w:World} {H:Hp} {h h':Heap} {x e:Addr} {o':HO}
theorem HOk.write (ok:HOk P w H h) (mu:Mut (H x)) (he:e=x∨H e=some (.own x)) (k:∀ b u,b≠e→h.get? b=some u→h'.get? b=some u) (heo:∃ u,h'.get? e=some u)
  (new:HB P w (upd H x o') h' x o'):HOk P w (upd H x o') h':=fun b u q=>by
 have nown:∀ c y,H c=some (.own y)→c≠x:=fun c y r z=>by subst z;rw [r] at mu;exact mu
 have ntup:∀ c xs,H c=some (.tup xs)→c≠x:=fun c xs r z=>by subst z;rw [r] at mu;exact mu
 by_cases hb:b=x
 ·subst hb;rw [Bl] at q;cases q;exact new
 ·rw [Aw hb] at q
  by_cases hbe:b=e
  ·have q':H b=some (.own x):=by
    rcases he with z | z
    ·exact absurd (hbe.trans z) hb
    ·rw [hbe];exact z
   rw [q] at q';cases q'
   obtain ⟨v,hv⟩:=heo
   exact ⟨v,by rw [hbe];exact hv⟩
  ·refine (ok b u q).stay (fun c v hc r=>k c v ?_ r) (fun c r=>by rw [Aw (nown c b r)];exact r) fun c xs r=>by rw [Aw (ntup c xs r)];exact r
   rcases hc with rfl | hc
   ·exact hbe
   ·rintro rfl
    rcases he with z | z
    ·exact nown c b hc z
    ·rw [hc] at z;cases z;exact hb rfl
end
structure Un (fs ex:List Addr) (H H':Hp) (h h':Heap):Prop where
 keep:∀ b o,h.get? b=some o→H b=none→b∉fs→b∉ex→h'.get? b=some o
 slot:∀ b o,h.get? b=some o→H b=none→b∈fs→b∉ex→∃ sl,h'.get? b=some { o with slots:=sl }
 free:∀ b o,h.get? b=some o→H b=none→b∉ex→H' b=none
 there:∀ b o,h.get? b=some o→b∉ex→∃ o',h'.get? b=some o'
 tups:∀ b xs,H b=some (.tup xs)→H' b=some (.tup xs)
 frzs:∀ b o u,H b=some (.frz o u)→H' b=some (.frz o u)
 tbls:∀ b ps,H b=some (.tbl ps)→∃ more,H' b=some (.tbl (ps ++ more))
section
variable {fs fs' ex ex':List Addr} {H H1 H2:Hp} {h h1 h2 h':Heap} {a x e:Addr} {o:HO}
theorem Un.any (u:Un fs ex H H1 h h1) {b:Addr} {ob:Obj} (q:h.get? b=some ob) (n:H b=none) (hx:b∉ex):∃ sl,h1.get? b=some { ob with slots:=sl }:=by
 by_cases hb:b∈fs
 ·exact u.slot b ob q n hb hx
 ·exact ⟨ob.slots,u.keep b ob q n hb hx⟩
theorem Un.trans (a:Un fs ex H H1 h h1) (b:Un fs ex H1 H2 h1 h2):Un fs ex H H2 h h2 where
 keep:=fun c ob q n hc hx=>b.keep c ob (a.keep c ob q n hc hx) (a.free c ob q n hx) hc hx
 slot:=fun c ob q n hc hx=>by
  obtain ⟨sl,e1⟩:=a.slot c ob q n hc hx
  obtain ⟨sl',e2⟩:=b.slot c _ e1 (a.free c ob q n hx) hc hx
  exact ⟨sl',e2⟩
 free:=fun c ob q n hx=>by
  obtain ⟨o',e1⟩:=a.there c ob q hx
  exact b.free c o' e1 (a.free c ob q n hx) hx
 there:=fun c ob q hx=>by
  obtain ⟨o',e1⟩:=a.there c ob q hx
  exact b.there c o' e1 hx
 tups:=fun c xs q=>b.tups c xs (a.tups c xs q)
 frzs:=fun c ob xs q=>b.frzs c ob xs (a.frzs c ob xs q)
 tbls:=fun c ps q=>by
  obtain ⟨m1,e1⟩:=a.tbls c ps q
  obtain ⟨m2,e2⟩:=b.tbls c _ e1
  exact ⟨m1 ++ m2,by rw [e2,Array.append_assoc]⟩
theorem Un.kept (k:∀ b u,h.get? b=some u→h'.get? b=some u):Un fs ex H H h h' :=
 ⟨fun b ob q _ _ _=>k b ob q,fun b ob q _ _ _=>⟨ob.slots,k b ob q⟩,fun _ _ _ n _=>n,fun b ob q _=>⟨ob,k b ob q⟩,fun _ _ q=>q,fun _ _ _ q=>q,fun _ ps q=>⟨#[],by rw [q];simp⟩⟩
theorem Un.refl:Un fs ex H H h h:=Un.kept fun _ _ q=>q
theorem Un.laid (k:∀ b u,h.get? b=some u→h'.get? b=some u) (hp:h.objs.size≤a) (hn:H a=none):Un fs ex H (upd H a o) h h' where
 keep:=fun b u q _ _ _=>k b u q
 slot:=fun b u q _ _ _=>⟨u.slots,k b u q⟩
 free:=fun b u q n _=>by rw [Aw (Nat.ne_of_lt (Nat.lt_of_lt_of_le (Heap.lt_size q) hp))];exact n
 there:=fun b u q _=>⟨u,k b u q⟩
 tups:=fun b xs q=>by rw [Aw (Bv q hn)];exact q
 frzs:=fun b u xs q=>by rw [Aw (Bv q hn)];exact q
 tbls:=fun b ps q=>⟨#[],by rw [Aw (Bv q hn),q];simp⟩
theorem Un.write (mu:Mut (H x)) (he:e=x∨H e=some (.own x)) (k:∀ b u,b≠e→h.get? b=some u→h'.get? b=some u) (heo:∃ u,h'.get? e=some u):Un fs ex H (upd H x o) h h':=by
 have hx:∀ b,H b=none→b≠x:=fun b n z=>by subst z;rw [n] at mu;exact mu
 have hb:∀ b,H b=none→b≠e:=fun b n z=>by
  subst z
  rcases he with r | r
  ·exact hx b n r
  ·rw [n] at r;cases r
 have hm:∀ b u,H b=some u→¬ Mut (some u)→b≠x:=fun b u q nm z=>by subst z;rw [q] at mu;exact nm mu
 refine ⟨fun b u q n _ _=>k b u (hb b n) q,fun b u q n _ _=>⟨u.slots,k b u (hb b n) q⟩,fun b u q n _=>by rw [Aw (hx b n)];exact n,fun b u q _=>?_,
  fun b xs q=>by rw [Aw (hm b _ q fun z=>z)];exact q,fun b u xs q=>by rw [Aw (hm b _ q fun z=>z)];exact q,fun b ps q=>⟨#[],by rw [Aw (hm b _ q fun z=>z),q];simp⟩⟩
 by_cases hbe:b=e
 ·subst hbe;exact heo
 ·exact ⟨u,k b u hbe q⟩
end
noncomputable def trk (h:Heap) (H:Hp):List Addr:=(List.range h.objs.size).filter fun a=>(H a).isSome
noncomputable def Uk (h:Heap) (H:Hp):Heap:=PySem.W.hideAll h (trk h H)
theorem ZC (h:Heap) (H:Hp):(Uk h H).objs.size=h.objs.size:=PySem.W.hideAll_size _ _
theorem Aas {h:Heap} {H:Hp} {b:Addr} {o:Obj} (e:h.get? b=some o) (n:H b=none):(Uk h H).get? b=some o :=
 PySem.W.hideAll_get _ e fun hm=>by
  have q:(H b).isSome=true:=(List.mem_filter.mp hm).2
  rw [n] at q;simp at q
theorem Adj {h:Heap} {H:Hp} {b:Addr} {o:Obj} (e:(Uk h H).get? b=some o):h.get? b=some o∧H b=none:=by
 have e':h.get? b=some o:=PySem.W.of_hideAll (trk h H) e
 refine ⟨e',?_⟩
 cases q:H b with
 | none=>rfl
 | some x =>
  have hm:b∈trk h H:=List.mem_filter.mpr ⟨List.mem_range.mpr (Heap.lt_size e'),by simp [q]⟩
  have z:(Uk h H).get? b=none:=PySem.W.hideAll_none (trk h H) hm
  rw [z] at e;cases e
noncomputable def AdO (g h:Heap) (L:Addr):List (Addr × Obj):=(List.range h.objs.size).filterMap fun a=>if a=L∨(g.get? a).isSome=true then none else (h.get? a).map fun o=>(a,o)
noncomputable def rest (g h:Heap) (L d:Addr):List (Addr × Obj):=(AdO g h L).filter fun p=>decide (p.1≠d)
end L2
namespace L2
open PySem PySem.Spec PyProof.Rows
structure Mod (K:PySem.W.Frag) (mg:Str→Option Value) (base:Heap):Prop where
 kin:K.In base
 glob:base.Ns mainGlobals mg
 blt:∃ mb,base.Ns builtinsNs mb∧∀ x:Str,x≠"__name__"→mb x=bootBuiltins x
 nolimit:base.NoLimit
structure Cx where
 prog:Program
 w:World
 K:PySem.W.Frag
 mg:Str→Option Value
 base:Heap
 A:Around
 N:List Str
 s₀:Shared
 H₀:Hp
 env:Env
 outer:List Env
 stack:List Env
 ex:List Addr
 fn:Str→Bool
 calm:Bool
 pn:List (Addr × Obj)
 xe:Value→Shared→Prop
noncomputable def frs (l:List Env):List Addr:=l.filterMap (·.frame)
noncomputable abbrev Cx.fs (X:Cx):List Addr:=frs X.outer
noncomputable def Vis (sc:Scope) (x:Str):Prop:=sc.names.lookup x=some .local∨sc.names.lookup x=some .cell∨sc.names.lookup x=some .free
noncomputable def Loc (sc:Scope) (x:Str):Prop:=sc.names.lookup x=some .local∨sc.names.lookup x=some .cell
noncomputable def Look (env:Env) (h:Heap) (m:Str→Option Value) (x:Str) (u:Value):Prop :=
 (env.kindOf x=some .local∧m x=some u)∨((env.kindOf x=some .cell∨env.kindOf x=some .free)∧∃ c,env.cells.lookup x=some c∧h.IsCell c (some u))
structure Cx.Ok (X:Cx):Prop where
 mod:Mod X.K X.mg X.base
 kind:X.env.scope.kind=.function
 glob:X.env.globals=mainGlobals
 blt:X.env.builtins=builtinsNs
 above:X.s₀.heap.objs.size≤X.env.locals
 inj:∀ x y c,X.env.cells.lookup x=some c→X.env.cells.lookup y=some c→x=y
 has:∀ x,(X.env.kindOf x=some .cell∨X.env.kindOf x=some .free)→∃ c,X.env.cells.lookup x=some c
 cab:∀ x c,X.fn x=true→X.env.cells.lookup x=some c→X.s₀.heap.objs.size≤c
 hd:X.calm=true→X.A.handled=none
 frames:X.A.frames=some X.stack
 stk:X.stack=X.outer∨(X.stack=X.env :: X.outer∧X.env.frame=some X.env.locals)
 exf:∀ b∈X.ex,b≠X.env.locals∧∀ x c,X.env.cells.lookup x=some c→c≠b
 bs:∀ b o,X.base.get? b=some o→X.s₀.heap.get? b=some o∧X.H₀ b=none
 bsz:X.base.objs.size≤X.s₀.heap.objs.size
 noex:∀ b o,X.base.get? b=some o→b∉X.ex
 exfs:∀ b∈X.ex,b∉X.fs
 funs:X.s₀.heap.FunFrames X.base X.outer
 frf:∀ b∈X.fs,X.H₀ b=none
structure Inv (X:Cx) (pins:List (Addr × Obj)) (σ:List (Option V)) (H:Hp) (s:Shared):Prop where
 ok:X.Ok
 os:s.os=X.s₀.os
 bare:AllBare s.gens
 base:Un X.fs X.ex X.H₀ H X.s₀.heap s.heap
 loc:∃ m,s.heap.Ns X.env.locals m∧∀ (i:Nat) (x:Str) (v:V),X.N[i]? = some x→σ[i]? = some (some v)→Vis X.env.scope x→∃ u,RelV v u∧Look X.env s.heap m x u
 cell:∀ x c,X.env.cells.lookup x=some c→∃ v,s.heap.IsCell c v
 free:H X.env.locals=none
 freeC:∀ x c,X.env.cells.lookup x=some c→H c=none
 pin:∀ p∈X.pn ++ pins,s.heap.get? p.1=some p.2∧H p.1=none∧p.1≠X.env.locals∧p.1∉X.fs∧∀ v,p.2.data≠.cell v
 hok:HOk X.prog X.w H s.heap
 len:σ.length=X.N.length
section
variable {X:Cx} {pins:List (Addr × Obj)} {σ:List (Option V)} {H H':Hp} {s:Shared} {h':Heap}
theorem Cx.Ok.nofr (ok:X.Ok) {b:Addr} {o:Obj} (e:X.base.get? b=some o):b∉X.fs:=fun hb=>by
 have:=(ok.funs.mem hb).1
 rw [e] at this;cases this
theorem Inv.bs (I:Inv X pins σ H s):∀ b o,X.base.get? b=some o→s.heap.get? b=some o∧H b=none:=fun b o e =>
 ⟨I.base.keep b o (I.ok.bs b o e).1 (I.ok.bs b o e).2 (I.ok.nofr e) (I.ok.noex b o e),I.base.free b o (I.ok.bs b o e).1 (I.ok.bs b o e).2 (I.ok.noex b o e)⟩
theorem Inv.bk (I:Inv X pins σ H s):∀ b o,X.base.get? b=some o→s.heap.get? b=some o:=fun b o e=>(I.bs b o e).1
theorem Inv.mod (I:Inv X pins σ H s):Mod X.K X.mg X.base:=I.ok.mod
theorem Inv.kIn (I:Inv X pins σ H s):X.K.In s.heap:=I.ok.mod.kin.keeps I.bk
theorem Inv.lt (I:Inv X pins σ H s):X.env.locals < s.heap.objs.size:=let ⟨_,hn,_⟩:=I.loc;hn.lt
theorem Inv.sz (I:Inv X pins σ H s):X.s₀.heap.objs.size≤s.heap.objs.size:=Nat.le_trans I.ok.above (Nat.le_of_lt I.lt)
theorem Inv.nofs (I:Inv X pins σ H s) {a:Addr} (h:s.heap.objs.size≤a):a∉X.fs:=fun hb=>by
 obtain ⟨_,o,ho,_⟩:=I.ok.funs.mem hb
 exact absurd (Nat.lt_of_lt_of_le (Heap.lt_size ho) (Nat.le_trans I.sz h)) (Nat.lt_irrefl _)
theorem Inv.cne (I:Inv X pins σ H s):∀ x c,X.env.cells.lookup x=some c→c≠X.env.locals:=fun x c e z=>by
 obtain ⟨v,o,ho,hd⟩:=I.cell x c e
 obtain ⟨m,⟨o',es,ep,ho',hd',_⟩,_⟩:=I.loc
 rw [z,ho'] at ho;cases ho;rw [hd'] at hd;cases hd
theorem Inv.funs (I:Inv X pins σ H s):s.heap.FunFrames X.base X.outer:=by
 have all:∀ (l:List Env),(∀ b∈frs l,b∈X.fs)→X.s₀.heap.FunFrames X.base l→s.heap.FunFrames X.base l:=by
  intro l
  induction l with
  | nil=>intro _ _;trivial
  | cons env r ih =>
   intro hs hl
   obtain ⟨hk,⟨L,o,hf,hn,ho,hd⟩,hr⟩:=hl
   have hL:L∈X.fs:=hs L (by unfold frs;rw [List.filterMap_cons,hf];exact List.mem_cons_self)
   obtain ⟨sl,e⟩:=I.base.slot L o ho (I.ok.frf L hL) hL fun z=>I.ok.exfs L z hL
   exact ⟨hk,⟨L,_,hf,hn,e,hd⟩,ih (fun b hb=>hs b (by unfold frs;rw [List.filterMap_cons,hf];exact List.mem_cons_of_mem _ hb)) hr⟩
 exact all X.outer (fun _ hb=>hb) I.ok.funs
theorem Inv.stack (I:Inv X pins σ H s):s.heap.FunFrames X.base X.stack:=by
 rcases I.ok.stk with e | ⟨e,hf⟩
 ·rw [e];exact I.funs
 ·rw [e]
  obtain ⟨m,hn,_⟩:=I.loc
  refine .cons (by rw [I.ok.kind];decide) hf hn ?_ I.funs
  exact Heap.get?_none_of_le (Nat.le_trans I.ok.bsz I.ok.above)
theorem Inv.stkSub (I:Inv X pins σ H s):∀ b∈frs X.stack,b∈X.env.locals :: X.fs:=fun b hb=>by
 rcases I.ok.stk with e | ⟨e,hf⟩
 ·rw [e] at hb;exact List.mem_cons_of_mem _ hb
 ·rw [e] at hb
  unfold frs at hb
  rw [List.filterMap_cons,hf] at hb
  exact hb
theorem Inv.stkFree (I:Inv X pins σ H s):∀ b∈frs X.stack,H b=none:=fun b hb=>by
 rcases List.mem_cons.mp (I.stkSub b hb) with e | hb
 ·rw [e];exact I.free
 ·obtain ⟨_,o,ho,_⟩:=I.ok.funs.mem hb
  exact I.base.free b o ho (I.ok.frf b hb) fun z=>I.ok.exfs b z hb
theorem Inv.step {g':Array GenState} {t':Nat} {d':Drawn} {ch:List Addr} (I:Inv X pins σ H s)
  (hch:∀ b∈ch,(b∈X.ex∨X.s₀.heap.objs.size≤b)∧b≠X.env.locals∧(∀ x c,X.env.cells.lookup x=some c→c≠b)∧∀ p∈X.pn ++ pins,p.1≠b)
  (keep:∀ b o,b≠X.env.locals→b∉X.fs→b∉ch→s.heap.get? b=some o→H b=none→h'.get? b=some o)
  (slot:∀ b o,b≠X.env.locals→b∈X.fs→b∉ch→s.heap.get? b=some o→H b=none→∃ sl,h'.get? b=some { o with slots:=sl }) (free:∀ b o,b∉ch→s.heap.get? b=some o→H b=none→H' b=none)
  (there:∀ b o,b∉ch→s.heap.get? b=some o→∃ o',h'.get? b=some o')
  (tups:∀ b xs,H b=some (.tup xs)→H' b=some (.tup xs)) (frzs:∀ b o u,H b=some (.frz o u)→H' b=some (.frz o u)) (tbls:∀ b ps,H b=some (.tbl ps)→∃ more,H' b=some (.tbl (ps ++ more)))
  (ns:∀ m,s.heap.Ns X.env.locals m→h'.Ns X.env.locals m) (hok:HOk X.prog X.w H' h') (hg:AllBare g') :
  Inv X pins σ H' { s with heap:=h',gens:=g',drawn:=d',toks:=t' }:=by
 have neL:∀ b o,X.s₀.heap.get? b=some o→b≠X.env.locals:=fun b o e=>Nat.ne_of_lt (Nat.lt_of_lt_of_le (Heap.lt_size e) I.ok.above)
 have neC:∀ b o,X.s₀.heap.get? b=some o→b∉X.ex→b∉ch:=fun b o e hx hb=>by
  rcases (hch b hb).1 with z | z
  ·exact hx z
  ·exact absurd (Nat.lt_of_lt_of_le (Heap.lt_size e) z) (Nat.lt_irrefl _)
 have cellK:∀ x c,X.env.cells.lookup x=some c→∀ v,s.heap.IsCell c v→h'.IsCell c v:=fun x c e v ⟨o,ho,hd⟩=>by
  have nch:c∉ch:=fun z=>(hch c z).2.2.1 x c e rfl
  by_cases hc:c∈X.fs
  ·obtain ⟨sl,q⟩:=slot c o (I.cne x c e) hc nch ho (I.freeC x c e)
   exact ⟨_,q,hd⟩
  ·exact ⟨o,keep c o (I.cne x c e) hc nch ho (I.freeC x c e),hd⟩
 refine ⟨I.ok,I.os,hg,⟨fun b o e n hb hx=>?_,fun b o e n hb hx=>?_,fun b o e n hx=>?_,fun b o e hx=>?_,fun b xs e=>tups b xs (I.base.tups b xs e),fun b o xs e=>frzs b o xs (I.base.frzs b o xs e),fun b ps e=>?_⟩,?_,fun x c e=>?_,?_,fun x c e=>?_,fun p hp=>?_,hok,I.len⟩
 ·exact keep b o (neL b o e) hb (neC b o e hx) (I.base.keep b o e n hb hx) (I.base.free b o e n hx)
 ·obtain ⟨sl,e1⟩:=I.base.slot b o e n hb hx
  obtain ⟨sl',e2⟩:=slot b _ (neL b o e) hb (neC b o e hx) e1 (I.base.free b o e n hx)
  exact ⟨sl',e2⟩
 ·obtain ⟨o',e1⟩:=I.base.there b o e hx
  exact free b o' (neC b o e hx) e1 (I.base.free b o e n hx)
 ·obtain ⟨o',e1⟩:=I.base.there b o e hx
  exact there b o' (neC b o e hx) e1
 ·obtain ⟨m1,e1⟩:=I.base.tbls b ps e
  obtain ⟨m2,e2⟩:=tbls b _ e1
  exact ⟨m1 ++ m2,by rw [e2,Array.append_assoc]⟩
 ·obtain ⟨m,hn,hl⟩:=I.loc
  refine ⟨m,ns m hn,fun i x v e1 e2 e3=>?_⟩
  obtain ⟨u,r,l⟩:=hl i x v e1 e2 e3
  refine ⟨u,r,?_⟩
  rcases l with l | ⟨k,c,e,z⟩
  ·exact .inl l
  ·exact .inr ⟨k,c,e,cellK x c e _ z⟩
 ·obtain ⟨v,z⟩:=I.cell x c e
  exact ⟨v,cellK x c e v z⟩
 ·obtain ⟨m,⟨o,_,_,ho,_⟩,_⟩:=I.loc
  exact free _ o (fun z=>(hch _ z).2.1 rfl) ho I.free
 ·obtain ⟨v,o,ho,hd⟩:=I.cell x c e
  exact free c o (fun z=>(hch c z).2.2.1 x c e rfl) ho (I.freeC x c e)
 ·obtain ⟨e,n,ne,nf,d⟩:=I.pin p hp
  have nch:p.1∉ch:=fun z=>(hch p.1 z).2.2.2 p hp rfl
  exact ⟨keep p.1 p.2 ne nf nch e n,free p.1 p.2 nch e n,ne,nf,d⟩
theorem Inv.un {t':Nat} (I:Inv X pins σ H s) (u:Un X.fs [] H H' s.heap h') (hok:HOk X.prog X.w H' h'):Inv X pins σ H' { s with heap:=h',toks:=t' }:=by
 obtain ⟨m,⟨o,es,ep,ho,r⟩,_⟩:=id I.loc
 obtain ⟨sl,hL⟩:=u.any ho I.free (by simp)
 exact I.step (g':=s.gens) (d':=s.drawn) (ch:=[]) (fun _ z=>nomatch z) (fun b o _ hb _ e n=>u.keep b o e n hb (by simp)) (fun b o _ hb _ e n=>u.slot b o e n hb (by simp)) (fun b o _ e n=>u.free b o e n (by simp)) (fun b o _ e=>u.there b o e (by simp)) u.tups u.frzs u.tbls (fun m' hm=>by
  obtain ⟨o',es',ep',ho',r'⟩:=hm
  rw [ho] at ho';cases ho'
  exact ⟨_,es',ep',hL,r'⟩) hok I.bare
theorem Inv.call {g':Array GenState} {t':Nat} {d':Drawn} {ch:List Addr} (I:Inv X pins σ H s) (u:Un (frs X.stack) ch H H' s.heap h') (hok:HOk X.prog X.w H' h') (hg:AllBare g')
  (hch:∀ b∈ch,(b∈X.ex∨X.s₀.heap.objs.size≤b)∧b≠X.env.locals∧(∀ x c,X.env.cells.lookup x=some c→c≠b)∧∀ p∈X.pn ++ pins,p.1≠b) :
  Inv X pins σ H' { s with heap:=h',gens:=g',drawn:=d',toks:=t' }:=by
 obtain ⟨m,⟨o,es,ep,ho,r⟩,_⟩:=id I.loc
 obtain ⟨sl,hL⟩:=u.any ho I.free fun z=>(hch _ z).2.1 rfl
 exact I.step (ch:=ch) hch (fun b o hL hb hc e n=>u.keep b o e n (fun z=>(List.mem_cons.mp (I.stkSub b z)).elim hL hb) hc) (fun b o _ _ hc e n=>u.any e n hc) (fun b o hc e n=>u.free b o e n hc) (fun b o hc e=>u.there b o e hc) u.tups u.frzs u.tbls (fun m' hm=>by
  obtain ⟨o',es',ep',ho',r'⟩:=hm
  rw [ho] at ho';cases ho'
  exact ⟨_,es',ep',hL,r'⟩) hok hg
theorem Inv.turned {t':Nat} {it:Addr} (I:Inv X pins σ H s) (k:∀ b o,b≠it→s.heap.get? b=some o→h'.get? b=some o) (hn:H it=none) (hL:it≠X.env.locals)
  (h1:it∈X.ex∨X.s₀.heap.objs.size≤it) (h2:∀ x c,X.env.cells.lookup x=some c→c≠it) (h3:∀ p∈X.pn ++ pins,p.1≠it):Inv X pins σ H { s with heap:=h',toks:=t' }:=by
 have nit:∀ b u,H b=some u→b≠it:=fun b u e z=>by rw [z,hn] at e;cases e
 refine I.step (g':=s.gens) (d':=s.drawn) (ch:=[it]) (fun b hb=>?_) (fun b o _ _ hc e _=>k b o (fun z=>hc (by simp [z])) e) (fun b o _ _ hc e _=>⟨o.slots,k b o (fun z=>hc (by simp [z])) e⟩) (fun _ _ _ _ n=>n)
  (fun b o hc e=>⟨o,k b o (fun z=>hc (by simp [z])) e⟩) (fun _ _ e=>e) (fun _ _ _ e=>e) (fun b ps e=>⟨#[],by rw [e];simp⟩) (fun m hm=>?_) (fun b u e=>?_) I.bare
 ·have e:b=it:=by simpa using hb
  subst e
  exact ⟨h1,hL,h2,h3⟩
 ·obtain ⟨o,es,ep,ho,r⟩:=hm
  exact ⟨o,es,ep,k _ o (Ne.symm hL) ho,r⟩
 ·refine (I.hok b u e).stay (fun c v hc q=>k c v ?_ q) (fun _ q=>q) fun _ _ q=>q
  rcases hc with z | z
  ·rw [z];exact nit b u e
  ·exact nit c _ z
theorem Inv.tok (I:Inv X pins σ H s) (t:Nat):Inv X pins σ H { s with toks:=t }:=I.un (h':=s.heap) (t':=t) Un.refl I.hok
theorem Inv.kept {t':Nat} (I:Inv X pins σ H s) (k:∀ b u,s.heap.get? b=some u→h'.get? b=some u):Inv X pins σ H { s with heap:=h',toks:=t' }:=I.un (Un.kept k) (I.hok.kept k)
theorem Inv.laid {a:Addr} {o:HO} {t':Nat} (I:Inv X pins σ H s) (k:∀ b u,s.heap.get? b=some u→h'.get? b=some u) (hp:s.heap.objs.size≤a) (new:HB X.prog X.w (upd H a o) h' a o) :
  Inv X pins σ (upd H a o) { s with heap:=h',toks:=t' }:=I.un (Un.laid k hp (I.hok.fresh hp)) (I.hok.laid k hp new)
theorem Inv.write {x e:Addr} {o:HO} {t':Nat} (I:Inv X pins σ H s) (mu:Mut (H x)) (he:e=x∨H e=some (.own x)) (k:∀ b u,b≠e→s.heap.get? b=some u→h'.get? b=some u) (heo:∃ u,h'.get? e=some u)
  (new:HB X.prog X.w (upd H x o) h' x o):Inv X pins σ (upd H x o) { s with heap:=h',toks:=t' }:=I.un (Un.write mu he k heo) (I.hok.write mu he k heo new)
theorem Inv.pins_of {pins':List (Addr × Obj)} (I:Inv X pins σ H s) (h:∀ p∈pins',s.heap.get? p.1=some p.2∧H p.1=none∧p.1≠X.env.locals∧p.1∉X.fs∧∀ v,p.2.data≠.cell v):Inv X pins' σ H s :=
 ⟨I.ok,I.os,I.bare,I.base,I.loc,I.cell,I.free,I.freeC,fun p hp=>(List.mem_append.mp hp).elim (fun z=>I.pin p (List.mem_append_left _ z)) (h p),I.hok,I.len⟩
theorem V4 {N:List Str} (hN:N.Nodup) {i j:Nat} {x:Str} (a:N[i]? = some x) (b:N[j]? = some x):i=j:=by
 obtain ⟨h1,e1⟩:=List.getElem?_eq_some_iff.mp a
 obtain ⟨h2,e2⟩:=List.getElem?_eq_some_iff.mp b
 exact (List.getElem_inj hN).mp (e1.trans e2.symm)
theorem RJ {M:Model} {A:Around} {E:Value→Shared→Prop} {i:Nat} {x:Str} {v:V} {u:Value} {Q:Unit→Shared→Prop} (I:Inv X pins σ H s) (hN:X.N.Nodup) (hi:X.N[i]? = some x) (hx:Loc X.env.scope x) (r:RelV v u)
  (h:∀ s',Inv X pins (σ.set i (some v)) H s'→(∃ a,Heap.SameBut a s.heap s'.heap∧(a=X.env.locals∨X.env.cells.lookup x=some a))→Q () s') (hf:X.fn x=true∨X.env.scope.names.lookup x=some .local:=by first | exact .inl rfl | exact .inr rfl | assumption):wpAny M A (storeName X.env x u) Q E s:=by
 obtain ⟨m,hn,hl⟩:=id I.loc
 have hcls:(X.env.scope.kind == .class || (X.env.scope.kind == .module && X.env.locals != X.env.globals))=false:=by rw [I.ok.kind];rfl
 have hiσ:i < σ.length:=by rw [I.len];exact (List.getElem?_eq_some_iff.mp hi).1
 have cne:=I.cne
 have tracked:∀ {a:Addr} {h':Heap},(∃ o,s.heap.get? a=some o∧H a=none)→Heap.SameBut a s.heap h'→HOk X.prog X.w H h':=fun {a h'} ha hs b ob e=>by
  obtain ⟨_,_,hfree⟩:=ha
  refine (I.hok b ob e).stay (fun c w' hc q=>(hs.2 c ?_).trans q) (fun _ q=>q) fun _ _ q=>q
  rintro rfl
  rcases hc with rfl | hc
  ·rw [hfree] at e;cases e
  ·rw [hfree] at hc;cases hc
 rcases hx with hk | hk
 ·refine wpAny_storeName_local hk hn (fun h' hn' hs=>?_) hcls
  obtain ⟨oL,_,_,hoL,_⟩:=id hn
  refine h _ ⟨I.ok,I.os,I.bare,⟨fun b o e n hb hx=>?_,fun b o e n hb hx=>?_,I.base.free,fun b o e hx=>?_,I.base.tups,I.base.frzs,I.base.tbls⟩,⟨_,hn',fun j y v' e1 e2 e3=>?_⟩,fun y c e=>?_,I.free,I.freeC,fun p hp=>?_,tracked ⟨oL,hoL,I.free⟩ hs,by simpa using I.len⟩ ⟨_,hs,.inl rfl⟩
  ·exact (hs.2 b (Nat.ne_of_lt (Nat.lt_of_lt_of_le (Heap.lt_size e) I.ok.above))).trans (I.base.keep b o e n hb hx)
  ·obtain ⟨sl,e1⟩:=I.base.slot b o e n hb hx
   exact ⟨sl,(hs.2 b (Nat.ne_of_lt (Nat.lt_of_lt_of_le (Heap.lt_size e) I.ok.above))).trans e1⟩
  ·obtain ⟨o',e1⟩:=I.base.there b o e hx
   exact ⟨o',(hs.2 b (Nat.ne_of_lt (Nat.lt_of_lt_of_le (Heap.lt_size e) I.ok.above))).trans e1⟩
  ·by_cases hj:j=i
   ·subst hj
    rw [hi] at e1;cases e1
    rw [List.getElem?_set_self hiσ] at e2
    cases e2
    exact ⟨u,r,.inl ⟨hk,by simp⟩⟩
   ·rw [List.getElem?_set_ne (Ne.symm hj)] at e2
    obtain ⟨u',r',q⟩:=hl j y v' e1 e2 e3
    refine ⟨u',r',?_⟩
    rcases q with ⟨k,e⟩ | ⟨k,c,e,z⟩
    ·refine .inl ⟨k,?_⟩
     have:y≠x:=fun e=>hj (V4 hN e1 (e ▸ hi))
     simp [this,e]
    ·exact .inr ⟨k,c,e,z.sameBut hs (cne y c e)⟩
  ·obtain ⟨w',z⟩:=I.cell y c e
   exact ⟨w',z.sameBut hs (cne y c e)⟩
  ·obtain ⟨e,n,ne,nf,d⟩:=I.pin p hp
   exact ⟨(hs.2 p.1 ne).trans e,n,ne,nf,d⟩
 ·have hfn:X.fn x=true:=by
   rcases hf with z | z
   ·exact z
   ·rw [z] at hk;cases hk
  obtain ⟨c,hc⟩:=I.ok.has x (.inl hk)
  obtain ⟨w',z⟩:=I.cell x c hc
  refine wpAny_storeName_cell I.ok.kind hk hc z (fun h' hc' hs=>?_)
  obtain ⟨oc,hoc,hocd⟩:=id z
  refine h { s with heap:=h' } ⟨I.ok,I.os,I.bare,⟨fun b o e n hb hx=>?_,fun b o e n hb hx=>?_,I.base.free,fun b o e hx=>?_,I.base.tups,I.base.frzs,I.base.tbls⟩,⟨m,hn.sameBut hs (Ne.symm (cne x c hc)),fun j y v' e1 e2 e3=>?_⟩,fun y c' e=>?_,I.free,I.freeC,fun p hp=>?_,tracked ⟨oc,hoc,I.freeC x c hc⟩ hs,by simpa using I.len⟩ ⟨c,hs,.inr hc⟩
  ·exact (hs.2 b (Nat.ne_of_lt (Nat.lt_of_lt_of_le (Heap.lt_size e) (I.ok.cab x c hfn hc)))).trans (I.base.keep b o e n hb hx)
  ·obtain ⟨sl,e1⟩:=I.base.slot b o e n hb hx
   exact ⟨sl,(hs.2 b (Nat.ne_of_lt (Nat.lt_of_lt_of_le (Heap.lt_size e) (I.ok.cab x c hfn hc)))).trans e1⟩
  ·obtain ⟨o',e1⟩:=I.base.there b o e hx
   exact ⟨o',(hs.2 b (Nat.ne_of_lt (Nat.lt_of_lt_of_le (Heap.lt_size e) (I.ok.cab x c hfn hc)))).trans e1⟩
  ·by_cases hj:j=i
   ·subst hj
    rw [hi] at e1;cases e1
    rw [List.getElem?_set_self hiσ] at e2
    cases e2
    exact ⟨u,r,.inr ⟨.inl hk,c,hc,hc'⟩⟩
   ·rw [List.getElem?_set_ne (Ne.symm hj)] at e2
    obtain ⟨u',r',q⟩:=hl j y v' e1 e2 e3
    refine ⟨u',r',?_⟩
    rcases q with q | ⟨k,c',e,z'⟩
    ·exact .inl q
    ·refine .inr ⟨k,c',e,z'.sameBut hs ?_⟩
     rintro rfl
     exact hj (V4 hN e1 (I.ok.inj _ _ _ e hc ▸ hi))
  ·by_cases hcc:c'=c
   ·subst hcc;exact ⟨_,hc'⟩
   ·obtain ⟨w2,z2⟩:=I.cell y c' e
    exact ⟨w2,z2.sameBut hs hcc⟩
  ·obtain ⟨e,n,ne,nf,d⟩:=I.pin p hp
   refine ⟨(hs.2 p.1 ?_).trans e,n,ne,nf,d⟩
   intro q
   rw [q,hoc] at e
   have q':oc=p.2:=Option.some.inj e
   exact d w' (by rw [←q'];exact hocd)
theorem PJ {M:Model} {A:Around} {E:Value→Shared→Prop} {i:Nat} {x:Str} {v:V} {u:Value} {Q:Unit→Shared→Prop} (I:Inv X pins σ H s) (hN:X.N.Nodup) (hi:X.N[i]? = some x) (hx:Loc X.env.scope x) (r:RelV v u)
  (h:∀ s',Inv X pins (σ.set i (some v)) H s'→Q () s') (hf:X.fn x=true∨X.env.scope.names.lookup x=some .local:=by first | exact .inl rfl | exact .inr rfl | assumption):wpAny M A (storeName X.env x u) Q E s :=
 RJ I hN hi hx r (fun s' I' _=>h s' I') hf
theorem Inv.call' {s':Shared} {ch:List Addr} (I:Inv X pins σ H s) (ho:s'.os=s.os) (u:Un (frs X.stack) ch H H' s.heap s'.heap) (hok:HOk X.prog X.w H' s'.heap) (hg:AllBare s'.gens)
  (hch:∀ b∈ch,(b∈X.ex∨X.s₀.heap.objs.size≤b)∧b≠X.env.locals∧(∀ x c,X.env.cells.lookup x=some c→c≠b)∧∀ p∈X.pn ++ pins,p.1≠b):Inv X pins σ H' s':=by
 obtain ⟨h',g',d',t',o'⟩:=s'
 have e:o'=s.os:=ho
 subst e
 exact I.call (g':=g') (t':=t') (d':=d') u hok hg hch
end
noncomputable abbrev XK:=Value→Option Addr→Hp→Prop
noncomputable abbrev St:=List (Option V)
noncomputable abbrev VK:=V→Hp→Prop
noncomputable abbrev TE:=St→Hp→VK→Prop
noncomputable abbrev TT:=St→Hp→(Bool→Hp→Prop)→Prop
noncomputable abbrev TA:=St→Hp→(List V→Hp→Prop)→Prop
structure Ends where
 nx:St→Hp→Prop
 rt:VK
 bk:St→Hp→Prop:=fun _ _=>False
 ct:St→Hp→Prop:=fun _ _=>False
noncomputable abbrev TS:=Ends→St→Hp→Prop
noncomputable def EP (X:Cx) (pins:List (Addr × Obj)) (σ:St) (Q:VK) (u:Value) (s':Shared):Prop:=∃ v H',Inv X pins σ H' s'∧RelV v u∧Q v H'
noncomputable def TP (X:Cx) (pins:List (Addr × Obj)) (σ:St) (Q:Bool→Hp→Prop) (b:Bool) (s':Shared):Prop:=∃ H',Inv X pins σ H' s'∧Q b H'
noncomputable def AP (X:Cx) (pins:List (Addr × Obj)) (σ:St) (Q:List V→Hp→Prop) (us:List Value) (s':Shared):Prop:=∃ vs H',Inv X pins σ H' s'∧Vals vs us∧Q vs H'
noncomputable def SP (X:Cx) (pins:List (Addr × Obj)) (D:Ends) (f:Flow) (s':Shared):Prop :=
 match f with
 | .next=>∃ σ' H',Inv X pins σ' H' s'∧D.nx σ' H'
 | .brk=>∃ σ' H',Inv X pins σ' H' s'∧D.bk σ' H'
 | .cont=>∃ σ' H',Inv X pins σ' H' s'∧D.ct σ' H'
 | .ret u=>∃ v σ' H',Inv X pins σ' H' s'∧RelV v u∧D.rt v H'
noncomputable def PE (X:Cx) (e:Expr) (t:TE):Prop :=
 ∀ (pins:List (Addr × Obj)) (s:Shared) (σ:St) (H:Hp) (Q:VK),Inv X pins σ H s→t σ H Q→wpAny (model X.prog X.w) X.A (eval e X.env) (EP X pins σ Q) X.xe s
noncomputable def PT (X:Cx) (e:Expr) (t:TT):Prop :=
 ∀ (pins:List (Addr × Obj)) (s:Shared) (σ:St) (H:Hp) (Q:Bool→Hp→Prop),Inv X pins σ H s→t σ H Q→wpAny (model X.prog X.w) X.A (isTrue e X.env (eval e X.env)) (TP X pins σ Q) X.xe s
noncomputable def PW (X:Cx) (e:Expr) (t:TT):Prop :=
 ∀ (whole:Sem Value) (pins:List (Addr × Obj)) (s:Shared) (σ:St) (H:Hp) (Q:Bool→Hp→Prop),Inv X pins σ H s→t σ H Q→wpAny (model X.prog X.w) X.A (isTrue e X.env whole) (TP X pins σ Q) X.xe s
theorem PW.pt {X:Cx} {e:Expr} {t:TT} (h:PW X e t):PT X e t:=h _
noncomputable def PA (X:Cx) (es:List Expr) (t:TA):Prop :=
 ∀ (pos:Pos) (pins:List (Addr × Obj)) (s:Shared) (σ:St) (H:Hp) (Q:List V→Hp→Prop),Inv X pins σ H s→t σ H Q→wpAny (model X.prog X.w) X.A (spliced (backTo pos (starEach es X.env))) (AP X pins σ Q) X.xe s
noncomputable def PS (X:Cx) (st:Stmt) (t:TS):Prop :=
 ∀ (pins:List (Addr × Obj)) (s:Shared) (σ:St) (H:Hp) (D:Ends),Inv X pins σ H s→t D σ H→wpAny (model X.prog X.w) X.A (exec st X.env) (SP X pins D) X.xe s
noncomputable def PSs (X:Cx) (st:List Stmt) (t:TS):Prop :=
 ∀ (pins:List (Addr × Obj)) (s:Shared) (σ:St) (H:Hp) (D:Ends),Inv X pins σ H s→t D σ H→wpAny (model X.prog X.w) X.A (execs st X.env) (SP X pins D) X.xe s
theorem thn {α:Type} {t:Sem α} {Q Q':α→Shared→Prop} {M:Model} {A:Around} {E:Value→Shared→Prop} {s:Shared} (h:wpAny M A t Q E s) (hQ:∀ a s,Q a s→Q' a s):wpAny M A t Q' E s:=wpAny_mono h hQ fun _ _ x=>x
end L2
namespace L2
open PySem PySem.Spec PyProof.Rows
section
variable {X:Cx}
theorem bin {a b:Expr} {ta tb:TE} (ha:PE X a ta) (hb:PE X b tb) {pins:List (Addr × Obj)} {s:Shared} {σ:St} {H:Hp} {R:V→V→Hp→Prop} (I:Inv X pins σ H s) (h:ta σ H fun x H1=>tb σ H1 fun y H2=>R x y H2)
  {α:Type} {Q:α→Shared→Prop} {f:Value→Value→Sem α}
  (hf:∀ v u s2 x y H2,Inv X pins σ H2 s2→RelV x v→RelV y u→R x y H2→wpAny (model X.prog X.w) X.A (f v u) Q X.xe s2) :
  wpAny (model X.prog X.w) X.A (eval a X.env) (fun v s₁=>wpAny (model X.prog X.w) X.A (eval b X.env) (fun u s₂=>wpAny (model X.prog X.w) X.A (f v u) Q X.xe s₂) X.xe s₁) X.xe s:=by
 refine thn (ha pins s σ H _ I h) fun v s1 ⟨x,H1,I1,r1,q1⟩=>?_
 refine thn (hb pins s1 σ H1 _ I1 q1) fun u s2 ⟨y,H2,I2,r2,q2⟩=>?_
 exact hf v u s2 x y H2 I2 r1 r2 q2
noncomputable def Alh (i:Nat):TE:=fun σ H Q=>∃ v,σ[i]? = some (some v)∧Q v H
noncomputable def tC (v:V):TE:=fun _ H Q=>Q v H
theorem HD {i:Nat} {x:Str} {pos:Pos} (hN:X.N[i]? = some x) (hv:Vis X.env.scope x) (hd:(x == ("__debug__":Str))=false:=by decide) (hcd:(x == ("__classdict__":Str))=false:=by decide):PE X (.Name x pos) (Alh i):=by
 intro pins s σ H Q I h
 obtain ⟨v,e,h⟩:=h
 obtain ⟨m,hn,hl⟩:=I.loc
 obtain ⟨u,r,l⟩:=hl i x v hN e hv
 have fin:EP X pins σ Q u s:=⟨v,H,I,r,h⟩
 rcases l with ⟨hk,hm⟩ | ⟨hk,c,hc,hcell⟩
 ·exact wpAny_Name (wpAny_loadName_local I.ok.kind hk hn hm fin) hd
 ·rcases hk with hk | hk
  ·exact wpAny_Name (wpAny_loadName_cell I.ok.kind hk hc hcell fin) hd
  ·exact wpAny_Name (wpAny_loadName_free I.ok.kind hk hc hcell fin hcd) hd
theorem Af6 {i j pos}:PE X (.Constant (.int i) j pos) (tC (.int i)):=fun _ _ _ H _ I h=>wpAny_Constant_int ⟨.int i,H,I.tok _,⟨_,rfl⟩,h⟩
theorem Ajq {b j pos}:PE X (.Constant (.bool b) j pos) (tC (.bl b)):=fun _ _ _ H _ I h=>Constant_bool ⟨.bl b,H,I,rfl,h⟩
theorem Ag7 {x j pos}:PE X (.Constant (.str x) j pos) (tC (.str x)):=fun _ _ _ H _ I h=>Calls.Constant_str ⟨.str x,H,I.tok _,⟨_,rfl⟩,h⟩
noncomputable def Gl (X:Cx) (x:Str):Prop:=X.env.kindOf x=some .globalImplicit
theorem S5 {E:Value→Shared→Prop} {pins:List (Addr × Obj)} {s:Shared} {σ:St} {H:Hp} {x:Str} {u:Value} {pos:Pos} {Q:Value→Shared→Prop} (I:Inv X pins σ H s) (hg:Gl X x) (hm:X.mg x=some u) (h:Q u s)
  (hd:(x == ("__debug__":Str))=false:=by decide):wpAny (model X.prog X.w) X.A (eval (.Name x pos) X.env) Q E s :=
 Calls.Name_function_global I.ok.kind hg (Calls.loadGlobal_global (by rw [I.ok.glob];exact I.mod.glob.keeps I.bk) hm h) hd
theorem KZ {E:Value→Shared→Prop} {pins:List (Addr × Obj)} {s:Shared} {σ:St} {H:Hp} {x:Str} {u:Value} {pos:Pos} {Q:Value→Shared→Prop} (I:Inv X pins σ H s) (hg:Gl X x) (hm:X.mg x=none) (hv:bootBuiltins x=some u) (h:Q u s)
  (hn:x≠"__name__":=by decide) (hd:(x == ("__debug__":Str))=false:=by decide):wpAny (model X.prog X.w) X.A (eval (.Name x pos) X.env) Q E s:=by
 obtain ⟨mb,h1,h2⟩:=I.mod.blt
 exact Calls.Name_function_global I.ok.kind hg (Calls.loadGlobal_builtin (by rw [I.ok.glob];exact I.mod.glob.keeps I.bk) hm (by rw [I.ok.blt];exact h1.keeps I.bk) ((h2 x hn).trans hv) h) hd
theorem YG {x:Str} {v:V} {u:Value} {pos:Pos} (hg:Gl X x) (hm:X.mg x=some u) (r:RelV v u) (hd:(x == ("__debug__":Str))=false:=by decide):PE X (.Name x pos) (tC v) :=
 fun _ _ _ H _ I h=>S5 I hg hm ⟨v,H,I,r,h⟩ hd
theorem Adz {x:Str} {v:V} {u:Value} {pos:Pos} (hg:Gl X x) (hm:X.mg x=none) (hv:bootBuiltins x=some u) (r:RelV v u) (hn:x≠"__name__":=by decide) (hd:(x == ("__debug__":Str))=false:=by decide):PE X (.Name x pos) (tC v) :=
 fun _ _ _ H _ I h=>KZ I hg hm hv ⟨v,H,I,r,h⟩ hn hd
variable {a b:Expr} {ta tb:TE} {pos:Pos}
noncomputable def PC (X:Cx) (op:CmpOp) (a b:Expr) (t:TE):Prop :=
 ∀ (pins:List (Addr × Obj)) (s:Shared) (σ:St) (H:Hp) (Q:VK),Inv X pins σ H s→t σ H Q →
  wpAny (model X.prog X.w) X.A (eval a X.env) (fun v s₁=>wpAny (model X.prog X.w) X.A (eval b X.env) (fun u s₂=>wpAny (model X.prog X.w) X.A (compareOp op v u) (EP X pins σ Q) X.xe s₂) X.xe s₁) X.xe s
noncomputable def tB (t:TE):TT:=fun σ H Q=>t σ H fun x H1=>∃ c,x=.bl c∧Q c H1
theorem AlO {op:CmpOp} {t:TE} (h:PC X op a b t) (h1:behindInMarks op b=false:=by first | exact nobehind _ (by decide) (by decide) | rfl):PT X (.Compare a [op] [b] pos) (tB t):=by
 intro pins s σ H Q I hw
 refine wpAny_isTrue_Compare1 (thn (h pins s σ H _ I hw) fun v s1 h1=>thn h1 fun u s2 h2=>thn h2 fun c s3 ⟨x,H1,I1,r1,q1⟩=>?_) h1
 obtain ⟨d,rfl,q⟩:=q1
 cases r1
 exact wpAny_truthy_bool ⟨H1,I1,q⟩
theorem AfW {e:Expr} {t:TE} (h:PE X e t) (he:∀ whole,isTrue e X.env whole=(do let v ←whole;standAt e.pos;holding [v] (truthy v)):=by intro _;rfl):PT X e (tB t):=by
 intro pins s σ H Q I hw
 refine isTrue_plain (thn (h pins s σ H _ I hw) fun v s1 ⟨x,H1,I1,r1,q1⟩=>?_) (he _)
 obtain ⟨d,rfl,q⟩:=q1
 cases r1
 exact wpAny_truthy_bool ⟨H1,I1,q⟩
variable {tA tB':TT} {rest:List Expr}
noncomputable def Ana (t u:TT):TT:=fun σ H Q=>t σ H fun c H1=>if c=true then u σ H1 Q else Q false H1
noncomputable def tOr (t u:TT):TT:=fun σ H Q=>t σ H fun c H1=>if c=true then Q true H1 else u σ H1 Q
noncomputable def Al3 (t:TT):TT:=fun σ H Q=>t σ H fun c H1=>Q (!c) H1
theorem AdT (ha:PT X a tA):PW X (.BoolOp .And [a] pos) tA:=by
 intro wh pins s σ H Q I h
 refine isTrue_and (thn (ha pins s σ H Q I h) fun c s1 e=>?_)
 cases c with
 | true=>exact isTrue_and_nil e
 | false=>exact e
theorem Ahq (ha:PT X a tA):PW X (.BoolOp .Or [a] pos) tA:=by
 intro wh pins s σ H Q I h
 refine isTrue_or (thn (ha pins s σ H Q I h) fun c s1 e=>?_)
 cases c with
 | false=>exact isTrue_or_nil e
 | true=>exact e
theorem Af1 (ha:PT X a tA) (hb:PW X (.BoolOp .And (b :: rest) pos) tB'):PW X (.BoolOp .And (a :: b :: rest) pos) (Ana tA tB'):=by
 intro wh pins s σ H Q I h
 refine isTrue_and (thn (ha pins s σ H _ I h) fun c s1 ⟨H1,I1,q1⟩=>?_)
 cases c with
 | true=>exact hb wh pins s1 σ H1 Q I1 q1
 | false=>exact ⟨H1,I1,q1⟩
theorem AhI (ha:PT X a tA) (hb:PW X (.BoolOp .Or (b :: rest) pos) tB'):PW X (.BoolOp .Or (a :: b :: rest) pos) (tOr tA tB'):=by
 intro wh pins s σ H Q I h
 refine isTrue_or (thn (ha pins s σ H _ I h) fun c s1 ⟨H1,I1,q1⟩=>?_)
 cases c with
 | true=>exact ⟨H1,I1,q1⟩
 | false=>exact hb wh pins s1 σ H1 Q I1 q1
theorem Ag6 (ha:PT X a tA):PT X (.UnaryOp .Not a pos) (Al3 tA):=by
 intro pins s σ H Q I h
 exact isTrue_not (ha pins s σ H (fun c H1=>Q (!c) H1) I h)
noncomputable def AiA (ta tb:TE):TE:=fun σ H Q=>ta σ H fun x H1=>∃ c,x=.bl c∧if c=true then tb σ H1 Q else Q (.bl false) H1
noncomputable def Alu (ta tb:TE):TE:=fun σ H Q=>ta σ H fun x H1=>∃ c,x=.bl c∧if c=true then Q (.bl true) H1 else tb σ H1 Q
noncomputable def AiT (ta:TE):TE:=fun σ H Q=>ta σ H fun x H1=>∃ c,x=.bl c∧Q (.bl (!c)) H1
theorem Ahi {op} {t:TE} (h:PE X a t):PE X (.BoolOp op [a] pos) t:=fun pins s σ H Q I hw=>BoolOp_one (h pins s σ H Q I hw)
theorem AfS (ha:PE X a ta) (hb:PE X (.BoolOp .And (b :: rest) pos) tb):PE X (.BoolOp .And (a :: b :: rest) pos) (AiA ta tb):=by
 intro pins s σ H Q I h
 refine BoolOp_and (thn (ha pins s σ H _ I h) fun v s1 ⟨x,H1,I1,r1,q1⟩=>?_)
 obtain ⟨c,rfl,q1⟩:=q1
 cases r1
 refine wpAny_truthy_bool ?_
 cases c with
 | true=>exact hb pins s1 σ H1 Q I1 q1
 | false=>exact ⟨.bl false,H1,I1,rfl,q1⟩
theorem AiP (ha:PE X a ta) (hb:PE X (.BoolOp .Or (b :: rest) pos) tb):PE X (.BoolOp .Or (a :: b :: rest) pos) (Alu ta tb):=by
 intro pins s σ H Q I h
 refine BoolOp_or (thn (ha pins s σ H _ I h) fun v s1 ⟨x,H1,I1,r1,q1⟩=>?_)
 obtain ⟨c,rfl,q1⟩:=q1
 cases r1
 refine wpAny_truthy_bool ?_
 cases c with
 | false=>exact hb pins s1 σ H1 Q I1 q1
 | true=>exact ⟨.bl true,H1,I1,rfl,q1⟩
theorem Af8 (ha:PE X a ta):PE X (.UnaryOp .Not a pos) (AiT ta):=by
 intro pins s σ H Q I h
 refine UnaryOp_ (thn (ha pins s σ H _ I h) fun v s1 ⟨x,H1,I1,r1,q1⟩=>?_)
 obtain ⟨c,rfl,q1⟩:=q1
 cases r1
 exact not_of (wpAny_truthy_bool ⟨.bl (!c),H1,I1,rfl,q1⟩)
end
end L2
namespace L2
open PySem PySem.Spec PyProof.Rows
noncomputable def SqL (K:PySem.W.Frag) (H:Hp) (a:Addr) (xs:List V):Prop :=
 Rd H a (.lst xs) ∨
  ∃ (o:Obj) (its:Array Value) (n:Nat),K.lookup a=some o∧o.cls=.type "list"∧o.dict=none∧o.data=.seq its n∧its.size≤sizeLine∧Vals xs its.toList
noncomputable def SqT (K:PySem.W.Frag) (H:Hp) (a:Addr) (xs:List V):Prop :=
 Rd H a (.tup xs) ∨
  ∃ (o:Obj) (its:Array Value) (n:Nat),K.lookup a=some o∧o.cls=.type "tuple"∧o.data=.seq its n∧its.size≤sizeLine∧Vals xs its.toList
noncomputable def AlR:Value→Option V
 | .none=>some .non
 | .bool b=>some (.bl b)
 | .int i _=>some (.int i)
 | .str x _=>some (.str x)
 | .bytes b _=>some (.byt b)
 | .float b _=>some (.flt b)
 | .ref a=>some (.ref a)
 | .type n=>some (.ty n)
 | _=>none
theorem RelV.abs {x:V} {u:Value} (r:RelV x u):AlR u=some x:=by
 cases x with
 | non=>cases r;rfl
 | bl _=>cases r;rfl
 | int _=>obtain ⟨t,rfl⟩:=r;rfl
 | str _=>obtain ⟨t,rfl⟩:=r;rfl
 | byt _=>obtain ⟨t,rfl⟩:=r;rfl
 | flt _=>obtain ⟨t,rfl⟩:=r;rfl
 | ref _=>cases r;rfl
 | ty _=>cases r;rfl
theorem RelV.inj {x y:V} {u:Value} (r:RelV x u) (q:RelV y u):x=y:=Option.some.inj (r.abs.symm.trans q.abs)
theorem Vals.inj:∀ {xs ys:List V} {us:List Value},Vals xs us→Vals ys us→xs=ys
 | _,_,_,.nil,.nil=>rfl
 | _,_,_,.cons r t,.cons r' t'=>by rw [r.inj r',Vals.inj t t']
section
variable {X:Cx} {pins:List (Addr × Obj)} {σ:St} {H:Hp} {s:Shared} {a:Addr} {xs ys:List V}
theorem SqL.of {K:PySem.W.Frag} (h:H a=some (.lst xs)):SqL K H a xs:=.inl (.inl h)
theorem SqT.of {K:PySem.W.Frag} (h:H a=some (.tup xs)):SqT K H a xs:=.inl (.inl h)
theorem Inv.list (I:Inv X pins σ H s) (h:SqL X.K H a xs):∃ its:List Value,Vals xs its∧PlainL s.heap a its.toArray∧xs.length≤sizeLine:=by
 rcases h with h | ⟨o,its,n,hk,hc,hd,hs,hz,r⟩
 ·obtain ⟨z,its,n,r,e⟩:=h.ok I.hok
  exact ⟨its,r,⟨_,n,e,rfl,rfl,rfl⟩,z⟩
 ·refine ⟨its.toList,r,⟨o,n,I.kIn a o hk,hc,hd,by simpa using hs⟩,?_⟩
  have e:=r.length
  simp only [Array.length_toList] at e
  omega
theorem Inv.tuple (I:Inv X pins σ H s) (h:SqT X.K H a xs):∃ its:List Value,Vals xs its∧IsTup s.heap a its.toArray∧xs.length≤sizeLine:=by
 rcases h with h | ⟨o,its,n,hk,hc,hs,hz,r⟩
 ·obtain ⟨z,its,r,p⟩:=h.ok I.hok
  exact ⟨its,r,p,z⟩
 ·refine ⟨its.toList,r,⟨o,I.kIn a o hk,hc,n,by simpa using hs⟩,?_⟩
  have e:=r.length
  simp only [Array.length_toList] at e
  omega
theorem Inv.list_inj (I:Inv X pins σ H s) (h:SqL X.K H a xs) (h':SqL X.K H a ys):xs=ys:=by
 obtain ⟨its,r,⟨o,n,e,_,_,d⟩,_⟩:=I.list h
 obtain ⟨its',r',⟨o',n',e',_,_,d'⟩,_⟩:=I.list h'
 rw [e] at e';cases e'
 rw [d] at d'
 injection d' with d1 _
 have:its=its':=by simpa using congrArg Array.toList d1
 subst this
 exact r.inj r'
theorem Inv.tuple_inj (I:Inv X pins σ H s) (h:SqT X.K H a xs) (h':SqT X.K H a ys):xs=ys:=by
 obtain ⟨its,r,⟨o,e,_,n,d⟩,_⟩:=I.tuple h
 obtain ⟨its',r',⟨o',e',_,n',d'⟩,_⟩:=I.tuple h'
 rw [e] at e';cases e'
 rw [d] at d'
 injection d' with d1 _
 have:its=its':=by simpa using congrArg Array.toList d1
 subst this
 exact r.inj r'
end
noncomputable abbrev Cx.wish (X:Cx) (E:Value→Shared→Prop):Cx:={ X with xe:=E }
noncomputable abbrev Cx.nox (X:Cx):Cx:=X.wish fun _ _=>False
theorem Cx.Ok.wish {X:Cx} (ok:X.Ok) (E:Value→Shared→Prop):(X.wish E).Ok :=
 ⟨ok.mod,ok.kind,ok.glob,ok.blt,ok.above,ok.inj,ok.has,ok.cab,ok.hd,ok.frames,ok.stk,ok.exf,ok.bs,ok.bsz,ok.noex,ok.exfs,ok.funs,ok.frf⟩
theorem Cx.Ok.unwish {X:Cx} {E:Value→Shared→Prop} (ok:(X.wish E).Ok):X.Ok :=
 ⟨ok.mod,ok.kind,ok.glob,ok.blt,ok.above,ok.inj,ok.has,ok.cab,ok.hd,ok.frames,ok.stk,ok.exf,ok.bs,ok.bsz,ok.noex,ok.exfs,ok.funs,ok.frf⟩
section
variable {X:Cx} {pins:List (Addr × Obj)} {σ:St} {H:Hp} {s:Shared} {E:Value→Shared→Prop}
theorem Inv.wish (I:Inv X pins σ H s) (E:Value→Shared→Prop):Inv (X.wish E) pins σ H s:=⟨I.ok.wish E,I.os,I.bare,I.base,I.loc,I.cell,I.free,I.freeC,I.pin,I.hok,I.len⟩
theorem Inv.unwish (I:Inv (X.wish E) pins σ H s):Inv X pins σ H s:=⟨I.ok.unwish,I.os,I.bare,I.base,I.loc,I.cell,I.free,I.freeC,I.pin,I.hok,I.len⟩
theorem SP.unwish {D:Ends} {f:Flow} {s':Shared} (h:SP (X.wish E) pins D f s'):SP X pins D f s':=by
 cases f with
 | next=>obtain ⟨σ',H',I,q⟩:=h;exact ⟨σ',H',I.unwish,q⟩
 | brk=>obtain ⟨σ',H',I,q⟩:=h;exact ⟨σ',H',I.unwish,q⟩
 | cont=>obtain ⟨σ',H',I,q⟩:=h;exact ⟨σ',H',I.unwish,q⟩
 | ret u=>obtain ⟨v,σ',H',I,r,q⟩:=h;exact ⟨v,σ',H',I.unwish,r,q⟩
theorem PSs.nox {st:List Stmt} {t:TS} (h:PSs X.nox st t):PSs X st t:=fun pins s σ H D I hw =>
 wpAny_mono (h pins s σ H D (I.wish _) hw) (fun _ _ q=>q.unwish) fun _ _ z=>False.elim z
end
section
variable {X:Cx} {st:Stmt} {rest:List Stmt} {t u:TS} {e:Expr} {te:TE} {pos:Pos}
noncomputable def Ajv:TS:=fun D σ H=>D.nx σ H
noncomputable def Amv (t u:TS):TS:=fun D σ H=>t { D with nx:=u D } σ H
theorem Ade:PSs X [] Ajv:=fun _ _ σ H _ I h=>wpAny_execs_nil ⟨σ,H,I,h⟩
theorem Pn (h1:PS X st t) (h2:PSs X rest u):PSs X (st :: rest) (Amv t u):=by
 intro pins s σ H D I h
 refine wpAny_execs_cons (thn (h1 pins s σ H { D with nx:=u D } I h) fun f s1 q=>?_)
 cases f with
 | next =>
  obtain ⟨σ',H',I',q⟩:=q
  exact h2 pins s1 σ' H' D I' q
 | ret v=>exact q
 | brk=>exact q
 | cont=>exact q
theorem Sy (h1:PS X st t):PSs X [st] t:=by
 intro pins s σ H D I h
 refine wpAny_execs_cons (thn (h1 pins s σ H D I h) fun f s1 q=>?_)
 cases f with
 | next=>exact wpAny_execs_nil q
 | ret v=>exact q
 | brk=>exact q
 | cont=>exact q
theorem Inv.quiet {pins:List (Addr × Obj)} {σ:St} {H:Hp} {s:Shared} (I:Inv X pins σ H s):interactive X.env=false:=by simp [interactive,I.ok.kind]
noncomputable def Akq (te:TE):TS:=fun D σ H=>te σ H fun _ H1=>D.nx σ H1
theorem Um (he:PE X e te) (hs:swapsWith e none pos.line X.env=pure false:=by rfl):PS X (.Expr e pos) (Akq te):=by
 intro pins s σ H D I h
 exact wpAny_Expr_any (thn (he pins s σ H _ I h) fun v s1 ⟨x,H1,I1,r1,q1⟩=>⟨σ,H1,I1,q1⟩) I.quiet hs
noncomputable def AmO (te:TE):TS:=fun D σ H=>te σ H D.rt
theorem Ahl (he:PE X e te):PS X (.Return (some e) pos) (AmO te):=by
 intro pins s σ H D I h
 exact wpAny_Return_some (thn (he pins s σ H _ I h) fun v s1 ⟨x,H1,I1,r1,q1⟩=>⟨x,σ,H1,I1,r1,q1⟩)
noncomputable def Al5 (c:TT) (t u:TS):TS:=fun D σ H=>c σ H fun b H1=>if b=true then t D σ H1 else u D σ H1
theorem Akz {c:Expr} {a b:List Stmt} {tc:TT} (hc:PT X c tc) (ha:PSs X a t) (hb:PSs X b u):PS X (.If c a b pos) (Al5 tc t u):=by
 intro pins s σ H D I h
 refine wpAny_If (thn (hc pins s σ H _ I h) fun d s1 ⟨H1,I1,q1⟩=>?_)
 cases d with
 | true=>exact ha pins s1 σ H1 D I1 q1
 | false=>exact hb pins s1 σ H1 D I1 q1
noncomputable def Agh:TS:=fun _ _ _=>False
theorem AbZ:PS X st Agh:=fun _ _ _ _ _ _ h=>h.elim
end
noncomputable abbrev TG:=V→St→Hp→(St→Hp→Prop)→Prop
noncomputable abbrev TGs:=List V→St→Hp→(St→Hp→Prop)→Prop
noncomputable def PG (X:Cx) (target:Expr) (t:TG):Prop :=
 ∀ (pins:List (Addr × Obj)) (s:Shared) (σ:St) (H:Hp) (v:V) (u:Value) (Q:St→Hp→Prop),Inv X pins σ H s→RelV v u→t v σ H Q →
  wpAny (model X.prog X.w) X.A (assign target X.env u) (fun _ s'=>∃ σ' H',Inv X pins σ' H' s'∧Q σ' H') X.xe s
noncomputable def PGs (X:Cx) (ts:List Expr) (t:TGs):Prop :=
 ∀ (pins:List (Addr × Obj)) (s:Shared) (σ:St) (H:Hp) (vs:List V) (us:List Value) (Q:St→Hp→Prop),Inv X pins σ H s→Vals vs us→t vs σ H Q →
  wpAny (model X.prog X.w) X.A (assignInOrder ((assignEach ts X.env).map (·.2)) us) (fun _ s'=>∃ σ' H',Inv X pins σ' H' s'∧Q σ' H') X.xe s
noncomputable abbrev Aga:=V→V→V→Hp→(Hp→Prop)→Prop
noncomputable def AkD (X:Cx) (t:Aga):Prop :=
 ∀ (pins:List (Addr × Obj)) (s:Shared) (σ:St) (H:Hp) (o i v:V) (ov iv u:Value) (Q:Hp→Prop),Inv X pins σ H s→RelV o ov→RelV i iv→RelV v u→t o i v H Q →
  wpAny (model X.prog X.w) X.A (setItem ov iv u) (fun _ s'=>∃ H',Inv X pins σ H' s'∧Q H') X.xe s
noncomputable abbrev TIp:=V→V→Hp→VK→Prop
noncomputable def PIp (X:Cx) (op:Operator) (t:TIp):Prop :=
 ∀ (pins:List (Addr × Obj)) (s:Shared) (σ:St) (H:Hp) (x y:V) (v u:Value) (Q:VK),Inv X pins σ H s→RelV x v→RelV y u→t x y H Q →
  wpAny (model X.prog X.w) X.A (inplaceOp op v u) (EP X pins σ Q) X.xe s
section
variable {X:Cx} {pos:Pos}
noncomputable def Y6 (i:Nat):TG:=fun v σ H Q=>Q (σ.set i (some v)) H
theorem SN {i:Nat} {x:Str} (hN:X.N.Nodup) (hi:X.N[i]? = some x) (hx:Loc X.env.scope x) (hf:X.fn x=true∨X.env.scope.names.lookup x=some .local:=by first | exact .inl rfl | exact .inr rfl | assumption):PG X (.Name x pos) (Y6 i):=by
 intro pins s σ H v u Q I r h
 exact wpAny_assign_Name (PJ I hN hi hx r (fun s' I'=>⟨_,H,I',h⟩) hf)
noncomputable def Amc:TGs:=fun vs σ H Q=>vs=[]∧Q σ H
noncomputable def AjU (t:TG) (u:TGs):TGs:=fun vs σ H Q=>∃ v r,vs=v :: r∧t v σ H fun σ' H'=>u r σ' H' Q
theorem Ad3:PGs X [] Amc:=by
 intro pins s σ H vs us Q I r h
 obtain ⟨e,h⟩:=h
 subst e
 cases r
 exact assignInOrder_nil ⟨σ,H,I,h⟩
theorem Abg {e:Expr} {es:List Expr} {t:TG} {u:TGs} (h1:PG X e t) (h2:PGs X es u)
  (hs:(assignEach (e :: es) X.env).map (·.2)=assign e X.env :: (assignEach es X.env).map (·.2):=by rfl):PGs X (e :: es) (AjU t u):=by
 intro pins s σ H vs us Q I r h
 obtain ⟨v,vr,e1,h⟩:=h
 subst e1
 cases r with
 | cons r rr =>
  rw [hs]
  refine assignInOrder_cons (thn (h1 pins s σ H _ _ _ I r h) fun _ s1 ⟨σ1,H1,I1,q1⟩=>?_)
  exact h2 pins s1 σ1 H1 _ _ Q I1 rr q1
noncomputable def Amu (K:PySem.W.Frag) (n:Nat) (t:TGs):TG:=fun v σ H Q=>∃ a xs,v=.ref a∧SqT K H a xs∧xs.length=n∧t xs σ H Q
theorem AgV {es:List Expr} {k:Nat} {t:TGs} {n:Nat} (hc:X.calm=true) (h:PGs X es t)
  (hn:(assignEach es X.env).length=n:=by rfl) (hst:(assignEach es X.env).findIdx? (·.1)=none:=by rfl):PG X (.Tuple es k pos) (Amu X.K n t):=by
 intro pins s σ H v u Q I r hw
 obtain ⟨a,xs,e1,hq,hl,hw⟩:=hw
 subst e1
 cases r
 obtain ⟨its,rv,ht,hz⟩:=I.tuple hq
 refine assign_Tuple_tuple (I.ok.hd hc) ht (by simp [hn,←hl,rv.length]) hst fun h' hx=>?_
 have I1:Inv X pins σ H { s with heap:=h' }:=I.kept (t':=s.toks) fun b o e=>hx b o (Nat.ne_of_lt (Heap.lt_size e)) e
 exact h pins _ σ H xs _ Q I1 (by simpa using rv) hw
noncomputable def Amx (to ti:TE) (t:Aga):TG:=fun v σ H Q=>to σ H fun o H1=>ti σ H1 fun i H2=>t o i v H2 fun H3=>Q σ H3
theorem Agq {o i:Expr} {to ti:TE} {t:Aga} (ho:PE X o to) (hi:PE X i ti) (hs:AkD X t)
  (ha:∀ v,assign (.Subscript o i pos) X.env v=(do
   let ov ←holding [v] (eval o X.env)
   let iv ←holding [v,ov] (eval i X.env)
   standAt pos
   holding [v,ov,iv] (setItem ov iv v)
   release [v,ov,iv] []):=by intro _;rfl):PG X (.Subscript o i pos) (Amx to ti t):=by
 intro pins s σ H v u Q I r h
 rw [ha]
 refine wpAny_bind (wpAny_holding (thn (ho pins s σ H _ I h) fun ov s1 ⟨x,H1,I1,r1,q1⟩=>?_))
 refine wpAny_bind (wpAny_holding (thn (hi pins s1 σ H1 _ I1 q1) fun iv s2 ⟨y,H2,I2,r2,q2⟩=>?_))
 refine wpAny_bind (wpAny_standAt (wpAny_bind (wpAny_holding (thn (hs pins s2 σ H2 x y v ov iv u _ I2 r1 r2 r q2) fun _ s3 ⟨H3,I3,q3⟩=>?_))))
 exact wpAny_release ⟨σ,H3,I3,q3⟩
noncomputable def AjS (te:TE) (g:TG):TS:=fun D σ H=>te σ H fun x H1=>g x σ H1 D.nx
theorem Aai {tg e:Expr} {te:TE} {g:TG} (he:PE X e te) (hg:PG X tg g) (hs:swapsWithSole [tg] e pos.line X.env=pure false:=by rfl) (hw:swappedStores [tg] e X.env=pure none:=by rfl)
  (h1:(assignEach [tg] X.env).map (·.2)=[assign tg X.env]:=by rfl):PS X (.Assign [tg] e pos) (AjS te g):=by
 intro pins s σ H D I h
 refine wpAny_Assign_stores (thn (he pins s σ H _ I h) fun v s1 ⟨x,H1,I1,r1,q1⟩=>?_) hs hw
 rw [h1]
 exact thn (hg pins s1 σ H1 x v _ I1 r1 q1) fun _ s2 q=>q
theorem WK {i:Nat} {x:Str} {e:Expr} {te:TE} {pos':Pos} (hN:X.N.Nodup) (hi:X.N[i]? = some x) (hx:Loc X.env.scope x) (he:PE X e te) (hs:swapsWith e (some (.Name x pos')) pos.line X.env=pure false:=by rfl) (hf:X.fn x=true∨X.env.scope.names.lookup x=some .local:=by first | exact .inl rfl | exact .inr rfl | assumption) :
  PS X (.Assign [.Name x pos'] e pos) (AjS te (Y6 i)):=by
 intro pins s σ H D I h
 refine wpAny_Assign_Name (thn (he pins s σ H _ I h) fun v s1 ⟨y,H1,I1,r1,q1⟩=>?_) hs
 exact PJ I1 hN hi hx r1 (fun s2 I2=>⟨_,H1,I2,q1⟩) hf
noncomputable def AlI (i:Nat) (te:TE) (ti:TIp):TS:=fun D σ H=>∃ x,σ[i]? = some (some x)∧te σ H fun y H1=>ti x y H1 fun z H2=>D.nx (σ.set i (some z)) H2
theorem AfN {i:Nat} {x:Str} {e:Expr} {te:TE} {op:Operator} {ti:TIp} {pos':Pos} (hN:X.N.Nodup) (hi:X.N[i]? = some x) (hx:Loc X.env.scope x) (he:PE X e te) (ho:PIp X op ti) (hf:X.fn x=true∨X.env.scope.names.lookup x=some .local:=by first | exact .inl rfl | exact .inr rfl | assumption) :
  PS X (.AugAssign (.Name x pos') op e pos) (AlI i te ti):=by
 intro pins s σ H D I h
 obtain ⟨v,e1,h⟩:=h
 obtain ⟨m,hn,hl⟩:=I.loc
 have vis:Vis X.env.scope x:=by rcases hx with k | k;exact .inl k;exact .inr (.inl k)
 obtain ⟨u,r,l⟩:=hl i x v hi e1 vis
 refine wpAny_AugAssign_Name ?_
 have go:wpAny (model X.prog X.w) X.A (eval e X.env) (fun w s₂=>wpAny (model X.prog X.w) X.A (inplaceOp op u w) (fun r s₃=>wpAny (model X.prog X.w) X.A (storeName X.env x r) (fun _=>SP X pins D .next) X.xe s₃) X.xe s₂) X.xe s:=by
  refine thn (he pins s σ H _ I h) fun w s1 ⟨y,H1,I1,r1,q1⟩=>?_
  refine thn (ho pins s1 σ H1 v y u w _ I1 r r1 q1) fun z s2 ⟨zv,H2,I2,r2,q2⟩=>?_
  exact PJ I2 hN hi hx r2 (fun s3 I3=>⟨_,H2,I3,q2⟩) hf
 rcases l with ⟨hk,hm⟩ | ⟨hk,c,hc,hcell⟩
 ·exact wpAny_loadName_local I.ok.kind hk hn hm go
 ·rcases hk with hk | hk
  ·exact wpAny_loadName_cell I.ok.kind hk hc hcell go
  ·rcases hx with k | k
   ·have:X.env.scope.names.lookup x=some .free:=hk
    rw [k] at this;cases this
   ·have:X.env.scope.names.lookup x=some .free:=hk
    rw [k] at this;cases this
noncomputable def ipI (f:Int→Int→Int):TIp:=fun x y H Q=>∃ i j,x=.int i∧y=.int j∧Q (.int (f i j)) H
theorem Agm:PIp X .Add (ipI fun i j=>i+j):=by
 intro pins s σ H x y v u Q I r1 r2 h
 obtain ⟨i,j,e1,e2,q⟩:=h
 subst e1;subst e2
 obtain ⟨t,rfl⟩:=r1
 obtain ⟨t',rfl⟩:=r2
 exact iadd_int ⟨.int _,H,I.tok _,⟨_,rfl⟩,q⟩
end
section
variable {X:Cx} {pos:Pos}
noncomputable def Agk (c:TT) (tb:TS):TS:=fun D σ H=>∃ W:Nat→St→Hp→Prop,(∃ m,W m σ H)∧∀ m σ H,W m σ H →
 c σ H fun b H1=>if b=true then ∃ N:St→Hp→Prop,(∀ σ' H',N σ' H'→∃ m',m' < m∧W m' σ' H')∧tb { D with nx:=N,ct:=N,bk:=D.nx } σ H1 else D.nx σ H1
theorem AbF {c:Expr} {body:List Stmt} {tc:TT} {tb:TS} (hp:PassesOwn (model X.prog X.w) X.A X.env X.xe) (hc:PT X c tc) (hb:PSs X body tb):PS X (.While c body [] pos) (Agk tc tb):=by
 intro pins s σ H D I h
 obtain ⟨W,⟨m0,w0⟩,turn⟩:=h
 refine wpAny_While (codeAny_whileLoop (fun n s'=>∃ σ' H',Inv X pins σ' H' s'∧W n σ' H') ?_ m0 ⟨σ,H,I,w0⟩)
 rintro n s1 ⟨σ1,H1,I1,w1⟩
 refine wpAny_passesOwn hp (thn (hc pins s1 σ1 H1 _ I1 (turn n σ1 H1 w1)) fun b s2 ⟨H2,I2,q2⟩=>?_)
 cases b with
 | true =>
  obtain ⟨N,hN,q2⟩:=q2
  rw [if_pos rfl]
  refine wpAny_passesOwn hp (thn (hb pins s2 σ1 H2 _ I2 q2) fun f s3 q3=>?_)
  cases f with
  | next =>
   obtain ⟨σ3,H3,I3,n3⟩:=q3
   obtain ⟨m',hm,w3⟩:=hN σ3 H3 n3
   exact ⟨m',hm,σ3,H3,I3,w3⟩
  | cont =>
   obtain ⟨σ3,H3,I3,n3⟩:=q3
   obtain ⟨m',hm,w3⟩:=hN σ3 H3 n3
   exact ⟨m',hm,σ3,H3,I3,w3⟩
  | brk=>exact q3
  | ret v=>exact q3
 | false =>
  rw [if_neg Bool.false_ne_true]
  exact wpAny_execs_nil ⟨σ1,H2,I2,q2⟩
end
structure It where
 go:Nat→Hp→Prop
 yld:Nat→Hp→V→Hp→Prop
 stop:Nat→Hp→Prop
noncomputable def LR (X:Cx) (pins:List (Addr × Obj)) (H:Hp) (b:Addr):Prop :=
 H b=none∧b≠X.env.locals∧b∉X.fs∧(b∈X.ex∨X.s₀.heap.objs.size≤b)∧(∀ x c,X.env.cells.lookup x=some c→c≠b)∧∀ p∈X.pn ++ pins,p.1≠b
theorem Inv.fpOk {X:Cx} {pins:List (Addr × Obj)} {σ:St} {H H':Hp} {s:Shared} {b:Addr} (I:Inv X pins σ H s) (hb:s.heap.objs.size≤b) (hn:H' b=none):LR X pins H' b:=by
 refine ⟨hn,Nat.ne_of_gt (Nat.lt_of_lt_of_le I.lt hb),I.nofs hb,.inr (Nat.le_trans I.sz hb),fun x c e z=>?_,fun p hp z=>?_⟩
 ·obtain ⟨v,q⟩:=I.cell x c e
  exact absurd (Nat.lt_of_lt_of_le q.lt (by rw [z];exact hb)) (Nat.lt_irrefl _)
 ·exact absurd (Nat.lt_of_lt_of_le (Heap.lt_size (I.pin p hp).1) (by rw [z];exact hb)) (Nat.lt_irrefl _)
structure Turn (P:Program) (w:World) (K:PySem.W.Frag) (tg:Expr) (J:It) (fp:List Addr) (it:Addr) (tn:Nat→Heap→Prop):Prop where
 mem:it∈fp
 obj:∀ i h,tn i h→∀ b∈fp,∃ o,h.get? b=some o∧∀ v,o.data≠.cell v
 keep:∀ i h h',tn i h→(∀ b∈fp,∀ o,h.get? b=some o→h'.get? b=some o)→tn i h'
 item:∀ (X:Cx),X.prog=P→X.w=w→X.K=K→X.calm=true→∀ (i:Nat) (pins:List (Addr × Obj)) (s:Shared) (σ:St) (H:Hp) (E:Value→Shared→Prop),Inv X pins σ H s→(∀ b∈fp,LR X pins H b)→tn i s.heap→J.go i H →
  wpAny (model P w) X.A (pyNext (.ref it)) (fun r s1=>∃ u,r=some u ∧
   wpAny (model P w) X.A (letOwnedTupleGo tg (.ref it) u) (fun _ s2=>∃ x H',Inv X pins σ H' s2∧RelV x u∧J.yld i H x H'∧tn (i+1) s2.heap∧∀ b∈fp,H' b=none) E s1) E s
 done:∀ (X:Cx),X.prog=P→X.w=w→X.K=K→X.calm=true→∀ (i:Nat) (pins:List (Addr × Obj)) (s:Shared) (σ:St) (H:Hp) (E:Value→Shared→Prop),Inv X pins σ H s→(∀ b∈fp,LR X pins H b)→tn i s.heap→J.stop i H →
  wpAny (model P w) X.A (pyNext (.ref it)) (fun r s1=>r=none∧Inv X pins σ H s1) E s
 self:∀ (A:Around) (i:Nat) (s:Shared) (Q:Value→Shared→Prop) (E:Value→Shared→Prop),tn i s.heap→Q (.ref it) s→wpAny (model P w) A (pyIter (.ref it)) Q E s
noncomputable abbrev TI:=St→Hp→(It→Hp→Prop)→Prop
noncomputable def PIE (X:Cx) (pins:List (Addr × Obj)) (σ:St) (tg:Expr) (R:It→Hp→Prop) (itv:Value) (s2:Shared):Prop :=
 ∃ (it:Addr) (fp:List Addr) (tn:Nat→Heap→Prop) (J:It) (H':Hp),itv=.ref it∧Inv X pins σ H' s2∧Turn X.prog X.w X.K tg J fp it tn∧tn 0 s2.heap∧(∀ b∈fp,LR X pins H' b)∧R J H'
noncomputable def PI (X:Cx) (tg iter:Expr) (wi:TI):Prop :=
 ∀ (pins:List (Addr × Obj)) (s:Shared) (σ:St) (H:Hp) (R:It→Hp→Prop),Inv X pins σ H s→wi σ H R →
  wpAny (model X.prog X.w) X.A (eval iter X.env) (fun v s1=>wpAny (model X.prog X.w) X.A (pyIter v) (PIE X pins σ tg R) X.xe s1) X.xe s
theorem Yl {M:Model} {A:Around} {E:Value→Shared→Prop} {s:Shared} {tg:Expr} {it:Addr} {u:Value} {o:Obj} {n:String} {vs:Array Value} {Q:Unit→Shared→Prop} (ho:s.heap.get? it=some o) (hc:o.cls=.type n) (hd:o.data=.fields vs)
  (hn:["enumerate","zip","dict_itemiterator","dict_reverseitemiterator","odict_iterator","itertools.zip_longest","itertools.pairwise"].contains n=false) (hQ:Q () s):wpAny M A (letOwnedTupleGo tg (.ref it) u) Q E s:=by
 unfold letOwnedTupleGo
 cases tg <;> first
  | exact wpAny_pure hQ
  | (cases u <;> first
    | exact wpAny_pure hQ
    | (refine wpAny_bind (wpAny_load ho ?_)
       rw [hc,hd]
       show wpAny M A (if (["enumerate","zip","dict_itemiterator","dict_reverseitemiterator","odict_iterator","itertools.zip_longest","itertools.pairwise"].contains n && vs[0]? == some (rawInt _))=true then _ else _) Q E s
       rw [if_neg (by intro h;rw [hn,Bool.false_and] at h;cases h)]
       exact wpAny_pure hQ))
noncomputable def Itl (K:PySem.W.Frag) (a:Addr):It :=
 ⟨fun i H=>∃ xs x,SqL K H a xs∧xs[i]? = some x,fun i H x H'=>H'=H∧∀ xs,SqL K H a xs→xs[i]? = some x,fun i H=>∃ xs,SqL K H a xs∧xs.length≤i⟩
noncomputable def Itt (K:PySem.W.Frag) (a:Addr):It :=
 ⟨fun i H=>∃ xs x,SqT K H a xs∧xs[i]? = some x,fun i H x H'=>H'=H∧∀ xs,SqT K H a xs→xs[i]? = some x,fun i H=>∃ xs,SqT K H a xs∧xs.length≤i⟩
noncomputable def Itr (lo:Int) (n:Nat):It:=⟨fun i _=>i < n,fun i H x H'=>H'=H∧x=.int (lo+i),fun i _=>n≤i⟩
theorem Zz {P:Program} {w:World} {K:PySem.W.Frag} {tg:Expr} (a it:Addr):Turn P w K tg (Itl K a) [it] it (fun i h=>h.IsListIter it a i) where
 mem:=by simp
 obj:=fun i h st b hb=>by
  have e:b=it:=by simpa using hb
  subst e
  obtain ⟨o,e,c,d⟩:=st
  exact ⟨o,e,fun v z=>by rw [d] at z;cases z⟩
 keep:=fun i h h' st k=>st.at fun o e=>k it (by simp) o e
 item:=by
  intro X hP hw hK hc i pins s σ H E I hf st hg
  subst hP hw hK
  obtain ⟨xs,x,hq,hx⟩:=hg
  obtain ⟨its,rv,p,hz⟩:=I.list hq
  obtain ⟨u,hu,ru⟩:=rv.get hx
  obtain ⟨f0,f1,f2,f3,f4,f5⟩:=hf it (by simp)
  refine wpAny_pyNext_list_item st p.isList (x:=u) (by simpa using hu) fun h' st' sb=>?_
  have I1:Inv X pins σ H { s with heap:=h' }:=I.turned (t':=s.toks) (fun b o hb e=>(sb.2 b hb).trans e) f0 f1 f3 f4 f5
  obtain ⟨o,e,c,d⟩:=id st'
  exact ⟨u,rfl,Yl (s:={ s with heap:=h' }) e c d (by decide) ⟨x,H,I1,ru,⟨rfl,fun ys hy=>by rw [I.list_inj hy hq];exact hx⟩,st',fun b hb=>(hf b hb).1⟩⟩
 done:=by
  intro X hP hw hK hc i pins s σ H E I hf st hg
  subst hP hw hK
  obtain ⟨xs,hq,hx⟩:=hg
  obtain ⟨its,rv,p,hz⟩:=I.list hq
  obtain ⟨f0,f1,f2,f3,f4,f5⟩:=hf it (by simp)
  have hl:=rv.length
  exact wpAny_pyNext_list_end (I.ok.hd hc) st p.isList (by simp;omega) fun h' eb=>⟨rfl,I.turned (t':=s.toks) (fun b o hb e=>eb b o hb e) f0 f1 f3 f4 f5⟩
 self:=fun _ _ _ _ _ st h=>wpAny_pyIter_listiter st h
theorem WL {P:Program} {w:World} {K:PySem.W.Frag} {tg:Expr} (a it:Addr):Turn P w K tg (Itt K a) [it] it (fun i h=>h.IsTupleIter it a i) where
 mem:=by simp
 obj:=fun i h st b hb=>by
  have e:b=it:=by simpa using hb
  subst e
  obtain ⟨o,e,c,d⟩:=st
  exact ⟨o,e,fun v z=>by rw [d] at z;cases z⟩
 keep:=fun i h h' st k=>st.at fun o e=>k it (by simp) o e
 item:=by
  intro X hP hw hK hc i pins s σ H E I hf st hg
  subst hP hw hK
  obtain ⟨xs,x,hq,hx⟩:=hg
  obtain ⟨its,rv,p,hz⟩:=I.tuple hq
  obtain ⟨u,hu,ru⟩:=rv.get hx
  obtain ⟨f0,f1,f2,f3,f4,f5⟩:=hf it (by simp)
  refine wpAny_pyNext_tuple_item st (show s.heap.IsTuple a its.toArray from p) (x:=u) (by simpa using hu) fun h' st' sb=>?_
  have I1:Inv X pins σ H { s with heap:=h' }:=I.turned (t':=s.toks) (fun b o hb e=>(sb.2 b hb).trans e) f0 f1 f3 f4 f5
  obtain ⟨o,e,c,d⟩:=id st'
  exact ⟨u,rfl,Yl (s:={ s with heap:=h' }) e c d (by decide) ⟨x,H,I1,ru,⟨rfl,fun ys hy=>by rw [I.tuple_inj hy hq];exact hx⟩,st',fun b hb=>(hf b hb).1⟩⟩
 done:=by
  intro X hP hw hK hc i pins s σ H E I hf st hg
  subst hP hw hK
  obtain ⟨xs,hq,hx⟩:=hg
  obtain ⟨its,rv,p,hz⟩:=I.tuple hq
  obtain ⟨f0,f1,f2,f3,f4,f5⟩:=hf it (by simp)
  have hl:=rv.length
  exact wpAny_pyNext_tuple_end (I.ok.hd hc) st (show s.heap.IsTuple a its.toArray from p) (by simp;omega) fun h' eb=>⟨rfl,I.turned (t':=s.toks) (fun b o hb e=>eb b o hb e) f0 f1 f3 f4 f5⟩
 self:=fun _ _ _ _ _ st h=>wpAny_pyIter_tupleiter st h
theorem Wo {P:Program} {w:World} {K:PySem.W.Frag} {tg:Expr} (it:Addr) (lo:Int) (n:Nat):Turn P w K tg (Itr lo n) [it] it (fun i h=>IsRangeIter h it (lo+(i:Nat)*1) ((n:Int) - (i:Nat)) 1) where
 mem:=by simp
 obj:=fun i h st b hb=>by
  have e:b=it:=by simpa using hb
  subst e
  exact ⟨_,st,fun v z=>by
   have z':Data.fields _=Data.cell v:=z
   cases z'⟩
 keep:=fun i h h' st k=>k it (by simp) _ st
 item:=by
  intro X hP hw hK hc i pins s σ H E I hf st hg
  subst hP hw hK
  obtain ⟨f0,f1,f2,f3,f4,f5⟩:=hf it (by simp)
  have W:=Walks.range (prog:=X.prog) (w:=X.w) (I.ok.hd hc) it lo 1 n
  refine W.item i s _ _ hg st fun v h' tk hv st' kk=>?_
  obtain ⟨t,rfl⟩:=hv
  have I1:Inv X pins σ H { s with heap:=h',toks:=tk }:=I.turned (fun b o hb e=>kk b o (by simpa using hb) e) f0 f1 f3 f4 f5
  refine ⟨_,rfl,Yl (s:={ s with heap:=h',toks:=tk }) (n:="range_iterator") st' rfl rfl (by decide) ⟨.int (lo+i),H,I1,⟨t,?_⟩,⟨rfl,rfl⟩,st',fun b hb=>(hf b hb).1⟩⟩
  rw [Int.mul_one]
 done:=by
  intro X hP hw hK hc i pins s σ H E I hf st hg
  subst hP hw hK
  obtain ⟨f0,f1,f2,f3,f4,f5⟩:=hf it (by simp)
  exact wpAny_pyNext_range_end (I.ok.hd hc) st (by have:n≤i:=hg;omega) fun h' eb=>⟨rfl,I.turned (t':=s.toks) (fun b o hb e=>eb b o hb e) f0 f1 f3 f4 f5⟩
 self:=fun _ _ _ _ _ st h=>wpAny_pyIter_rangeiter st h
end L2
namespace L2
open PySem PySem.Spec PyProof.Rows
section
variable {X:Cx} {tg:Expr}
noncomputable def AkW (K:PySem.W.Frag) (tl:TE):TI:=fun σ H R=>tl σ H fun x H1=>∃ a,x=.ref a∧(∃ xs,SqL K H1 a xs)∧R (Itl K a) H1
noncomputable def AnA (K:PySem.W.Frag) (tl:TE):TI:=fun σ H R=>tl σ H fun x H1=>∃ a,x=.ref a∧(∃ xs,SqT K H1 a xs)∧R (Itt K a) H1
theorem Aeh {l:Expr} {tl:TE} (hl:PE X l tl):PI X tg l (AkW X.K tl):=by
 intro pins s σ H R I h
 refine thn (hl pins s σ H _ I h) fun v s1 ⟨x,H1,I1,r1,q1⟩=>?_
 obtain ⟨a,e,⟨xs,hq⟩,q⟩:=q1
 subst e
 cases r1
 obtain ⟨its,rv,p,hz⟩:=I1.list hq
 refine wpAny_pyIter_list p.isList ?_
 refine ⟨s1.heap.objs.size,[s1.heap.objs.size],_,_,H1,rfl,I1.kept (t':=s1.toks) fun b o e=>Heap.get?_push_of_some _ e,Zz a _,⟨_,Heap.get?_push_size _ rfl,rfl,rfl⟩,fun b hb=>?_,q⟩
 have e:b=s1.heap.objs.size:=by simpa using hb
 subst e
 exact I1.fpOk (Nat.le_refl _) (I1.hok.fresh (Nat.le_refl _))
theorem AgN {l:Expr} {tl:TE} (hl:PE X l tl):PI X tg l (AnA X.K tl):=by
 intro pins s σ H R I h
 refine thn (hl pins s σ H _ I h) fun v s1 ⟨x,H1,I1,r1,q1⟩=>?_
 obtain ⟨a,e,⟨xs,hq⟩,q⟩:=q1
 subst e
 cases r1
 obtain ⟨its,rv,p,hz⟩:=I1.tuple hq
 refine wpAny_pyIter_tuple (show s1.heap.IsTuple a its.toArray from p) ?_
 refine ⟨s1.heap.objs.size,[s1.heap.objs.size],_,_,H1,rfl,I1.kept (t':=s1.toks) fun b o e=>Heap.get?_push_of_some _ e,WL a _,⟨_,Heap.get?_push_size _ rfl,rfl,rfl⟩,fun b hb=>?_,q⟩
 have e:b=s1.heap.objs.size:=by simpa using hb
 subst e
 exact I1.fpOk (Nat.le_refl _) (I1.hok.fresh (Nat.le_refl _))
theorem U5 {pins:List (Addr × Obj)} {σ:St} {H:Hp} {s:Shared} {R:It→Hp→Prop} {E:Value→Shared→Prop} {lo hi:Int} {t u v:Tok} {tk:Nat} (I:Inv X pins σ H s) (h1:-(2 ^ 62)≤lo) (h2:lo < 2 ^ 62) (h3:-(2 ^ 62)≤hi) (h4:hi < 2 ^ 62)
  (q:R (Itr lo (hi - lo).toNat) H):wpAny (model X.prog X.w) X.A (pyIter (.ref s.heap.objs.size)) (PIE X pins σ tg R) E { s with heap:=s.heap.push { cls:=.type "range",data:=.fields #[.int lo t,.int hi u,.int 1 v] },toks:=tk }:=by
 refine wpAny_pyIter_range (IsRange.new ..) (small_one h1 h2 h3 h4) ?_
 have I1:Inv X pins σ H { s with heap:=s.heap.push { cls:=.type "range",data:=.fields #[.int lo t,.int hi u,.int 1 v] },toks:=tk }:=I.kept fun b o e=>Heap.get?_push_of_some _ e
 refine ⟨(s.heap.push { cls:=.type "range",data:=.fields #[.int lo t,.int hi u,.int 1 v] }).objs.size,[(s.heap.push { cls:=.type "range",data:=.fields #[.int lo t,.int hi u,.int 1 v] }).objs.size],_,_,H,rfl,
  I1.kept (t':=tk) fun b o e=>Heap.get?_push_of_some _ e,Wo _ lo (hi - lo).toNat,?_,fun b hb=>?_,q⟩
 ·have e1:lo+((0:Nat):Int)*1=lo:=by simp
  have e2:(((hi - lo).toNat:Nat):Int) - ((0:Nat):Int)=Builtin.Range.rangeSize lo hi 1:=by rw [rangeSize_one];split <;> omega
  show IsRangeIter _ _ (lo+((0:Nat):Int)*1) ((((hi - lo).toNat:Nat):Int) - ((0:Nat):Int)) 1
  rw [e1,e2]
  exact Heap.get?_push_size _ rfl
 ·have e:b=(s.heap.push { cls:=.type "range",data:=.fields #[.int lo t,.int hi u,.int 1 v] }).objs.size:=by simpa using hb
  subst e
  exact I1.fpOk (Nat.le_refl _) (I1.hok.fresh (Nat.le_refl _))
noncomputable def AjX (ta:TA):TI:=fun σ H R=>ta σ H fun vs H1=>∃ j:Int,vs=[.int j]∧-(2 ^ 62)≤j∧j < 2 ^ 62∧R (Itr 0 j.toNat) H1
noncomputable def AkX (ta:TA):TI:=fun σ H R=>ta σ H fun vs H1=>∃ i j:Int,vs=[.int i,.int j]∧(-(2 ^ 62)≤i∧i < 2 ^ 62∧-(2 ^ 62)≤j∧j < 2 ^ 62)∧R (Itr i (j - i).toNat) H1
theorem ZR {a:Expr} {ta:TA} {p pos:Pos} (hg:Gl X "range") (hm:X.mg "range"=none) (ha:PA X [a] ta) (hs:starEach [a] X.env=[(false,eval a X.env)]:=by rfl):PI X tg (.Call (.Name "range" p) [a] [] pos) (AjX ta):=by
 intro pins s σ H R I h
 refine Call_ (KZ I hg hm boot_range (PyProof.Rows.callWith_type1 (thn (ha pos pins s σ H _ I h) fun us s1 ⟨vs,H1,I1,r1,q1⟩=>?_) hs rfl))
 obtain ⟨j,e,q1,q2,q⟩:=q1
 subst e
 cases r1 with
 | cons r rr =>
  cases rr
  obtain ⟨t,rfl⟩:=r
  exact call_range_1 (U5 I1 (by omega) (by omega) q1 q2 (by simpa using q))
theorem Z2 {a b:Expr} {ta:TA} {p pos:Pos} (hg:Gl X "range") (hm:X.mg "range"=none) (ha:PA X [a,b] ta) (hs:starEach [a,b] X.env=[(false,eval a X.env),(false,eval b X.env)]:=by rfl) (hs2:starEach [b] X.env=[(false,eval b X.env)]:=by rfl) :
  PI X tg (.Call (.Name "range" p) [a,b] [] pos) (AkX ta):=by
 intro pins s σ H R I h
 refine Call_ (KZ I hg hm boot_range (PyProof.Rows.callWith_type1 (thn (ha pos pins s σ H _ I h) fun us s1 ⟨vs,H1,I1,r1,q1⟩=>?_) (by rw [hs,hs2]) (by rw [hs2];rfl)))
 obtain ⟨i,j,e,⟨q1,q2,q3,q4⟩,q⟩:=q1
 subst e
 cases r1 with
 | cons r rr =>
  cases rr with
  | cons r' rr =>
   cases rr
   obtain ⟨t,rfl⟩:=r
   obtain ⟨t',rfl⟩:=r'
   exact call_range_2 (U5 I1 q1 q2 q3 q4 q)
noncomputable def AmR (wi:TI) (g:TG) (tb:TS):TS:=fun D σ H=>wi σ H fun J H1=>∃ W:Nat→Nat→St→Hp→Prop,(∃ m,W 0 m σ H1)∧∀ i m σ H,W i m σ H →
 (J.stop i H∧D.nx σ H)∨(J.go i H∧∃ N:St→Hp→Prop,(∀ σ' H',N σ' H'→∃ m',m' < m∧W (i+1) m' σ' H')∧∀ x H',J.yld i H x H'→g x σ H' fun σ2 H2=>tb { D with nx:=N,ct:=N,bk:=D.nx } σ2 H2)
noncomputable def M8 (fp:List Addr) (h:Heap):List (Addr × Obj):=fp.filterMap fun b=>(h.get? b).map fun o=>(b,o)
theorem Gm {fp:List Addr} {h:Heap} {b:Addr} {o:Obj} (hb:b∈fp) (e:h.get? b=some o):(b,o)∈M8 fp h:=List.mem_filterMap.mpr ⟨b,hb,by rw [e];rfl⟩
theorem Zr {fp:List Addr} {h:Heap} {p:Addr × Obj} (hp:p∈M8 fp h):p.1∈fp∧h.get? p.1=some p.2:=by
 obtain ⟨b,hb,e⟩:=List.mem_filterMap.mp hp
 cases q:h.get? b with
 | none=>rw [q] at e;cases e
 | some o =>
  rw [q] at e
  have e':(b,o)=p:=Option.some.inj e
  subst e'
  exact ⟨hb,q⟩
theorem Inv.pinned {pins:List (Addr × Obj)} {σ:St} {H:Hp} {s:Shared} {fp:List Addr} (I:Inv X pins σ H s) (hf:∀ b∈fp,LR X pins H b) (ho:∀ b∈fp,∃ o,s.heap.get? b=some o∧∀ v,o.data≠.cell v):Inv X (pins ++ M8 fp s.heap) σ H s :=
 I.pins_of fun p hp=>(List.mem_append.mp hp).elim (fun z=>I.pin p (List.mem_append_right _ z)) fun z=>by
  obtain ⟨hb,e⟩:=Zr z
  obtain ⟨f0,f1,f2,_⟩:=hf p.1 hb
  obtain ⟨o,e',d⟩:=ho p.1 hb
  rw [e] at e';cases e'
  exact ⟨e,f0,f1,f2,d⟩
theorem Inv.unpinned {pins pl:List (Addr × Obj)} {σ:St} {H:Hp} {s:Shared} (I:Inv X (pins ++ pl) σ H s):Inv X pins σ H s:=I.pins_of fun p hp=>I.pin p (List.mem_append_right _ (List.mem_append_left _ hp))
theorem Agl {iter:Expr} {body:List Stmt} {wi:TI} {g:TG} {tb:TS} {pos:Pos} (hp:PassesOwn (model X.prog X.w) X.A X.env X.xe) (hc:X.calm=true) (hi:PI X tg iter wi) (hg:PG X tg g) (hb:PSs X body tb)
  (hs:∀ x,foldedSetIterable iter X.env x=pure x:=by intro _;rfl):PS X (.For tg iter body [] pos) (AmR wi g tb):=by
 intro pins s σ H D I h
 refine wpAny_For (thn (hi pins s σ H _ I h) fun v s1 h1=>thn h1 fun itv s2 h2=>?_) hs
 obtain ⟨it,fp,tn,J,H2,e,I2,T,st2,f2,W,⟨m0,w0⟩,turn⟩:=h2
 subst e
 have stat:∀ {H':Hp},(∀ b∈fp,H' b=none)→∀ b∈fp,LR X pins H' b:=fun hn b hb=>⟨hn b hb,(f2 b hb).2⟩
 refine codeAny_forLoop_any (fun n s'=>∃ i σ' H',Inv X pins σ' H' s'∧tn i s'.heap∧(∀ b∈fp,H' b=none)∧W i n σ' H') ?_ m0 ⟨0,σ,H2,I2,st2,fun b hb=>(f2 b hb).1,w0⟩
 rintro n s3 ⟨i,σ3,H3,I3,st3,fr3,w3⟩
 rcases turn i n σ3 H3 w3 with ⟨stop,qn⟩ | ⟨go,N,hN,step⟩
 ·refine wpAny_passesOwn hp (thn (T.done X rfl rfl rfl hc i pins s3 σ3 H3 X.xe I3 (stat fr3) st3 stop) fun r s4 ⟨hr,I4⟩=>?_)
  subst hr
  exact wpAny_execs_nil ⟨σ3,H3,I4,qn⟩
 ·refine wpAny_passesOwn hp (thn (T.item X rfl rfl rfl hc i pins s3 σ3 H3 X.xe I3 (stat fr3) st3 go) fun r s4 ⟨u,hr,h4⟩=>?_)
  subst hr
  refine wpAny_passesOwn hp (thn h4 fun _ s5 ⟨x,H5,I5,r5,y5,st5,fr5⟩=>?_)
  have I5':=I5.pinned (stat fr5) (T.obj _ _ st5)
  refine wpAny_passesOwn hp (thn (hg _ s5 σ3 H5 x u _ I5' r5 (step x H5 y5)) fun _ s6 ⟨σ6,H6,I6,q6⟩=>?_)
  refine wpAny_passesOwn hp (thn (hb _ s6 σ6 H6 _ I6 q6) fun f s7 q7=>?_)
  have again:∀ {σ7:St} {H7:Hp},Inv X (pins ++ M8 fp s5.heap) σ7 H7 s7→N σ7 H7→∃ m,m < n∧∃ i σ' H',Inv X pins σ' H' s7∧tn i s7.heap∧(∀ b∈fp,H' b=none)∧W i m σ' H':=fun {σ7 H7} I7 n7=>by
   obtain ⟨m',hm,w7⟩:=hN σ7 H7 n7
   refine ⟨m',hm,i+1,σ7,H7,I7.unpinned,T.keep _ _ _ st5 fun b hb o e=>(I7.pin (b,o) (List.mem_append_right _ (List.mem_append_right _ (Gm hb e)))).1,fun b hb=>?_,w7⟩
   obtain ⟨o,e,d⟩:=T.obj _ _ st5 b hb
   exact (I7.pin (b,o) (List.mem_append_right _ (List.mem_append_right _ (Gm hb e)))).2.1
  cases f with
  | next=>obtain ⟨σ7,H7,I7,n7⟩:=q7;exact again I7 n7
  | cont=>obtain ⟨σ7,H7,I7,n7⟩:=q7;exact again I7 n7
  | brk=>obtain ⟨σ7,H7,I7,q7⟩:=q7;exact ⟨σ7,H7,I7.unpinned,q7⟩
  | ret v=>obtain ⟨x7,σ7,H7,I7,r7,q7⟩:=q7;exact ⟨x7,σ7,H7,I7.unpinned,r7,q7⟩
end
end L2
namespace L2
open PySem PySem.Spec PyProof.Rows
noncomputable abbrev R2:=V→V→Hp→VK→Prop
noncomputable def OpR (X:Cx) (f:Value→Value→Sem Value) (r:R2):Prop :=
 ∀ (pins:List (Addr × Obj)) (s:Shared) (σ:St) (H:Hp) (x y:V) (v u:Value) (Q:VK),Inv X pins σ H s→RelV x v→RelV y u→r x y H Q →
  wpAny (model X.prog X.w) X.A (f v u) (EP X pins σ Q) X.xe s
noncomputable def UnR (X:Cx) (f:Value→Sem Value) (r:V→Hp→VK→Prop):Prop :=
 ∀ (pins:List (Addr × Obj)) (s:Shared) (σ:St) (H:Hp) (x:V) (v:Value) (Q:VK),Inv X pins σ H s→RelV x v→r x H Q →
  wpAny (model X.prog X.w) X.A (f v) (EP X pins σ Q) X.xe s
noncomputable def Kw (X:Cx) (f:Value) (r:List V→Hp→VK→Prop):Prop :=
 ∀ (pins:List (Addr × Obj)) (s:Shared) (σ:St) (H:Hp) (xs:List V) (us:List Value) (Q:VK),Inv X pins σ H s→Vals xs us→r xs H Q →
  wpAny (model X.prog X.w) X.A (call f us) (EP X pins σ Q) X.xe s
noncomputable def tOp (r:R2) (ta tb:TE):TE:=fun σ H Q=>ta σ H fun x H1=>tb σ H1 fun y H2=>r x y H2 Q
noncomputable def tUn (r:V→Hp→VK→Prop) (ta:TE):TE:=fun σ H Q=>ta σ H fun x H1=>r x H1 Q
noncomputable def rI (C:Int→Int→Prop) (g:Int→Int→V):R2:=fun x y H Q=>∃ i j,x=.int i∧y=.int j∧C i j∧Q (g i j) H
noncomputable def rI0 (g:Int→Int→V):R2:=fun x y H Q=>∃ i j,x=.int i∧y=.int j∧Q (g i j) H
noncomputable def rU (g:Int→V):V→Hp→VK→Prop:=fun x H Q=>∃ i,x=.int i∧Q (g i) H
section
variable {X:Cx} {a b c:Expr} {ta tb tc:TE} {pos:Pos}
theorem AfV (ha:PE X a ta) (hb:PE X b tb) {pins:List (Addr × Obj)} {s:Shared} {σ:St} {H:Hp} {R:V→V→Hp→Prop} (I:Inv X pins σ H s)
  (h:ta σ H fun x H1=>tb σ H1 fun y H2=>R x y H2) {Q:Value→Shared→Prop} {f:Value→Value→Sem Value}
  (hf:∀ v u s2 x y H2,Inv X pins σ H2 s2→RelV x v→RelV y u→R x y H2→wpAny (model X.prog X.w) X.A (f v u) Q X.xe s2) :
  wpAny (model X.prog X.w) X.A (eval a X.env) (fun v s₁=>wpAny (model X.prog X.w) X.A (eval b X.env) (fun u s₂=>wpAny (model X.prog X.w) X.A (f v u) Q X.xe s₂) X.xe s₁) X.xe s:=by
 refine thn (ha pins s σ H _ I h) fun v s1 ⟨x,H1,I1,r1,q1⟩=>?_
 refine thn (hb pins s1 σ H1 _ I1 q1) fun u s2 ⟨y,H2,I2,r2,q2⟩=>?_
 exact hf v u s2 x y H2 I2 r1 r2 q2
theorem Afh {op:Operator} {r:R2} (ho:OpR X (binaryOp op) r) (ha:PE X a ta) (hb:PE X b tb):PE X (.BinOp a op b pos) (tOp r ta tb):=by
 intro pins s σ H Q I h
 exact wpAny_BinOp (AfV ha hb I h fun v u s2 x y H2 I2 rx ry q=>ho pins s2 σ H2 x y v u Q I2 rx ry q)
theorem AhE {op:UnaryOp} {r:V→Hp→VK→Prop} (ho:UnR X (unaryOp op) r) (ha:PE X a ta):PE X (.UnaryOp op a pos) (tUn r ta):=by
 intro pins s σ H Q I h
 exact UnaryOp_ (thn (ha pins s σ H _ I h) fun v s1 ⟨x,H1,I1,r1,q1⟩=>ho pins s1 σ H1 x v Q I1 r1 q1)
theorem opI {f:Value→Value→Sem Value} {C:Int→Int→Prop} {g:Int→Int→Int}
  (rule:∀ (i j:Int) (t u:Tok) (s:Shared) (Q:Value→Shared→Prop) (E:Value→Shared→Prop),C i j→Q (.int (g i j) s.toks) { s with toks:=s.toks+1 }→wpAny (model X.prog X.w) X.A (f (.int i t) (.int j u)) Q E s) :
  OpR X f (rI C fun i j=>.int (g i j)):=by
 intro pins s σ H x y v u Q I rx ry h
 obtain ⟨i,j,rfl,rfl,hc,q⟩:=h
 obtain ⟨t,rfl⟩:=rx
 obtain ⟨t',rfl⟩:=ry
 exact rule i j t t' s _ _ hc ⟨.int (g i j),H,I.tok _,⟨_,rfl⟩,q⟩
theorem Ai2 {f:Value→Value→Sem Value} {g:Int→Int→Int}
  (rule:∀ (i j:Int) (t u:Tok) (s:Shared) (Q:Value→Shared→Prop) (E:Value→Shared→Prop),Q (.int (g i j) s.toks) { s with toks:=s.toks+1 }→wpAny (model X.prog X.w) X.A (f (.int i t) (.int j u)) Q E s) :
  OpR X f (rI0 fun i j=>.int (g i j)):=by
 intro pins s σ H x y v u Q I rx ry h
 obtain ⟨i,j,rfl,rfl,q⟩:=h
 obtain ⟨t,rfl⟩:=rx
 obtain ⟨t',rfl⟩:=ry
 exact rule i j t t' s _ _ ⟨.int (g i j),H,I.tok _,⟨_,rfl⟩,q⟩
theorem Ac5 {f:Value→Value→Sem Value} {g:Int→Int→Bool}
  (rule:∀ (i j:Int) (t u:Tok) (s:Shared) (Q:Value→Shared→Prop) (E:Value→Shared→Prop),Q (.bool (g i j)) s→wpAny (model X.prog X.w) X.A (f (.int i t) (.int j u)) Q E s) :
  OpR X f (rI0 fun i j=>.bl (g i j)):=by
 intro pins s σ H x y v u Q I rx ry h
 obtain ⟨i,j,rfl,rfl,q⟩:=h
 obtain ⟨t,rfl⟩:=rx
 obtain ⟨t',rfl⟩:=ry
 exact rule i j t t' s _ _ ⟨.bl (g i j),H,I,rfl,q⟩
noncomputable def AcI (i j:Int):Prop:=0≤j∧j≤1000000∧i.natAbs < 2 ^ 64
theorem Wq (k:Nat):(0:Int)≤2 ^ k:=by
 rw [two_pow_cast]
 exact Int.natCast_nonneg _
theorem AgD:OpR X (binaryOp .Add) (rI0 fun i j=>.int (i+j)):=Ai2 fun _ _ _ _ _ _ _ q=>add_int q
theorem Agy:OpR X (binaryOp .Sub) (rI0 fun i j=>.int (i - j)):=Ai2 fun _ _ _ _ _ _ _ q=>sub_int q
theorem Ad4:OpR X (binaryOp .Mod) (rI (fun _ j=>j≠0) fun i j=>.int (i.fmod j)):=opI fun _ _ _ _ _ _ _ hc q=>mod_int' hc q
theorem AgP:OpR X (binaryOp .LShift) (rI AcI fun i j=>.int (i*2 ^ j.toNat)):=opI fun _ _ _ _ _ _ _ hc q=>lshift_int_small hc.1 hc.2.1 hc.2.2 q
theorem Ahk:OpR X (binaryOp .RShift) (rI (fun _ j=>0≤j) fun i j=>.int (i / 2 ^ j.toNat)):=opI fun i j _ _ _ _ _ hc q =>
 rshift_int hc (by rw [Int.fdiv_eq_ediv_of_nonneg i (Wq _)];exact q)
theorem unI {f:Value→Sem Value} {g:Int→Int}
  (rule:∀ (i:Int) (t:Tok) (s:Shared) (Q:Value→Shared→Prop) (E:Value→Shared→Prop),Q (.int (g i) s.toks) { s with toks:=s.toks+1 }→wpAny (model X.prog X.w) X.A (f (.int i t)) Q E s) :
  UnR X f (rU fun i=>.int (g i)):=by
 intro pins s σ H x v Q I rx h
 obtain ⟨i,rfl,q⟩:=h
 obtain ⟨t,rfl⟩:=rx
 exact rule i t s _ _ ⟨.int (g i),H,I.tok _,⟨_,rfl⟩,q⟩
theorem AfE:UnR X (unaryOp .USub) (rU fun i=>.int (-i)):=unI fun _ _ _ _ _ q=>neg_int q
end
section
variable {X:Cx} {a b c:Expr} {ta tb tc:TE} {pos:Pos}
theorem AbM:OpR X (compareOp .Lt) (rI0 fun i j=>.bl (decide (i < j))):=Ac5 fun _ _ _ _ _ _ _ q=>lt_int q
theorem V7:OpR X (compareOp .LtE) (rI0 fun i j=>.bl (decide (i≤j))):=Ac5 fun _ _ _ _ _ _ _ q=>le_int q
theorem Aku:OpR X (compareOp .Gt) (rI0 fun i j=>.bl (decide (j < i))):=Ac5 fun _ _ _ _ _ _ _ q=>gt_int q
theorem AeJ:OpR X (compareOp .GtE) (rI0 fun i j=>.bl (decide (j≤i))):=Ac5 fun _ _ _ _ _ _ _ q=>ge_int q
theorem JX (b:Expr) {op:CmpOp} (h:op≠.In:=by decide) (h2:op≠.NotIn:=by decide):behindInMarks op b=false:=by
 have e1:(op == CmpOp.In)=false:=by cases op <;> first | rfl | exact absurd rfl h
 have e2:(op == CmpOp.NotIn)=false:=by cases op <;> first | rfl | exact absurd rfl h2
 cases b <;> simp [behindInMarks,e1,e2]
theorem X4 {op:CmpOp} {r:R2} (ho:OpR X (compareOp op) r) (ha:PE X a ta) (hb:PE X b tb) (hm:behindInMarks op b=false):PE X (.Compare a [op] [b] pos) (tOp r ta tb):=by
 intro pins s σ H Q I h
 exact wpAny_Compare1 (AfV ha hb I h fun v u s2 x y H2 I2 rx ry q=>ho pins s2 σ H2 x y v u Q I2 rx ry q) hm
noncomputable def AiC (t:TE):TT:=fun σ H Q=>t σ H fun x H'=>∃ k,x=.bl k∧Q k H'
theorem YK {op:CmpOp} {r:R2} (ho:OpR X (compareOp op) r) (ha:PE X a ta) (hb:PE X b tb) (hm:behindInMarks op b=false):PT X (.Compare a [op] [b] pos) (AiC (tOp r ta tb)):=by
 intro pins s σ H Q I h
 refine wpAny_isTrue_Compare1 (thn (ha pins s σ H _ I h) fun v s1 ⟨x,H1,I1,r1,q1⟩=>thn (hb pins s1 σ H1 _ I1 q1) fun u s2 ⟨y,H2,I2,r2,q2⟩ =>
  thn (ho pins s2 σ H2 x y v u _ I2 r1 r2 q2) fun c s3 ⟨z,H3,I3,r3,k,e,q3⟩=>?_) hm
 subst e
 cases r3
 exact wpAny_truthy_bool ⟨H3,I3,q3⟩
noncomputable def Aau (r r':R2) (ta tb tc:TE):TE:=fun σ H Q=>ta σ H fun x H1=>tb σ H1 fun y H2=>r x y H2 fun z H3=>∃ k,z=.bl k ∧
 (if k=true then tc σ H3 fun w' H4=>r' y w' H4 Q else Q (.bl false) H3)
theorem Abk {op op':CmpOp} {r r':R2} (ho:OpR X (compareOp op) r) (ho':OpR X (compareOp op') r') (ha:PE X a ta) (hb:PE X b tb) (hc:PE X c tc)
  (hm:lastMarks [op,op'] [b,c]=false:=by with_unfolding_all rfl):PE X (.Compare a [op,op'] [b,c] pos) (Aau r r' ta tb tc):=by
 intro pins s σ H Q I h
 refine Compare_chain (thn (ha pins s σ H _ I h) fun v s1 ⟨x,H1,I1,r1,q1⟩=>chain_link (thn (hb pins s1 σ H1 _ I1 q1) fun u s2 ⟨y,H2,I2,r2,q2⟩ =>
  thn (ho pins s2 σ H2 x y v u _ I2 r1 r2 q2) fun d s3 ⟨z,H3,I3,r3,k,e,q3⟩=>?_)) hm
 subst e
 cases r3
 refine wpAny_truthy_bool ?_
 cases k with
 | false=>exact ite_ff ⟨.bl false,H3,I3,rfl,q3⟩
 | true=>exact ite_tt (chain_last (thn (hc pins s3 σ H3 _ I3 q3) fun w' s4 ⟨z',H4,I4,r4,q4⟩=>ho' pins s4 σ H4 y z' u w' Q I4 r2 r4 q4))
theorem Uh:(sizeLine:Nat) < 2 ^ 63:=by rw [sizeLine_eq];decide
theorem vals1 {x:V} {us:List Value} (r:Vals [x] us):∃ u,us=[u]∧RelV x u:=by
 cases r with
 | cons r1 r2=>cases r2;exact ⟨_,rfl,r1⟩
theorem vals2 {x y:V} {us:List Value} (r:Vals [x,y] us):∃ u w',us=[u,w']∧RelV x u∧RelV y w':=by
 cases r with
 | cons r1 r2 =>
  cases r2 with
  | cons r3 r4=>cases r4;exact ⟨_,_,rfl,r1,r3⟩
theorem Aag:Kw X (.builtin "abs") (fun xs H Q=>∃ i,xs=[.int i]∧Q (.int (if i < 0 then -i else i)) H):=by
 intro pins s σ H xs us Q I r h
 obtain ⟨i,rfl,q⟩:=h
 obtain ⟨u,rfl,t,rfl⟩:=vals1 r
 exact call_abs_int fun u tk=>⟨.int (if i < 0 then -i else i),H,I.tok _,⟨_,rfl⟩,q⟩
theorem Zx (hc:X.calm=true):Kw X (.builtin "max") (fun xs H Q=>∃ i j,xs=[.int i,.int j]∧Q (.int (if j > i then j else i)) H):=by
 intro pins s σ H xs us Q I r h
 obtain ⟨i,j,rfl,q⟩:=h
 obtain ⟨u,w',rfl,⟨t,rfl⟩,⟨t',rfl⟩⟩:=vals2 r
 refine max_two_ints (I.ok.hd hc) fun h' tk k=>⟨_,H,I.kept k,?_,q⟩
 by_cases hj:j > i
 ·rw [if_pos hj,if_pos hj];exact ⟨_,rfl⟩
 ·rw [if_neg hj,if_neg hj];exact ⟨_,rfl⟩
end
end L2
namespace L2
open PySem PySem.Spec PyProof.Rows
structure WY (h:Heap) (x dx C:Addr) (mA:Str→Option Value):Prop where
 obj:h.get? x=some (PySem.W.instObj C dx)
 ns:h.Ns1 dx mA
 ne:dx≠x
theorem Zw {h:Heap} {dx:Addr} {mA:Str→Option Value} (n:h.Ns1 dx mA):∃ od,h.get? dx=some od∧∀ name,PySem.W.lookIn name od=some (mA name):=by
 obtain ⟨o,es,ep,ho,hd,hk,_,hm⟩:=n
 refine ⟨o,ho,fun name=>?_⟩
 have e:=hm name
 unfold nsFind findBy at e
 rw [←Array.find?_toList] at e
 unfold PySem.W.lookIn
 rw [hd]
 dsimp only
 split
 ·rename_i y q
  rw [q] at e
  exact congrArg some e
 ·rename_i q
  rw [q] at e
  have a:es.toList.any (·.refKey)=false:=by
   rw [List.any_eq_false]
   intro y hy
   obtain ⟨z,t,hkey⟩:=hk y (Array.mem_toList_iff.mp hy)
   simp [DictEntry.refKey,hkey]
  have a':¬ es.toList.any (·.refKey)=true:=by rw [a];exact Bool.false_ne_true
  rw [if_neg a']
  exact congrArg some e
theorem WY.look {h:Heap} {x dx C:Addr} {mA:Str→Option Value} (I:WY h x dx C mA):∃ od,PySem.W.InstAt h x (PySem.W.instObj C dx) C (some od)∧∀ name,PySem.W.lookIn name od=some (mA name) :=
 let ⟨od,ho,hl⟩:=Zw I.ns
 ⟨od,⟨I.obj,rfl,rfl,ho⟩,hl⟩
section
variable {prog:Program} {w:World} {A:Around} {E:Value→Shared→Prop} {s:Shared} {K:PySem.W.Frag} {x dx C f:Addr} {mA:Str→Option Value} {name:Str} {v:Value}
theorem get_map {expr:Bool} {Q:Value→Shared→Prop} (X:K.In s.heap) (I:WY s.heap x dx C mA) (hg:PySem.W.plainGet K C name=true) (hh:PySem.W.hasDictIn K C=true)
  (ha:PySem.W.findIn K (.ref C) name=some none) (hv:mA name=some v) (hv':PySem.W.handedIn v=true) (h:Q v { s with toks:=s.toks+1 }) :
  wpAny (model prog w) A (getAttr (.ref x) name expr) Q E s:=by
 obtain ⟨od,J,hl⟩:=I.look
 exact PySem.W.get_value X J (PySem.W.plainGet_of hg).1 (PySem.W.findObj_own hh ha rfl (by rw [hl,hv])) hv' h
theorem Aaf {pl:Sem Bool} {Q:Value × List Value→Shared→Prop} (X:K.In s.heap) (I:WY s.heap x dx C mA) (hg:PySem.W.plainGet K C name=true)
  (hf:PySem.W.findIn K (.ref C) name=some (some (.ref f))) (ht:PySem.W.isFn K (.ref f)=true) (hv:mA name=none) (h:Q (.ref f,[.ref x]) s) :
  wpAny (model prog w) A (getMethod (.ref x) name pl) Q E s:=by
 obtain ⟨od,J,hl⟩:=I.look
 exact PySem.W.method_fn X J (PySem.W.plainGet_of hg).1 (PySem.W.plainGet_of hg).2 hf (beq_iff_eq.mp ht) (by show (PySem.W.lookIn name od).map (·.isSome)=some false;rw [hl,hv];rfl) h
theorem AdS {ns:List Str} {Q:Unit→Shared→Prop} (X:K.In s.heap) (I:WY s.heap x dx C mA)
  (hs:PySem.W.findIn K (.ref C) "__setattr__"=some (some (.builtin "object.__setattr__"))) (hp:PySem.W.plainOver K C=true) (ht:PySem.W.takerIn K C name=some none) (hh:PySem.W.hasDictIn K C=true)
  (hw:PySem.Within mA ns) (hsz:ns.length≤sizeLine)
  (h:∀ h',WY h' x dx C (fun y=>if y=name then some v else mA y)→Heap.SameBut dx s.heap h'→Q () { s with heap:=h',toks:=s.toks+2 }) :
  wpAny (model prog w) A (setAttr (.ref x) name v) Q E s:=by
 obtain ⟨od,J,hl⟩:=I.look
 refine PySem.W.set_plain X J hs (PySem.W.osa_open (s:={ s with toks:=s.toks+1 }) (r:=none) X J hp ht fun b=>?_)
 obtain ⟨cd,hc,hd'⟩:=PySem.W.any_some hh
 have hx:s.heap.get? x=some ⟨.ref C,some dx,.plain,#[]⟩:=I.obj
 refine wpAny_bind (wpAny_pure (wpAny_bind (wpAny_bind (wpAny_loadPart hx (wpAny_bind (PySem.W.Looks.here (s:={ s with toks:=s.toks+1 }) (PySem.W.looks_clsIn X hc) ?_))))))
 rw [hd']
 refine wpAny_pure (a:=some dx) (wpAny_bind (wpAny_pure (wpAny_bind ?_)))
 refine wpAny_nsSet1 (s:={ s with toks:=s.toks+1 }) I.ns fun h' hn2 hs2=>?_
 obtain ⟨oD,esD,epD,hoD,hdD,hcD⟩:=hn2.count (PySem.Within.cons name v hw)
 refine wpAny_bind (wpAny_lookBehind hoD (by rw [hdD];exact pastItsLine_dict (Nat.le_trans hcD (by rw [List.length_cons];omega))) ?_)
 exact wpAny_pure (h _ ⟨(hs2.2 _ (Ne.symm I.ne)).trans I.obj,hn2,I.ne⟩ hs2)
theorem AaM {R:Result→Shared→Prop} {vs:List Value} {kw:List (Str × Value)} (X:K.In s.heap) (hm:PySem.W.makesIn K C=true)
  (hi:PySem.W.findIn K (.ref C) "__init__"=some (some (.ref f))) (hf:PySem.W.typeIn K (.ref f)=some (.type "function"))
  (h:codeAny (model prog w) (A.under (.builtin "type.__call__" ⟨.ref C :: vs,kw⟩)) (.call (.ref f) ⟨.ref (s.heap.objs.size+1) :: vs,kw⟩) (PySem.W.InitBack (s.heap.objs.size+1) R)
   { s with heap:=(s.heap.push PySem.W.emptyDict).push (PySem.W.instObj C s.heap.objs.size) }) :
  codeAny (model prog w) A (.call (.ref C) ⟨vs,kw⟩) R s:=by
 obtain ⟨hh,g,d,t,os⟩:=s
 exact PySem.W.make_core (PySem.W.makes_of X hm) (PySem.W.looks_findIn X hi) (fun self=>PySem.W.bind_fn X self hf) (.inl rfl) h
end
noncomputable def Hu (f:Str) (v:V):List (Str × V)→List (Str × V)
 | []=>[(f,v)]
 | (g,x) :: r=>if g=f then (g,v) :: r else (g,x) :: Hu f v r
theorem Nz (f g:Str) (v:V):∀ fs:List (Str × V),(Hu f v fs).lookup g=if g=f then some v else fs.lookup g
 | []=>by
  show List.lookup g [(f,v)]=_
  by_cases h:g=f
  ·have hb:(g == f)=true:=beq_iff_eq.mpr h
   simp only [List.lookup,hb,if_pos h]
  ·have hb:(g == f)=false:=beq_eq_false_iff_ne.mpr h
   simp only [List.lookup,hb,if_neg h]
 | (k,x) :: r=>by
  have ih:=Nz f g v r
  rw [show Hu f v ((k,x) :: r)=(if k=f then (k,v) :: r else (k,x) :: Hu f v r) from rfl]
  by_cases hk:k=f
  ·rw [if_pos hk]
   by_cases h:g=k
   ·have hb:(g == k)=true:=beq_iff_eq.mpr h
    simp only [List.lookup,hb,if_pos (h.trans hk)]
   ·have hb:(g == k)=false:=beq_eq_false_iff_ne.mpr h
    simp only [List.lookup,hb,if_neg (fun e:g=f=>h (e.trans hk.symm))]
  ·rw [if_neg hk]
   by_cases h:g=k
   ·have hb:(g == k)=true:=beq_iff_eq.mpr h
    simp only [List.lookup,hb,if_neg (fun e:g=f=>hk (h.symm.trans e))]
   ·have hb:(g == k)=false:=beq_eq_false_iff_ne.mpr h
    simp only [List.lookup,hb]
    exact ih
theorem Np (f:Str) (v:V):∀ fs:List (Str × V),f∈(Hu f v fs).map (·.1)∧∀ g,g∈fs.map (·.1)→g∈(Hu f v fs).map (·.1)
 | []=>⟨by simp [Hu],fun g h=>by simp at h⟩
 | (k,x) :: r=>by
  obtain ⟨i1,i2⟩:=Np f v r
  rw [show Hu f v ((k,x) :: r)=(if k=f then (k,v) :: r else (k,x) :: Hu f v r) from rfl]
  by_cases hk:k=f
  ·rw [if_pos hk]
   subst hk
   exact ⟨by simp,fun g h=>by simpa using h⟩
  ·rw [if_neg hk]
   refine ⟨?_,fun g h=>?_⟩
   ·rw [List.map_cons]
    exact List.mem_cons_of_mem _ i1
   ·rw [List.map_cons] at h ⊢
    rcases List.mem_cons.mp h with e | e
    ·exact List.mem_cons.mpr (.inl e)
    ·exact List.mem_cons_of_mem _ (i2 g e)
theorem N7 (f:Str) (v:V):∀ fs:List (Str × V),(Hu f v fs).length≤fs.length+1
 | []=>by simp [Hu]
 | (k,x) :: r=>by
  have ih:=N7 f v r
  rw [show Hu f v ((k,x) :: r)=(if k=f then (k,v) :: r else (k,x) :: Hu f v r) from rfl]
  by_cases hk:k=f
  ·rw [if_pos hk,List.length_cons,List.length_cons];omega
  ·rw [if_neg hk,List.length_cons,List.length_cons];omega
theorem Rj.some_of {v:V} {o:Option Value} (r:Rj (some v) o):∃ u,o=some u∧RelV v u:=by
 cases o with
 | none=>exact (show False from r).elim
 | some u=>exact ⟨u,rfl,r⟩
theorem Rj.none_of {o:Option Value} (r:Rj none o):o=none:=by
 cases o with
 | none=>rfl
 | some u=>exact (show False from r).elim
theorem ZF {v:V} {u:Value} (r:RelV v u):PySem.W.handedIn u=true:=by
 cases v with
 | non=>cases (show u=Value.none from r);rfl
 | bl b=>cases (show u=Value.bool b from r);rfl
 | int i=>obtain ⟨t,e⟩:=(show ∃ t,u=Value.int i t from r);cases e;rfl
 | str x=>obtain ⟨t,e⟩:=(show ∃ t,u=Value.str x t from r);cases e;rfl
 | byt b=>obtain ⟨t,e⟩:=(show ∃ t,u=Value.bytes b t from r);cases e;rfl
 | flt b=>obtain ⟨t,e⟩:=(show ∃ t,u=Value.float b t from r);cases e;rfl
 | ref a=>cases (show u=Value.ref a from r);rfl
 | ty n=>cases (show u=Value.type n from r);rfl
section
variable {P:Program} {w:World} {H H':Hp} {h h':Heap} {a C dx:Addr} {fs fs':List (Str × V)}
theorem TX (hok:HOk P w H h) (e:H a=some (.ins C dx fs)):∃ mA,WY h a dx C mA∧(∀ f,Rj (fs.lookup f) (mA f))∧PySem.Within mA (fs.map (·.1))∧fs.length≤1000∧H dx=some (.own a):=by
 obtain ⟨d,z,ne,ob,mA,n,r,q⟩:=(show HB P w H h a (.ins C dx fs) from hok a _ e)
 exact ⟨mA,⟨ob,n,ne⟩,r,q,z,d⟩
end
structure Cls (K:PySem.W.Frag) (C:Addr):Prop where
 pg:PySem.W.plainGet K C Str.empty=true
 hd:PySem.W.hasDictIn K C=true
 po:PySem.W.plainOver K C=true
 sa:PySem.W.findIn K (.ref C) "__setattr__"=some (some (.builtin "object.__setattr__"))
theorem Cls.get {K:PySem.W.Frag} {C:Addr} (c:Cls K C) (f:Str):PySem.W.plainGet K C f=true:=c.pg
noncomputable def Im (K:PySem.W.Frag) (C:Addr) (f:Str):Prop:=PySem.W.findIn K (.ref C) f=some none
theorem Im.taker {K:PySem.W.Frag} {C:Addr} {f:Str} (n:Im K C f):PySem.W.takerIn K C f=some none:=by
 unfold PySem.W.takerIn
 rw [show PySem.W.findIn K (.ref C) f=some none from n]
 rfl
structure Meth (K:PySem.W.Frag) (C:Addr) (m:Str) (f:Addr):Prop where
 at_:PySem.W.findIn K (.ref C) m=some (some (.ref f))
 fn:PySem.W.isFn K (.ref f)=true
 kp:PySem.W.keepIn K (.ref f)=true
section
variable {X:Cx} {pins:List (Addr × Obj)} {σ:St} {H:Hp} {s:Shared} {a C dx:Addr} {fs:List (Str × V)} {f:Str} {v:V} {A:Around} {E:Value→Shared→Prop}
theorem Xx {b:Bool} {Q:Value→Shared→Prop} (I:Inv X pins σ H s) (e:H a=some (.ins C dx fs)) (c:Cls X.K C) (n:Im X.K C f) (l:fs.lookup f=some v)
  (h:∀ u s',Inv X pins σ H s'→RelV v u→Q u s'):wpAny (model X.prog X.w) A (getAttr (.ref a) f b) Q E s:=by
 obtain ⟨mA,O,r,_,_,_⟩:=TX I.hok e
 obtain ⟨u,hu,ru⟩:=Rj.some_of (v:=v) (o:=mA f) (by rw [←l];exact r f)
 exact get_map I.kIn O (c.get f) c.hd n hu (ZF ru) (h u _ (I.tok _) ru)
theorem Xv {m:Str} {g:Addr} {pl:Sem Bool} {Q:Value × List Value→Shared→Prop} (I:Inv X pins σ H s) (e:H a=some (.ins C dx fs)) (c:Cls X.K C) (k:Meth X.K C m g) (l:fs.lookup m=none)
  (h:Q (.ref g,[.ref a]) s):wpAny (model X.prog X.w) A (getMethod (.ref a) m pl) Q E s:=by
 obtain ⟨mA,O,r,_,_,_⟩:=TX I.hok e
 have hn:mA m=none:=Rj.none_of (by rw [←l];exact r m)
 exact Aaf I.kIn O (c.get m) k.at_ k.fn hn h
theorem Xi {y:V} {u:Value} {Q:Unit→Shared→Prop} (I:Inv X pins σ H s) (e:H a=some (.ins C dx fs)) (c:Cls X.K C) (n:Im X.K C f) (hl:fs.length < 1000) (ry:RelV y u)
  (h:∀ s',Inv X pins σ (upd H a (.ins C dx (Hu f y fs))) s'→Q () s'):wpAny (model X.prog X.w) A (setAttr (.ref a) f u) Q E s:=by
 obtain ⟨mA,O,r,wi,_,ho⟩:=TX I.hok e
 have hz:(fs.map (·.1)).length≤sizeLine:=by rw [List.length_map,sizeLine_eq];omega
 refine AdS I.kIn O c.sa c.po n.taker c.hd wi hz fun h' O' sb=>h _ ?_
 have hd:∃ o,h'.get? dx=some o:=let ⟨o,_,_,e',_⟩:=O'.ns;⟨o,e'⟩
 refine I.write (x:=a) (e:=dx) (by rw [e];exact True.intro) (.inr ho) (fun b q hb z=>(sb.2 b hb).trans z) hd ?_
 refine ⟨by rw [Aw O.ne];exact ho,?_,O.ne,O'.obj,_,O'.ns,fun g=>?_,fun g hg=>?_⟩
 ·have:=N7 f y fs;omega
 ·show Rj ((Hu f y fs).lookup g) (if g=f then some u else mA g)
  rw [Nz]
  by_cases q:g=f
  ·rw [if_pos q,if_pos q];exact ry
  ·rw [if_neg q,if_neg q];exact r g
 ·by_cases q:g=f
  ·rw [q];exact (Np f y fs).1
  ·refine (Np f y fs).2 g (wi g fun z=>hg ?_)
   show (if g=f then some u else mA g)=none
   rw [if_neg q];exact z
theorem Inv.made (I:Inv X pins σ H s):Inv X pins σ (upd (upd H s.heap.objs.size (.own (s.heap.objs.size+1))) (s.heap.objs.size+1) (.ins C s.heap.objs.size []))
  { s with heap:=(s.heap.push PySem.W.emptyDict).push (PySem.W.instObj C s.heap.objs.size) }:=by
 have e1:(s.heap.push PySem.W.emptyDict).get? s.heap.objs.size=some PySem.W.emptyDict:=Heap.get?_push_size s.heap rfl
 have e2:((s.heap.push PySem.W.emptyDict).push (PySem.W.instObj C s.heap.objs.size)).get? (s.heap.objs.size+1)=some (PySem.W.instObj C s.heap.objs.size):=by
  have:=Heap.get?_push_size (s.heap.push PySem.W.emptyDict) (o:=PySem.W.instObj C s.heap.objs.size) rfl
  rwa [Heap.size_push] at this
 have e3:(s.heap.push PySem.W.emptyDict).Ns s.heap.objs.size (fun _=>none):=⟨PySem.W.emptyDict,#[],_,e1,rfl,(fun e he=>absurd he (by simp)),fun _=>rfl⟩
 have I1:=I.laid (a:=s.heap.objs.size) (o:=.own (s.heap.objs.size+1)) (h':=s.heap.push PySem.W.emptyDict) (t':=s.toks) (fun b u q=>Heap.get?_push_of_some _ q) (Nat.le_refl _) ⟨_,e1⟩
 refine I1.laid (a:=s.heap.objs.size+1) (o:=.ins C s.heap.objs.size []) (t':=s.toks) (fun b u q=>Heap.get?_push_of_some _ q) (Nat.le_of_eq (Heap.size_push _ _)) ?_
 have ne:s.heap.objs.size≠s.heap.objs.size+1:=Nat.ne_of_lt (Nat.lt_succ_self _)
 refine ⟨by rw [Aw ne,Bl],Nat.zero_le _,ne,e2,fun _=>none,(Heap.Ns1.of_empty e3).at fun o q=>Heap.get?_push_of_some _ q,fun _=>True.intro,fun y hy=>absurd rfl hy⟩
theorem Adr {prog:Program} {w:World} {env:Env} {e:Expr} {f:Str} {pos:Pos} {s:Shared} {Q:Value→Shared→Prop} (hb:attributeBase e f env (eval e env)=eval e env)
  (h:wpAny (model prog w) A (eval e env) (fun o s₁=>wpAny (model prog w) A (getAttr o f true) Q E s₁) E s):wpAny (model prog w) A (eval (.Attribute e f pos) env) Q E s :=
 Attribute_any_ h (by rw [arm_eval_Attribute,hb])
end
noncomputable def Alc (K:PySem.W.Frag) (ta:TE) (f:Str):TE:=fun σ H Q=>ta σ H fun x H1=>∃ a C dx fs v,x=.ref a∧H1 a=some (.ins C dx fs)∧Cls K C∧Im K C f∧fs.lookup f=some v∧Q v H1
noncomputable def AmI (K:PySem.W.Frag) (ta tv:TE) (f:Str):TS:=fun D σ H=>tv σ H fun y H1=>ta σ H1 fun x H2=>∃ a C dx fs,x=.ref a∧H2 a=some (.ins C dx fs)∧Cls K C∧Im K C f∧fs.length < 1000 ∧
 D.nx σ (upd H2 a (.ins C dx (Hu f y fs)))
section
variable {X:Cx} {o e value:Expr} {f:Str} {pos pos' tpos:Pos} {ta tv:TE}
theorem Ahp (he:PE X e ta) (hb:attributeBase e f X.env (eval e X.env)=eval e X.env):PE X (.Attribute e f pos) (Alc X.K ta f):=by
 intro pins s σ H Q I h
 refine Adr hb (thn (he pins s σ H _ I h) fun u s1 ⟨x,H1,I1,rx,a,C,dx,fs,v,ex,ea,c,n,l,q⟩=>?_)
 subst ex
 obtain rfl:u=Value.ref a:=rx
 exact Xx I1 ea c n l fun u' s2 I2 ru=>⟨v,H1,I2,ru,q⟩
theorem W4 (ha:PE X o ta) (hv:PE X value tv) (hs:swapsWith value (some (.Attribute o f pos')) pos.line X.env=pure false):PS X (.Assign [.Attribute o f pos'] value pos) (AmI X.K ta tv f):=by
 intro pins s σ H D I h
 refine plainObj_wpAny_Assign_Attribute (thn (hv pins s σ H _ I h) fun u s1 ⟨y,H1,I1,ry,q⟩=>thn (ha pins s1 σ H1 _ I1 q) fun ov s2 ⟨x,H2,I2,rx,a,C,dx,fs,ex,ea,c,n,l,q2⟩=>?_) hs
 subst ex
 obtain rfl:ov=Value.ref a:=rx
 exact Xi I2 ea c n l ry fun s3 I3=>⟨σ,_,I3,q2⟩
end
section
variable {X:Cx} {pins:List (Addr × Obj)} {σ:St} {H:Hp} {s:Shared} {A:Around} {E:Value→Shared→Prop} {Q:Value→Shared→Prop} {c:Value} {b:Bool}
end
end L2
namespace L2
open PySem PySem.Spec PyProof.Rows
structure Ez (k:Nat) (A:Around):Prop where
 hd:A.handled=none
 dp:A.depth+3*k+5 < recursionLimit
 un:A.units+16*k+200 < cLine
theorem Ez.mono {j k:Nat} {A:Around} (r:Ez k A) (h:j≤k):Ez j A:=⟨r.hd,by have:=r.dp;omega,by have:=r.un;omega⟩
theorem Ez.deeper {k:Nat} {A:Around} (r:Ez (k+1) A) (env:Env):Ez k (A.deeper env) :=
 ⟨r.hd,by have:=r.dp;show A.depth+1+3*k+5 < _;omega,by have:=r.un;show A.units+3+16*k+200 < _;omega⟩
theorem Xe {A:Around} {C:Addr} {us:List Value} {kw:List (Str × Value)}:(A.under (.builtin "type.__call__" ⟨.ref C :: us,kw⟩)).depth=A.depth+1:=by
 first | rfl | simp [Around.under,Code.weight,Code.isCreation,Code.isGuard,Code.isCaller,Code.frames,Code.isFrame,guardIds]
theorem Xo {A:Around} {C:Addr} {us:List Value} {kw:List (Str × Value)}:(A.under (.builtin "type.__call__" ⟨.ref C :: us,kw⟩)).units=A.units+1:=by
 first | rfl | simp [Around.under,Code.cUnits,Code.frames,Code.isFrame]
theorem Ez.make {k:Nat} {A:Around} (r:Ez (k+1) A) (C:Addr) (us:List Value) (kw:List (Str × Value)):Ez k (A.under (.builtin "type.__call__" ⟨.ref C :: us,kw⟩)) :=
 ⟨r.hd,by have:=r.dp;rw [Xe];omega,by have:=r.un;rw [Xo];omega⟩
theorem Ez.depth {k:Nat} {A:Around} (r:Ez k A):A.depth < recursionLimit:=by have:=r.dp;omega
theorem Ez.units {k:Nat} {A:Around} (r:Ez k A):A.units+64 < cLine:=by have:=r.un;omega
noncomputable def AiW:TA:=fun _ H Q=>Q [] H
noncomputable def AjT (ta:TE) (tr:TA):TA:=fun σ H Q=>ta σ H fun x H1=>tr σ H1 fun xs H2=>Q (x :: xs) H2
section
variable {X:Cx} {e:Expr} {es:List Expr} {te:TE} {t:TA} {pos:Pos}
theorem S7:PA X [] AiW:=fun _ _ _ _ H Q I h=>Calls.spliced_nil ⟨[],H,I,.nil,h⟩
theorem Kh (ha:PE X e te) (hr:PA X es t) (hs:starEach (e :: es) X.env=(false,eval e X.env) :: starEach es X.env:=by rfl):PA X (e :: es) (AjT te t):=by
 intro pos pins s σ H Q I h
 rw [hs]
 show wpAny _ _ (spliced ((false,eval e X.env) :: backTo pos (starEach es X.env))) _ _ s
 refine Calls.spliced_cons (thn (ha pins s σ H _ I h) fun u s1 ⟨x,H1,I1,r1,q1⟩=>?_)
 exact thn (hr pos pins s1 σ H1 _ I1 q1) fun us s2 ⟨xs,H2,I2,r2,q2⟩=>⟨x :: xs,H2,I2,.cons r1 r2,q2⟩
noncomputable def AlB (t:TA):TE:=fun σ H Q=>t σ H fun xs H1=>xs.length≤sizeLine∧∀ p,H1 p=none→Q (.ref p) (upd H1 p (.tup xs))
noncomputable def AnF (t:TA):TE:=fun σ H Q=>t σ H fun xs H1=>xs.length≤sizeLine∧∀ p,H1 p=none→Q (.ref p) (upd H1 p (.lst xs))
theorem Af5 {x1} (h:PA X es t):PE X (.Tuple es x1 pos) (AlB t):=by
 intro pins s σ H Q I hq
 refine wpAny_Tuple_spliced (thn (h pos pins s σ H _ I hq) fun us s1 ⟨xs,H1,I1,r,z,q⟩=>⟨by rw [←r.length];exact z,?_⟩)
 have hf:H1 s1.heap.objs.size=none:=I1.hok.fresh (Nat.le_refl _)
 refine ⟨.ref s1.heap.objs.size,upd H1 s1.heap.objs.size (.tup xs),I1.laid (t':=s1.toks) (fun b u e=>Heap.get?_push_of_some _ e) (Nat.le_refl _) ?_,rfl,q _ hf⟩
 exact ⟨z,us,r,⟨_,Heap.get?_push_size _ rfl,rfl,_,rfl⟩⟩
theorem AbV (h:PA X es t):PE X (.List es pos) (AnF t):=by
 intro pins s σ H Q I hq
 refine wpAny_List_spliced (thn (h pos pins s σ H _ I hq) fun us s1 ⟨xs,H1,I1,r,z,q⟩=>⟨by rw [←r.length];exact z,?_⟩)
 have hf:H1 s1.heap.objs.size=none:=I1.hok.fresh (Nat.le_refl _)
 refine ⟨.ref s1.heap.objs.size,upd H1 s1.heap.objs.size (.lst xs),I1.laid (t':=s1.toks) (fun b u e=>Heap.get?_push_of_some _ e) (Nat.le_refl _) ?_,rfl,q _ hf⟩
 exact ⟨z,us,0,r,Heap.get?_push_size _ rfl⟩
end
noncomputable abbrev Sp:=List V→Hp→VK→XK→Prop
noncomputable abbrev CXT:=List Env→Hp→Shared→XK→Value→Shared→Prop
structure W0 (P:Program) (w:World) (K:PySem.W.Frag) (mg:Str→Option Value) (base:Heap) (A:Around) (outer:List Env) (s:Shared) (H:Hp):Prop where
 frames:A.frames=some outer
 mod:Mod K mg base
 bs:∀ b o,base.get? b=some o→s.heap.get? b=some o∧H b=none
 bsz:base.objs.size≤s.heap.objs.size
 funs:s.heap.FunFrames base outer
 frf:∀ b∈frs outer,H b=none
 hok:HOk P w H s.heap
 bare:AllBare s.gens
noncomputable def CE (outer:List Env) (P:Program) (w:World) (H:Hp) (s:Shared) (Q:VK) (u:Value) (s':Shared):Prop :=
 ∃ v H',s'.os=s.os∧AllBare s'.gens∧Un (frs outer) [] H H' s.heap s'.heap∧HOk P w H' s'.heap∧RelV v u∧Q v H'
noncomputable def CR (CX:CXT) (outer:List Env) (P:Program) (w:World) (H:Hp) (s:Shared) (Q:VK) (E:XK) (r:Result) (s':Shared):Prop :=
 match r with
 | .ok (.ret u)=>CE outer P w H s Q u s'
 | .ok _=>False
 | .error e=>CX outer H s E e s'
structure HN (P:Program) (w:World) (K:PySem.W.Frag) (mg:Str→Option Value) (base:Heap) (CX:CXT) (k:Nat) (f:Addr) (fd:FuncData) (ps:List Str) (sp:Sp):Prop where
 len:∀ vs H Q E,sp vs H Q E→vs.length=ps.length
 run:∀ (A:Around) (outer:List Env) (s:Shared) (H:Hp) (args:Args) (us:List Value) (vs:List V) (Q:VK) (E:XK),Ez k A→W0 P w K mg base A outer s H→BindsTo s fd args (ps.zip us)→Vals vs us→sp vs H Q E →
  codeAny (model P w) A (.call (.ref f) args) (CR CX outer P w H s Q E) s
theorem W0.make {P:Program} {w:World} {K:PySem.W.Frag} {mg:Str→Option Value} {base:Heap} {A:Around} {outer:List Env} {s:Shared} {H:Hp} (e:W0 P w K mg base A outer s H) (C:Addr) (us:List Value) (kw:List (Str × Value)) :
  W0 P w K mg base (A.under (.builtin "type.__call__" ⟨.ref C :: us,kw⟩)) outer s H:=⟨by first | exact e.frames | (simpa [Around.under,Code.envs,Code.isFrame,pushEnvs] using e.frames),e.mod,e.bs,e.bsz,e.funs,e.frf,e.hok,e.bare⟩
section
variable {X:Cx} {pins:List (Addr × Obj)} {σ:St} {H:Hp} {s s':Shared}
theorem Inv.env0 (I:Inv X pins σ H s):W0 X.prog X.w X.K X.mg X.base X.A X.stack s H :=
 ⟨I.ok.frames,I.ok.mod,I.bs,Nat.le_trans I.ok.bsz I.sz,I.stack,I.stkFree,I.hok,I.bare⟩
theorem Inv.after {Q:VK} {u:Value} (I:Inv X pins σ H s) (h:CE X.stack X.prog X.w H s Q u s'):EP X pins σ Q u s':=by
 obtain ⟨v,H',os,bare,un,hok,r,q⟩:=h
 obtain ⟨hh,g,d,t,os'⟩:=s'
 obtain rfl:os'=s.os:=os
 exact ⟨v,H',I.call (h':=hh) (g':=g) (d':=d) (t':=t) (ch:=[]) un hok bare (fun b z=>absurd z (by simp)),r,q⟩
end
noncomputable def Afo (sp:Sp) (dvs:List V) (E:XK) (t:TA):TE:=fun σ H Q=>t σ H fun vs H1=>sp (vs ++ dvs) H1 Q E
noncomputable def Aiw (C:Addr) (sp:Sp) (dvs:List V) (E:XK) (t:TA):TE:=fun σ H Q=>t σ H fun vs H1=>∀ x dx,H1 x=none→H1 dx=none→dx≠x →
 sp (.ref x :: (vs ++ dvs)) (upd (upd H1 dx (.own x)) x (.ins C dx [])) (fun v H2=>v=.non∧Q (.ref x) H2) E
noncomputable def Binds (K:PySem.W.Frag) (fd:FuncData) (ps:List Str) (ds:List Value):Prop :=
 ∀ (s:Shared) (us:List Value),K.In s.heap→(us ++ ds).length=ps.length→BindsTo s fd ⟨us,[]⟩ (ps.zip (us ++ ds))
theorem Binds.all {K:PySem.W.Frag} {fd:FuncData} {ps:List Str} (h:∀ us:List Value,us.length=ps.length→bindArgs fd ⟨us,[]⟩=pure (ps.zip us)):Binds K fd ps []:=fun s us _ hl=>by
 rw [List.append_nil] at hl ⊢
 exact .of_eq (h us hl)
noncomputable def Passes (CX:CXT) (X:Cx) (E:XK):Prop:=∀ (pins:List (Addr × Obj)) (σ:St) (H:Hp) (s:Shared) (e:Value) (s':Shared),Inv X pins σ H s→CX X.stack H s E e s'→X.xe e s'
section
variable {X:Cx} {CX:CXT} {k:Nat} {f C:Addr} {fd:FuncData} {ps:List Str} {sp:Sp} {dvs:List V} {ds:List Value} {E:XK} {x m:Str} {p pos apos:Pos} {e o:Expr} {es:List Expr} {ta:TE} {t:TA}
theorem TQ {pins:List (Addr × Obj)} {σ:St} {H:Hp} {s:Shared} {Q:VK} {us:List Value} {vs:List V} (F:HN X.prog X.w X.K X.mg X.base CX k f fd ps sp) (hr:Ez k X.A) (hb:Binds X.K fd ps ds) (hd:Vals dvs ds) (hx:Passes CX X E)
  (I:Inv X pins σ H s) (r:Vals vs us) (h:sp (vs ++ dvs) H Q E):wpAny (model X.prog X.w) X.A (call (.ref f) us) (EP X pins σ Q) X.xe s:=by
 have r2:Vals (vs ++ dvs) (us ++ ds):=r.append hd
 have hl:(us ++ ds).length=ps.length:=by rw [←r2.length];exact F.len _ _ _ _ h
 refine wpAny_call (codeAny_mono (F.run X.A X.stack s H ⟨us,[]⟩ (us ++ ds) (vs ++ dvs) Q E hr I.env0 (hb s us I.kIn hl) r2 h) fun r s' hq=>?_)
 cases r with
 | error e=>exact hx pins σ H s e s' I hq
 | ok fl =>
  cases fl with
  | ret u=>exact I.after hq
  | next=>exact False.elim hq
  | brk=>exact False.elim hq
  | cont=>exact False.elim hq
theorem Adg (F:HN X.prog X.w X.K X.mg X.base CX k f fd ps sp) (hr:Ez k X.A) (hg:Gl X x) (hm:X.mg x=some (.ref f)) (hk:PySem.W.keepIn X.K (.ref f)=true) (hb:Binds X.K fd ps ds) (hd:Vals dvs ds) (hx:Passes CX X E)
  (ha:PA X (e :: es) t) (hdb:(x == ("__debug__":Str))=false:=by decide) (he:starEach (e :: es) X.env=(false,eval e X.env) :: starEach es X.env:=by rfl) (hpl:(backTo pos (starEach es X.env)).any (·.1)=false:=by rfl) :
  PE X (.Call (.Name x p) (e :: es) [] pos) (Afo sp dvs E t):=by
 intro pins s σ H Q I h
 refine wpAny_Call_Name_kw (S5 I hg hm ?_ hdb)
 refine PySem.W.callWith_K (h₀:=X.base) I.ok.mod.kin hk (thn (ha pos pins s σ H _ I h) fun us s1 ⟨vs,H1,I1,r,q⟩=>⟨I1.kIn,?_⟩) he hpl
 exact TQ F hr hb hd hx I1 r q
structure Mk (K:PySem.W.Frag) (C f:Addr):Prop where
 makes:PySem.W.makesIn K C=true
 init:PySem.W.findIn K (.ref C) "__init__"=some (some (.ref f))
 fn:PySem.W.isFn K (.ref f)=true
 kp:PySem.W.keepIn K (.ref C)=true
theorem Aao {pins:List (Addr × Obj)} {σ:St} {H:Hp} {s:Shared} {Q:VK} {us:List Value} {vs:List V} (M:Mk X.K C f) (F:HN X.prog X.w X.K X.mg X.base CX k f fd ps sp) (hr:Ez (k+1) X.A) (hb:Binds X.K fd ps ds) (hd:Vals dvs ds)
  (hx:Passes CX X E) (I:Inv X pins σ H s) (r:Vals vs us)
  (h:∀ x dx,H x=none→H dx=none→dx≠x→sp (.ref x :: (vs ++ dvs)) (upd (upd H dx (.own x)) x (.ins C dx [])) (fun v H2=>v=.non∧Q (.ref x) H2) E) :
  wpAny (model X.prog X.w) X.A (call (.ref C) us) (EP X pins σ Q) X.xe s:=by
 have hq:=h (s.heap.objs.size+1) s.heap.objs.size (I.hok.fresh (Nat.le_succ _)) (I.hok.fresh (Nat.le_refl _)) (Nat.ne_of_lt (Nat.lt_succ_self _))
 have I2:=Inv.made (C:=C) I
 have r2:Vals (V.ref (s.heap.objs.size+1) :: (vs ++ dvs)) (Value.ref (s.heap.objs.size+1) :: (us ++ ds)):=.cons rfl (r.append hd)
 have hl:(Value.ref (s.heap.objs.size+1) :: us ++ ds).length=ps.length:=by
  have e:=r2.length
  rw [F.len _ _ _ _ hq] at e
  exact e.symm
 refine wpAny_call (AaM (f:=f) I.kIn M.makes M.init (beq_iff_eq.mp M.fn) (codeAny_mono (F.run _ X.stack _ _ ⟨Value.ref (s.heap.objs.size+1) :: us,[]⟩ (Value.ref (s.heap.objs.size+1) :: (us ++ ds)) _ _ E (hr.make C us [])
  (I2.env0.make C us []) (hb _ (Value.ref (s.heap.objs.size+1) :: us) I2.kIn hl) r2 hq) fun r s' hq'=>?_))
 cases r with
 | error e=>exact hx pins σ _ _ e s' I2 hq'
 | ok fl =>
  cases fl with
  | ret u =>
   obtain ⟨v,H',I3,rv,ev,q3⟩:=I2.after hq'
   subst ev
   exact ⟨rv,⟨V.ref (s.heap.objs.size+1),H',I3,rfl,q3⟩⟩
  | next=>exact False.elim hq'
  | brk=>exact False.elim hq'
  | cont=>exact False.elim hq'
theorem Adh (M:Mk X.K C f) (F:HN X.prog X.w X.K X.mg X.base CX k f fd ps sp) (hr:Ez (k+1) X.A) (hg:Gl X x) (hm:X.mg x=some (.ref C)) (hb:Binds X.K fd ps ds) (hd:Vals dvs ds) (hx:Passes CX X E)
  (ha:PA X (e :: es) t) (hdb:(x == ("__debug__":Str))=false:=by decide) (he:starEach (e :: es) X.env=(false,eval e X.env) :: starEach es X.env:=by rfl) (hpl:(backTo pos (starEach es X.env)).any (·.1)=false:=by rfl) :
  PE X (.Call (.Name x p) (e :: es) [] pos) (Aiw C sp dvs E t):=by
 intro pins s σ H Q I h
 refine wpAny_Call_Name_kw (S5 I hg hm ?_ hdb)
 refine PySem.W.callWith_K (h₀:=X.base) I.ok.mod.kin M.kp (thn (ha pos pins s σ H _ I h) fun us s1 ⟨vs,H1,I1,r,q⟩=>⟨I1.kIn,?_⟩) he hpl
 exact Aao M F hr hb hd hx I1 r q
end
section
variable {X:Cx} {CX:CXT} {k:Nat} {f C:Addr} {fd:FuncData} {ps ks:List Str} {sp:Sp} {E:XK} {x m:Str} {p pos apos kpos:Pos} {e o:Expr} {es:List Expr} {kws:List Keyword} {te ta:TE} {t tk:TA} {nm:Option Str}
variable {g:List Value→List Value→List Value} {gV:List V→List V→List V}
end
structure Al (N P:List Str) (sc:Scope):Prop where
 kind:sc.kind=.function
 co:sc.isCoroutine=false
 gen:sc.isGenerator=false
 nd:N.Nodup
 pre:N.take P.length=P
 par:∀ x∈P,sc.names.lookup x=some .local∨sc.names.lookup x=some .cell
 nofree:∀ y∈sc.names,y.2≠.free
theorem RW {kindOf:Str→Option NameKind} {x:Str}:∀ {binds:List (Str × Value)} {m:Str→Option Value},(∀ v,(x,v)∉binds)→bindL kindOf binds m x=m x
 | [],_,_=>rfl
 | (n,v) :: r,m,h=>by
  unfold bindL
  rw [RW fun w hw=>h w (List.mem_cons_of_mem _ hw)]
  split
  ·have:x≠n:=by rintro rfl;exact h v List.mem_cons_self
   simp [this]
  ·rfl
theorem RX {kindOf:Str→Option NameKind} {x:Str}:∀ {binds:List (Str × Value)} {m:Str→Option Value},(∀ v,(x,v)∉binds)→bindC kindOf binds m x=m x
 | [],_,_=>rfl
 | (n,v) :: r,m,h=>by
  unfold bindC
  rw [RX fun w hw=>h w (List.mem_cons_of_mem _ hw)]
  split
  ·rfl
  ·have:x≠n:=by rintro rfl;exact h v List.mem_cons_self
   simp [this]
theorem Ru {kindOf:Str→Option NameKind} {x:Str} {v:Value}:∀ {P:List Str} {vs:List Value} {i:Nat} {m:Str→Option Value},P.Nodup→P[i]? = some x→vs[i]? = some v→kindOf x=some .local →
  bindL kindOf (P.zip vs) m x=some v
 | [],_,_,_,_,h,_,_=>by simp at h
 | _ :: _,[],_,_,_,_,h,_=>by simp at h
 | p :: P,w :: vs,0,m,nd,h1,h2,hk=>by
  simp at h1 h2;subst h1;subst h2
  show bindL kindOf ((p,w) :: P.zip vs) m p=_
  unfold bindL
  rw [RW fun v hv=>(List.nodup_cons.mp nd).1 (List.of_mem_zip hv).1,if_pos hk]
  simp
 | p :: P,w :: vs,i+1,m,nd,h1,h2,hk=>by
  show bindL kindOf ((p,w) :: P.zip vs) m x=_
  unfold bindL
  exact Ru (i:=i) (List.nodup_cons.mp nd).2 (by simpa using h1) (by simpa using h2) hk
theorem Ry {kindOf:Str→Option NameKind} {x:Str} {v:Value}:∀ {P:List Str} {vs:List Value} {i:Nat} {m:Str→Option Value},P.Nodup→P[i]? = some x→vs[i]? = some v→kindOf x≠some .local →
  bindC kindOf (P.zip vs) m x=some v
 | [],_,_,_,_,h,_,_=>by simp at h
 | _ :: _,[],_,_,_,_,h,_=>by simp at h
 | p :: P,w :: vs,0,m,nd,h1,h2,hk=>by
  simp at h1 h2;subst h1;subst h2
  show bindC kindOf ((p,w) :: P.zip vs) m p=_
  unfold bindC
  rw [RX fun v hv=>(List.nodup_cons.mp nd).1 (List.of_mem_zip hv).1,if_neg hk]
  simp
 | p :: P,w :: vs,i+1,m,nd,h1,h2,hk=>by
  show bindC kindOf ((p,w) :: P.zip vs) m x=_
  unfold bindC
  exact Ry (i:=i) (List.nodup_cons.mp nd).2 (by simpa using h1) (by simpa using h2) hk
noncomputable def start (N:List Str) (vs:List V):St:=vs.map some ++ List.replicate (N.length - vs.length) none
noncomputable def Wu (CX:CXT) (P:Program) (w:World) (K:PySem.W.Frag) (mg:Str→Option Value) (base:Heap) (N:List Str) (qual:Str) (scope:Scope) (f:Addr) (cd:Value) (A:Around) (outer:List Env) (s:Shared) (H:Hp) (E:XK):Cx where
 prog:=P
 w:=w
 K:=K
 mg:=mg
 base:=base
 A:=A.deeper (envOfC qual scope s.heap.objs.size f cd)
 N:=N
 s₀:=s
 H₀:=H
 env:=envOfC qual scope s.heap.objs.size f cd
 outer:=outer
 stack:=envOfC qual scope s.heap.objs.size f cd :: outer
 ex:=[]
 calm:=true
 fn:=fun _=>true
 pn:=[]
 xe:=fun e s'=>wpAny (model P w) (A.deeper (envOfC qual scope s.heap.objs.size f cd)) (leaving (envOfC qual scope s.heap.objs.size f cd) e) (fun _ s''=>CX outer H s E e s'') (fun e' s''=>CX outer H s E e' s'') s'
theorem VP {sc:Scope} {n:Nat} {x:Str} (h:sc.names.lookup x=some .cell):∃ c,(cellsFrom n sc.names []).lookup x=some c:=by
 have q:=PySem.W.cellsFrom_some sc.names n [] (.inl h)
 exact Option.isSome_iff_exists.mp q
theorem Z6 {CX:CXT} {P:Program} {w:World} {K:PySem.W.Frag} {mg:Str→Option Value} {base:Heap} {N ps:List Str} {qual:Str} {scope:Scope} {f:Addr} {cd:Value} {A:Around} {outer:List Env} {s s1:Shared} {H:Hp} {E:XK} {us:List Value} {vs:List V}
  (S:Al N ps scope) (hd:A.handled=none) (e0:W0 P w K mg base A outer s H) (hl:vs.length=ps.length) (r:Vals vs us)
  (x:InCallC s s.heap.objs.size (bindL (envOfC qual scope s.heap.objs.size f cd).kindOf (ps.zip us) fun _=>none) (cellsFrom (s.heap.objs.size+1) scope.names []) (bindC (envOfC qual scope s.heap.objs.size f cd).kindOf (ps.zip us) fun _=>none) s1) :
  Inv (Wu CX P w K mg base N qual scope f cd A outer s H E) [] (start N vs) H s1:=by
 have hpl:ps.length≤N.length:=by have:=congrArg List.length S.pre;rw [List.length_take] at this;omega
 obtain ⟨h1,tk,rfl,hk⟩:=x.done
 have noA:∀ b:Addr,b∉(Wu CX P w K mg base N qual scope f cd A outer s H E).ex:=fun b z=>absurd (show b∈([]:List Addr) from z) (by simp)
 refine ⟨⟨e0.mod,S.kind,rfl,rfl,Nat.le_refl _,fun y z c h1 h2=>?_,fun y hy=>?_,fun y c _ h=>?_,fun _=>hd,Around.frames_deeper e0.frames,.inr ⟨rfl,rfl⟩,fun b z=>absurd z (noA b),e0.bs,e0.bsz,fun b _ _=>noA b,fun b z=>absurd z (noA b),e0.funs,e0.frf⟩,
  rfl,e0.bare,Un.kept hk,⟨_,x.toInCall.ns,fun i y v h1 h2 h3=>?_⟩,fun y c h=>⟨_,x.cell y c h⟩,e0.hok.fresh (Nat.le_refl _),fun y c h=>?_,fun p hp=>absurd (show p∈([]:List (Addr × Obj)) from hp) (by simp),e0.hok.kept hk,?_⟩
 ·exact name_of_addr x.apart (PySem.mem_of_lookup h1) (PySem.mem_of_lookup h2)
 ·have hy:scope.names.lookup y=some .cell∨scope.names.lookup y=some .free:=hy
  rcases hy with hy | hy
  ·exact VP hy
  ·exact absurd rfl (S.nofree _ (PySem.mem_of_lookup hy))
 ·exact Nat.le_of_lt (x.above y c (PySem.mem_of_lookup h))
 ·have hi:i < vs.length:=by
   unfold start at h2
   by_cases hi:i < vs.length
   ·exact hi
   ·rw [List.getElem?_append_right (by simpa using hi)] at h2
    rw [List.getElem?_replicate] at h2
    split at h2 <;> cases h2
  have ha:vs[i]? = some v:=by
   unfold start at h2
   rw [List.getElem?_append_left (by simpa using hi),List.getElem?_map] at h2
   cases e:vs[i]? with
   | none=>rw [e] at h2;cases h2
   | some a=>rw [e] at h2;cases h2;rfl
  obtain ⟨u,hu,rv⟩:=r.get ha
  have hp:ps[i]? = some y:=by
   rw [←S.pre,List.getElem?_take_of_lt (by omega)];exact h1
  have ndP:ps.Nodup:=by rw [←S.pre];exact S.nd.sublist (List.take_sublist _ _)
  refine ⟨u,rv,?_⟩
  rcases S.par y (List.mem_of_getElem? hp) with k | k
  ·exact .inl ⟨k,Ru ndP hp hu k⟩
  ·obtain ⟨c,e⟩:=VP (n:=s.heap.objs.size+1) k
   refine .inr ⟨.inl k,c,e,?_⟩
   have q:=x.cell y c e
   rw [Ry ndP hp hu (by show scope.names.lookup y≠_;rw [k];decide)] at q
   exact q
 ·exact e0.hok.fresh (Nat.le_of_lt (x.above y c (PySem.mem_of_lookup h)))
 ·unfold start
  show _=N.length
  rw [List.length_append,List.length_map,List.length_replicate]
  omega
theorem AkV {CX:CXT} {P:Program} {w:World} {K:PySem.W.Frag} {mg:Str→Option Value} {base:Heap} {k:Nat} {f:Addr} {name qual:Str} {params:Arguments} {body:List Stmt} {scope:Scope} {dV kV doc pm cdv ct oc:Value} {an od:Option Addr}
  {osl:Array (Option Value)} {N ps:List Str} {sp:Sp} (lk:K.lookup f=some ⟨oc,od,.func (PySem.W.fnOf name qual params body scope dV kV doc pm an cdv ct),osl⟩) (hcd:PySem.W.codeIn K cdv qual=true) (S:Al N ps scope)
  (len:∀ vs H Q E,sp vs H Q E→vs.length=ps.length)
  (hbody:∀ (A:Around) (outer:List Env) (s:Shared) (H:Hp) (vs:List V) (Q:VK) (E:XK),Ez k (A.deeper (envOfC qual scope s.heap.objs.size f cdv))→sp vs H Q E →
   ∃ t,PSs (Wu CX P w K mg base N qual scope f cdv A outer s H E) body t∧t { nx:=fun _ H'=>Q .non H',rt:=Q } (start N vs) H) :
  HN P w K mg base CX (k+1) f (PySem.W.fnOf name qual params body scope dV kV doc pm an cdv ct) ps sp:=by
 refine ⟨len,fun A outer s H args us vs Q E hr e0 hb r hsp=>?_⟩
 have hl:=len _ _ _ _ hsp
 have KX:K.In s.heap:=e0.mod.kin.keeps fun b o e=>(e0.bs b o e).1
 have lim:s.heap.NoLimit:=e0.mod.nolimit.keeps fun b o e=>(e0.bs b o e).1
 have hkind:∀ y∈ps.zip us,scope.names.lookup y.1=some .local∨(scope.names.lookup y.1=some .cell∧((cellsFrom (s.heap.objs.size+1) scope.names []).lookup y.1).isSome=true):=fun ⟨n,v⟩ hy=>by
  rcases S.par n (List.of_mem_zip hy).1 with q | q
  ·exact .inl q
  ·exact .inr ⟨q,PySem.W.cellsFrom_some _ _ _ (.inl q)⟩
 refine codeAny_call_function hr.depth (KX _ _ lk) rfl S.co S.gen rfl (PySem.W.codeRec_of KX hcd) (hb _ _ _ _ ?_)
 refine wpAny_newFunctionEnv_cells S.kind hkind fun env he s1 x=>?_
 subst he
 refine ⟨lim.keeps x.toInCall.keep,codeAny_func ?_⟩
 obtain ⟨t,ht,hq⟩:=hbody A outer s H vs Q E (hr.deeper _) hsp
 have I:Inv (Wu CX P w K mg base N qual scope f cdv A outer s H E) [] (start N vs) H s1:=Z6 S hr.hd e0 hl r x
 refine wpAny_mono (ht [] s1 (start N vs) H _ I hq) (fun fl s' hs=>?_) fun e s' hs=>hs
 have fin:∀ {σ':St} {H':Hp} {v:V} {u:Value},Inv (Wu CX P w K mg base N qual scope f cdv A outer s H E) [] σ' H' s'→RelV v u→Q v H'→CE outer P w H s Q u s' :=
  fun {σ' H' v u} J rv q=>⟨v,H',J.os,J.bare,J.base,J.hok,rv,q⟩
 cases fl with
 | ret u =>
  obtain ⟨v,σ',H',J,rv,q⟩:=hs
  exact fin J rv q
 | next =>
  obtain ⟨σ',H',J,q⟩:=hs
  exact fin (v:=V.non) (u:=Value.none) J rfl q
 | brk =>
  obtain ⟨_,_,_,q⟩:=hs
  exact False.elim q
 | cont =>
  obtain ⟨_,_,_,q⟩:=hs
  exact False.elim q
end L2
namespace L2
open PySem PySem.Spec PyProof.Rows
section
variable {X:Cx} {x:Str} {p pos:Pos} {e:Expr} {es:List Expr} {t:TA} {id T:String} {r:List V→Hp→VK→Prop}
noncomputable def tCB (r:List V→Hp→VK→Prop) (t:TA):TE:=fun σ H Q=>t σ H fun vs H1=>r vs H1 Q
theorem VD (hc:Kw X (.builtin id) r) (hg:Gl X x) (hm:X.mg x=none) (hv:bootBuiltins x=some (.builtin id)) (ha:PA X (e :: es) t) (hn:x≠"__name__":=by decide) (hdb:(x == ("__debug__":Str))=false:=by decide)
  (he:starEach (e :: es) X.env=(false,eval e X.env) :: starEach es X.env:=by rfl) (hpl:(backTo pos (starEach es X.env)).any (·.1)=false:=by rfl):PE X (.Call (.Name x p) (e :: es) [] pos) (tCB r t):=by
 intro pins s σ H Q I h
 refine wpAny_Call_Name_kw (KZ I hg hm hv ?_ hn hdb)
 exact PyProof.Rows.callWith_builtin1 (thn (ha pos pins s σ H _ I h) fun us s1 ⟨vs,H1,I1,r1,q1⟩=>hc pins s1 σ H1 vs us Q I1 r1 q1) he hpl
theorem Zd (hc:Kw X (.type T) r) (hg:Gl X x) (hm:X.mg x=none) (hv:bootBuiltins x=some (.type T)) (ha:PA X (e :: es) t) (hn:x≠"__name__":=by decide) (hdb:(x == ("__debug__":Str))=false:=by decide)
  (he:starEach (e :: es) X.env=(false,eval e X.env) :: starEach es X.env:=by rfl) (hpl:(backTo pos (starEach es X.env)).any (·.1)=false:=by rfl):PE X (.Call (.Name x p) (e :: es) [] pos) (tCB r t):=by
 intro pins s σ H Q I h
 refine wpAny_Call_Name_kw (KZ I hg hm hv ?_ hn hdb)
 exact PyProof.Rows.callWith_type1 (thn (ha pos pins s σ H _ I h) fun us s1 ⟨vs,H1,I1,r1,q1⟩=>hc pins s1 σ H1 vs us Q I1 r1 q1) he hpl
end
end L2
namespace HT
open PySem PyProof.Rows
noncomputable def lexLt:List Int→List Int→Bool
 | [],[]=>false
 | [],_ :: _=>true
 | _ :: _,[]=>false
 | x :: xs,y :: ys=>if x=y then lexLt xs ys else decide (x < y)
theorem Fl (x y:Int) (xs ys:List Int):lexLt (x :: xs) (y :: ys)=if x=y then lexLt xs ys else decide (x < y):=rfl
theorem Gy:lexLt [] []=false:=rfl
theorem O2 (y:Int) (ys:List Int):lexLt [] (y :: ys)=true:=rfl
theorem QM (x:Int) (xs:List Int):lexLt (x :: xs) []=false:=rfl
theorem AbC (A:Around) (s:Shared) (a:Int) (t:Tok) (c:Int) (u:Tok):∃ e,SeqAt.EqAt A s (.int a t) (.int c u) e∧(e=true↔a=c) :=
 ⟨(a == c),SeqAt.EqAt.int_int a t c u,by simp⟩
theorem Acf (A:Around) (s:Shared) (a:Int) (t:Tok) (c:Int) (u:Tok) (prog:Program) (w:World) (E:Value→Shared→Prop) (Q:Value→Shared→Prop) (h:Q (.bool (decide (a < c))) s) :
  wpAny (model prog w) A (richCompare .Lt (.int a t) (.int c u)) Q E s :=
 (PyProof.Rows.lt_int h:wpAny (model prog w) A (compareOp .Lt (.int a t) (.int c u)) Q E s)
section
open PySem.SeqAt
open PySem.AutoSeq1 (wpAny_loadPart')
open PySem.MeetsSeq PySem.MeetsSeq2 PySem.MeetsSeq3
theorem Rm (l b:Addr) (items items2:Array Value) (n n2:Nat) (dd dd2:Option Addr) (sl sl2:Array (Option Value)) (ns ms:List Int) (hi:IntsAre items.toList ns) (hj:IntsAre items2.toList ms) :
  Meets (Builtin.«tuple.__lt__» ⟨[.ref l,.ref b],[]⟩)
   (fun _ R s=>s.heap.get? l=some { cls:=.type "tuple",dict:=dd,data:=.seq items n,slots:=sl }∧s.heap.get? b=some { cls:=.type "tuple",dict:=dd2,data:=.seq items2 n2,slots:=sl2 } ∧
    R (.ok (.ret (.bool (lexLt ns ms)))) s) :=
 .of_wp fun prog w A R s h=>by
  obtain ⟨hp,g,d,tk,os⟩:=s;obtain ⟨hl,hb,h⟩:=h
  have f2:=AutoSeq1.sub_tuple_tuple
  have z1:items.size=ns.length:=by rw [←hi.length];simp
  have z2:items2.size=ms.length:=by rw [←hj.length];simp
  wp_walk using wpAny_loadPart' hl,wpAny_loadPart' hb,wpAny_forIn_list _ (fun rest b s'=>b.1=none∧s'=⟨hp,g,d,tk,os⟩∧∃ (vs ws:List Value) (ns' ms':List Int),rest=vs.zip ws ∧
   IntsAre vs ns'∧IntsAre ws ms'∧ns'.length+items2.size=ms'.length+items.size∧R (.ok (.ret (.bool (lexLt ns' ms')))) ⟨hp,g,d,tk,os⟩) _
  case turn =>
   rintro ⟨y,x⟩ rest b s' ⟨hb',rfl,vs,ws,ns',ms',hz,hvi,hwi,hlen,hR⟩
   cases hvi with
   | nil=>rw [List.zip_nil_left] at hz;cases hz
   | cons a t hvi' =>
    cases hwi with
    | nil=>rw [List.zip_nil_right] at hz;cases hz
    | cons c u hwi' =>
     rw [List.zip_cons_cons] at hz
     injection hz with hyx hrest
     injection hyx with hy hx
     subst hy hx
     rw [Fl] at hR
     simp only [List.length_cons] at hlen
     obtain ⟨e,he,hiff⟩:=AbC A.in1 ⟨hp,g,d,tk,os⟩ a t c u
     refine wpAny_bind (he prog w _ _ ?_)
     cases e with
     | true =>
      rw [if_pos (hiff.mp rfl)] at hR
      wp_walk
      exact ⟨rfl,rfl,_,_,_,_,hrest,hvi',hwi',by omega,hR⟩
     | false =>
      rw [if_neg (fun q=>absurd (hiff.mpr q) Bool.false_ne_true)] at hR
      have hri:=Acf A.in1 ⟨hp,g,d,tk,os⟩ a t c u prog w
      wp_walk using hri
      exact ⟨_,rfl,by simpa using hR⟩
  case fin =>
   rintro ⟨b1,b2⟩ s' ⟨hb',rfl,vs,ws,ns',ms',hz,hvi,hwi,hlen,hR⟩
   simp only at hb'
   subst hb'
   have hv:lexLt ns' ms'=decide (items.size < items2.size):=by
    cases hvi with
    | nil =>
     cases hwi with
     | nil =>
      simp only [List.length_nil] at hlen
      rw [Gy]
      exact (decide_eq_false (by omega)).symm
     | cons c u hw =>
      simp only [List.length_nil,List.length_cons] at hlen
      rw [O2]
      exact (decide_eq_true (by omega)).symm
    | cons a t hv =>
     cases hwi with
     | nil =>
      simp only [List.length_nil,List.length_cons] at hlen
      rw [QM]
      exact (decide_eq_false (by omega)).symm
     | cons c u hw =>
      rw [List.zip_cons_cons] at hz
      cases hz
   rw [hv] at hR
   wp_walk
   exact ⟨_,rfl,by simpa [Builtin.Tuple.tupleCompareSizes] using hR⟩
  case h =>
   exact ⟨rfl,rfl,items.toList,items2.toList,ns,ms,rfl,hi,hj,by omega,h⟩
end
section
variable {prog:Program} {w:World} {A:Around} {E:Value→Shared→Prop} {s:Shared}
theorem KN {l b:Addr} {items items2:Array Value} {ns ms:List Int} {Q:Value→Shared→Prop} (hl:IsTup s.heap l items) (hb:IsTup s.heap b items2) (hi:IntsAre items.toList ns) (hj:IntsAre items2.toList ms)
  (hu:A.units < cLine) (h:Q (.bool (lexLt ns ms)) s):wpAny (model prog w) A (compareOp .Lt (.ref l) (.ref b)) Q E s:=by
 obtain ⟨⟨cls,dd,data,sl⟩,ho,hc,n,hd⟩:=id hl
 obtain ⟨⟨cls2,dd2,data2,sl2⟩,ho2,hc2,n2,hd2⟩:=id hb
 simp only at hc hd hc2 hd2
 subst hc hd hc2 hd2
 exact richCompare_meets_room (op:=.Lt) ⟨_,ho,rfl⟩ ⟨_,ho2,rfl⟩ PySem.F.slot_tuple_lt PySem.F.entry_tuple_lt (PySem.F.args_tuple_lt_2 _ _) (Rm l b items items2 n n2 dd dd2 sl sl2 ns ms hi hj)
  ⟨ho,ho2,show Value.bool (lexLt ns ms)≠Value.notImplemented∧Q (.bool (lexLt ns ms)) s from ⟨(fun x=>nomatch x),h⟩⟩ hu
noncomputable def sIx (n d:Nat):Option Int→Nat
 | none=>d
 | some v=>if v < 0 then (v+(n:Int)).toNat else min v.toNat n
theorem V9 (n d:Nat):sIx n d none=d:=rfl
theorem Yr (n d k:Nat):sIx n d (some (k:Int))=min k n:=by
 show (if (k:Int) < 0 then ((k:Int)+(n:Int)).toNat else min (k:Int).toNat n)=min k n
 rw [if_neg (by omega),Int.toNat_natCast]
end
end HT
namespace L2
open PySem PySem.Spec PyProof.Rows
noncomputable abbrev TO:=St→Hp→(Option Int→Hp→Prop)→Prop
noncomputable def PO (X:Cx) (e:Option Expr) (t:TO):Prop :=
 ∀ (pins:List (Addr × Obj)) (s:Shared) (σ:St) (H:Hp) (Q:Option Int→Hp→Prop),Inv X pins σ H s→t σ H Q →
  wpAny (model X.prog X.w) X.A (evalPart e X.env) (fun u s'=>∃ o H',Inv X pins σ H' s'∧IsPart u o∧Q o H') X.xe s
noncomputable def Ada:TO:=fun _ H Q=>Q none H
noncomputable def Aj0 (t:TE):TO:=fun σ H Q=>t σ H fun x H1=>∃ i,x=.int i∧Q (some i) H1
theorem intsAre_of {ns:List Int}:∀ {us:List Value},Vals (ns.map V.int) us→IntsAre us ns:=by
 induction ns with
 | nil=>intro us r;rw [List.map_nil] at r;cases r;exact .nil
 | cons n ns ih =>
  intro us r
  rw [List.map_cons] at r
  cases r with
  | cons r1 r2 =>
   obtain ⟨t,e⟩:=r1
   subst e
   exact .cons n t (ih r2)
section
variable {X:Cx} {e:Expr} {te:TE} {lo hi:Option Expr} {tl th:TO} {pos p2:Pos}
theorem Aem:PO X none Ada:=by
 intro pins s σ H Q I h
 rw [evalPart_none]
 exact wpAny_pure ⟨none,H,I,.none,h⟩
theorem AdF (h:PE X e te):PO X (some e) (Aj0 te):=by
 intro pins s σ H Q I hw
 rw [evalPart_some]
 refine thn (h pins s σ H _ I hw) fun u s1 ⟨x,H1,I1,r1,q1⟩=>?_
 obtain ⟨i,rfl,q⟩:=q1
 obtain ⟨t,rfl⟩:=r1
 exact ⟨some i,H1,I1,.int i t,q⟩
noncomputable def SlR (X:Cx) (r:V→Option Int→Option Int→Hp→VK→Prop):Prop :=
 ∀ (pins:List (Addr × Obj)) (s:Shared) (σ:St) (H:Hp) (x:V) (v vl vu:Value) (lo hi:Option Int) (sl:Addr) (Q:VK),Inv X pins σ H s→RelV x v→s.heap.IsSliceOf sl vl vu .none→IsPart vl lo→IsPart vu hi→r x lo hi H Q →
  ∃ T id,typeLookup (.type T) "__getitem__"=pure (some (.builtin id))∧s.TypeIs v T∧wpAny (model X.prog X.w) X.A (getItem v (.ref sl)) (EP X pins σ Q) X.xe s
noncomputable def tSl (r:V→Option Int→Option Int→Hp→VK→Prop) (te:TE) (tl th:TO):TE:=fun σ H Q=>te σ H fun x H1=>tl σ H1 fun l H2=>th σ H2 fun u H3=>r x l u H3 Q
theorem Vd {r:V→Option Int→Option Int→Hp→VK→Prop} (hr:SlR X r) (he:PE X e te) (hl:PO X lo tl) (hu:PO X hi th):PE X (.Subscript e (.Slice lo hi none p2) pos) (tSl r te tl th):=by
 intro pins s σ H Q I h
 refine Subscript_ (thn (he pins s σ H _ I h) fun v s1 ⟨x,H1,I1,r1,q1⟩=>?_)
 refine wpAny_Slice (thn (hl pins s1 σ H1 _ I1 q1) fun vl s2 ⟨l,H2,I2,pl,q2⟩=>thn (hu pins s2 σ H2 _ I2 q2) fun vu s3 ⟨u,H3,I3,pu,q3⟩=>?_)
 rw [evalPart_none]
 refine wpAny_pure ?_
 have I4:Inv X pins σ H3 { s3 with heap:=s3.heap.push { cls:=.type "slice",data:=.fields #[vl,vu,.none] } }:=I3.kept (t':=s3.toks) fun b ob q=>Heap.get?_push_of_some _ q
 obtain ⟨T,id,hT,ht,hg⟩:=hr pins { s3 with heap:=s3.heap.push { cls:=.type "slice",data:=.fields #[vl,vu,.none] } } σ H3 x v vl vu l u s3.heap.objs.size Q I4 r1 (Heap.IsSliceOf.new ..) pl pu q3
 show wpAny (model X.prog X.w) X.A (subscriptTail e (.Slice lo hi none p2) v (.ref s3.heap.objs.size)) (EP X pins σ Q) X.xe { s3 with heap:=s3.heap.push { cls:=.type "slice",data:=.fields #[vl,vu,.none] } }
 exact tail_any (ops:=[.ref s3.heap.objs.size,v]) ht hT hg (by with_unfolding_all rfl)
noncomputable def Z7 (xs:List V) (lo hi:Option Int):List V:=(xs.drop (HT.sIx xs.length 0 lo)).take (HT.sIx xs.length xs.length hi - HT.sIx xs.length 0 lo)
theorem U4 (xs:List V) (lo hi:Option Int):(Z7 xs lo hi).length≤xs.length:=by
 unfold Z7
 rw [List.length_take,List.length_drop]
 omega
end
end L2
namespace L2
open PySem PySem.Spec PyProof.Rows
noncomputable def ixN (n:Nat) (i:Int):Option Nat:=if 0≤i then (if i < n then some i.toNat else none) else if -(n:Int)≤i then some (i+n).toNat else none
noncomputable def atI {α:Type} (xs:List α) (i:Int):Option α:=(ixN xs.length i).bind fun j=>xs[j]?
theorem Adq {n:Nat} {i:Int} {j:Nat} (h:ixN n i=some j):seqIndex? i n=some j∧j < n∧-(n:Int)≤i∧i < n:=by
 unfold ixN at h
 by_cases h0:0≤i
 ·rw [if_pos h0] at h
  by_cases h1:i < n
  ·rw [if_pos h1] at h
   have e:i.toNat=j:=Option.some.inj h
   exact ⟨by rw [seqIndex_of h0 h1,e],by omega,by omega,h1⟩
  ·rw [if_neg h1] at h;cases h
 ·rw [if_neg h0] at h
  by_cases h1:-(n:Int)≤i
  ·rw [if_pos h1] at h
   have e:(i+n).toNat=j:=Option.some.inj h
   exact ⟨by rw [seqIndex_neg (by omega) h1,e],by omega,h1,by omega⟩
  ·rw [if_neg h1] at h;cases h
theorem Ui {α:Type} {xs:List α} {i:Int} {v:α} (h:atI xs i=some v):∃ j,seqIndex? i xs.length=some j∧xs[j]? = some v∧j < xs.length∧-(xs.length:Int)≤i∧i < xs.length:=by
 unfold atI at h
 cases e:ixN xs.length i with
 | none=>rw [e] at h;cases h
 | some j =>
  rw [e] at h
  obtain ⟨h1,h2,h3,h4⟩:=Adq e
  exact ⟨j,h1,h,h2,h3,h4⟩
theorem Aed {α:Type} {xs:List α} {j:Nat} {v:α} (h:xs[j]? = some v):atI xs (j:Int)=some v:=by
 have hj:j < xs.length:=(List.getElem?_eq_some_iff.mp h).1
 have e:ixN xs.length (j:Int)=some j:=by
  unfold ixN
  rw [if_pos (by omega),if_pos (by omega)];simp
 unfold atI;rw [e];exact h
noncomputable def Ou (b:Expr):Prop:=∀ o i,subscripted b false o i=operate [o,i] (getItem o i)
noncomputable def IxR (X:Cx) (r:R2):Prop :=
 ∀ (value slice:Expr) (pins:List (Addr × Obj)) (s:Shared) (σ:St) (H:Hp) (x y:V) (v u:Value) (Q:VK),Inv X pins σ H s→RelV x v→RelV y u→r x y H Q →
  subscripted slice false v u=operate [v,u] (getItem v u)→wpAny (model X.prog X.w) X.A (subscriptTail value slice v u) (EP X pins σ Q) X.xe s
noncomputable def MtR (X:Cx) (id:String) (r:V→List V→Hp→VK→Prop):Prop :=
 ∀ (pins:List (Addr × Obj)) (s:Shared) (σ:St) (H:Hp) (x:V) (xs:List V) (v:Value) (us:List Value) (Q:VK),Inv X pins σ H s→RelV x v→Vals xs us→r x xs H Q →
  wpAny (model X.prog X.w) X.A (call (.builtin id) (v :: us)) (EP X pins σ Q) X.xe s
section
variable {X:Cx} {a b:Expr} {ta tb:TE} {pos:Pos}
theorem IxR.or {r r':R2} (h:IxR X r) (h':IxR X r'):IxR X (fun x y H Q=>r x y H Q∨r' x y H Q):=by
 intro value slice pins s σ H x y v u Q I rx ry q hs
 rcases q with q | q
 ·exact h value slice pins s σ H x y v u Q I rx ry q hs
 ·exact h' value slice pins s σ H x y v u Q I rx ry q hs
theorem Afj {r:R2} (hr:IxR X r) (ha:PE X a ta) (hb:PE X b tb) (hs:Ou b):PE X (.Subscript a b pos) (tOp r ta tb):=by
 intro pins s σ H Q I h
 exact Subscript_ (AfV ha hb I h fun v u s2 x y H2 I2 rx ry q=>hr a b pins s2 σ H2 x y v u Q I2 rx ry q (hs _ _))
noncomputable def Ajz (K:PySem.W.Frag):R2:=fun x y H Q=>∃ p xs i v,x=.ref p∧y=.int i∧SqL K H p xs∧atI xs i=some v∧Q v H
noncomputable def Aki (K:PySem.W.Frag):R2:=fun x y H Q=>∃ p xs i v,x=.ref p∧y=.int i∧SqT K H p xs∧atI xs i=some v∧Q v H
noncomputable def Ai1:R2:=fun x y H Q=>∃ z i c,x=.str z∧y=.int i∧z.length≤sizeLine∧atI z.cps.toList i=some c∧Q (.str ⟨#[c]⟩) H
theorem YD:IxR X (Ajz X.K):=by
 intro value slice pins s σ H x y v u Q I rx ry h hs
 obtain ⟨p,xs,i,z,rfl,rfl,hq,he,q⟩:=h
 cases rx
 obtain ⟨t,rfl⟩:=ry
 obtain ⟨its,r,pl,hz⟩:=I.list hq
 obtain ⟨j,h1,h2,h3,h4,h5⟩:=Ui he
 obtain ⟨w,ew,rw'⟩:=r.get h2
 have hl:=r.length
 have hn:=Uh
 have fin:EP X pins σ Q w s:=⟨z,H,I,rw',q⟩
 by_cases h0:0≤i
 ·have hj:i.toNat=j:=by
   rw [seqIndex_of h0 h5] at h1
   exact Option.some.inj h1
  exact item_listR pl.isList h0 (by omega) (by rw [hj];simpa using ew) fin hs
 ·have hj:(i+(its.toArray.size:Int)).toNat=j:=by
   rw [seqIndex_neg (by omega) h4] at h1
   rw [List.size_toArray,←hl]
   exact Option.some.inj h1
  exact subscriptTail_builtinR (x:=w) pl.isList.typeIs slot_list_getitem.lookup
   (wpAny_getItem_list_neg (Q:=fun r s'=>r=w∧EP X pins σ Q r s') pl.isList (by omega) (by rw [List.size_toArray] <;> omega) (by omega) (by rw [hj];simpa using ew) ⟨rfl,fin⟩) hs
theorem AfB:IxR X (Aki X.K):=by
 intro value slice pins s σ H x y v u Q I rx ry h hs
 obtain ⟨p,xs,i,z,rfl,rfl,hq,he,q⟩:=h
 cases rx
 obtain ⟨t,rfl⟩:=ry
 obtain ⟨its,r,pl,hz⟩:=I.tuple hq
 obtain ⟨j,h1,h2,h3,h4,h5⟩:=Ui he
 obtain ⟨w,ew,rw'⟩:=r.get h2
 have hl:=r.length
 have hn:=Uh
 have fin:EP X pins σ Q w s:=⟨z,H,I,rw',q⟩
 exact subscriptTail_builtinR (x:=w) pl.typeIs slot_tuple_getitem.lookup
  (getItem_tuple (j:=j) (Q:=fun r s'=>r=w∧EP X pins σ Q r s') pl (by omega) (by omega) (by rw [List.size_toArray,←hl];exact h1) (by simpa using ew) ⟨rfl,fin⟩) hs
theorem Agt:IxR X Ai1:=by
 intro value slice pins s σ H x y v u Q I rx ry h hs
 obtain ⟨z,i,c,rfl,rfl,hz,he,q⟩:=h
 obtain ⟨t,rfl⟩:=rx
 obtain ⟨t',rfl⟩:=ry
 obtain ⟨j,h1,h2,h3,h4,h5⟩:=Ui he
 have hl:z.cps.toList.length=z.length:=by simp [Str.length]
 rw [hl] at h1 h4 h5
 have hn:=Uh
 exact tail_any (typeIs_str s z t) slot_str_getitem.lookup (getItem_str (c:=c) (by
  have e1:decide (i < -(2 ^ 63:Int))=false:=decide_eq_false (by omega)
  have e2:decide (i≥2 ^ 63)=false:=decide_eq_false (by omega)
  rw [e1,e2,Bool.or_false]) (by rw [h1];simpa using h2) ⟨.str ⟨#[c]⟩,H,I.tok _,⟨_,rfl⟩,q⟩) hs
noncomputable def rIx (K:PySem.W.Frag):R2:=fun x y H Q=>Ajz K x y H Q∨Aki K x y H Q∨Ai1 x y H Q
theorem AfK:IxR X (rIx X.K):=YD.or (AfB.or Agt)
theorem Tf (lo hi:Option Int) (n:Nat):(sliceBounds lo hi none n).1=((HT.sIx n 0 lo:Nat):Int)∧(sliceBounds lo hi none n).2.1=((HT.sIx n n hi:Nat):Int)∧(sliceBounds lo hi none n).2.2=1:=by
 refine ⟨?_,?_,rfl⟩
 ·cases lo with
  | none=>simp [sliceBounds,HT.sIx]
  | some i =>
   simp only [sliceBounds,HT.sIx,Option.getD_none,show (1:Int) > 0 by decide,if_true]
   by_cases h:i < 0
   ·simp only [h,if_true] <;> omega
   ·simp only [h,if_false] <;> omega
 ·cases hi with
  | none=>simp [sliceBounds,HT.sIx]
  | some i =>
   simp only [sliceBounds,HT.sIx,Option.getD_none,show (1:Int) > 0 by decide,if_true]
   by_cases h:i < 0
   ·simp only [h,if_true] <;> omega
   ·simp only [h,if_false] <;> omega
theorem Ro (its:List Value) (lo hi:Option Int):slicePick its.toArray lo hi none=((its.drop (HT.sIx its.length 0 lo)).take (HT.sIx its.length its.length hi - HT.sIx its.length 0 lo)).toArray:=by
 obtain ⟨h1,h2,h3⟩:=Tf lo hi its.toArray.size
 unfold slicePick
 rw [h1,h2,h3]
 simp only [sliceRange_one,pick_run,List.size_toArray] <;> rfl
noncomputable def Am8 (K:PySem.W.Frag):V→Option Int→Option Int→Hp→VK→Prop:=fun x lo hi H Q=>∃ a xs,x=.ref a∧SqL K H a xs∧∀ p,H p=none→Q (.ref p) (upd H p (.lst (Z7 xs lo hi)))
theorem Y7:SlR X (Am8 X.K):=by
 intro pins s σ H x v vl vu lo hi sl Q I rx hs pl pu h
 obtain ⟨a,xs,rfl,hx,q⟩:=h
 cases rx
 obtain ⟨its,r,ht,hz⟩:=I.list hx
 have hlen:=r.length
 refine ⟨"list",_,slot_list_getitem.lookup,ht.isList.typeIs,?_⟩
 refine wpAny_getItem_list_slice ht.isList hs pl pu .none (by simp) ?_ (by rw [List.size_toArray] <;> omega)
 rw [Ro,←hlen]
 refine ⟨.ref s.heap.objs.size,_,I.laid (t':=s.toks) (o:=.lst (Z7 xs lo hi)) (fun b ob q=>Heap.get?_push_of_some _ q) (Nat.le_refl _) ?_,rfl,q _ (I.hok.fresh (Nat.le_refl _))⟩
 exact ⟨Nat.le_trans (U4 xs lo hi) hz,_,0,(r.drop (HT.sIx xs.length 0 lo)).take (HT.sIx xs.length xs.length hi - HT.sIx xs.length 0 lo),Heap.get?_push_size _ rfl⟩
theorem T7:Kw X (.builtin "len") (fun xs H Q=>∃ p ys,xs=[.ref p]∧(SqL X.K H p ys∨SqT X.K H p ys)∧Q (.int ys.length) H):=by
 intro pins s σ H xs us Q I r h
 obtain ⟨p,ys,rfl,hq,q⟩:=h
 obtain ⟨u,rfl,rx⟩:=vals1 r
 cases rx
 have hn:=Uh
 rcases hq with hq | hq
 ·obtain ⟨its,r',pl,hz⟩:=I.list hq
  have hlen:=r'.length
  exact Calls.call_len_list pl.isList (by simp only [List.size_toArray] <;> omega) ⟨.int ys.length,H,I.tok _,⟨s.toks+1,by rw [List.size_toArray,hlen]⟩,q⟩
 ·obtain ⟨its,r',pl,hz⟩:=I.tuple hq
  have hlen:=r'.length
  exact len_tuple pl (by simp only [List.size_toArray] <;> omega) ⟨.int ys.length,H,I.tok _,⟨s.toks+1,by rw [List.size_toArray,hlen]⟩,q⟩
theorem Q7:Kw X (.type "tuple") (fun xs H Q=>∃ p ys,xs=[.ref p]∧((SqL X.K H p ys∧∀ l,H l=none→Q (.ref l) (upd H l (.tup ys)))∨(SqT X.K H p ys∧Q (.ref p) H))):=by
 intro pins s σ H xs us Q I r h
 obtain ⟨p,ys,rfl,h⟩:=h
 obtain ⟨u,rfl,rx⟩:=vals1 r
 cases rx
 rcases h with ⟨hq,q⟩ | ⟨hq,q⟩
 ·obtain ⟨its,r',pl,hz⟩:=I.list hq
  have hlen:=r'.length
  refine call_tuple_list pl.isList (fun h' kp=>?_) (by simp only [List.size_toArray] <;> omega)
  have I1:Inv X pins σ H { s with heap:=h' }:=I.kept (t':=s.toks) kp
  have I2:Inv X pins σ (upd H h'.objs.size (.tup ys)) { s with heap:=h'.push { cls:=.type "tuple",data:=.seq its.toArray } } :=
   I1.laid (t':=s.toks) (fun b o e=>Heap.get?_push_of_some _ e) (Nat.le_refl _) (show HB X.prog X.w _ _ _ (.tup ys) from ⟨hz,its,r',IsTup.new _ _⟩)
  exact ⟨.ref h'.objs.size,_,I2,rfl,q _ (I1.hok.fresh (Nat.le_refl _))⟩
 ·obtain ⟨its,r',pl,hz⟩:=I.tuple hq
  exact call_tuple_same pl ⟨.ref p,H,I,rfl,q⟩
noncomputable def tyV (K:PySem.W.Frag) (T:String) (x:V) (H:Hp):Prop:=match x with
 | .str _=>T="str"
 | .int _=>T="int"
 | .ref p=>(T="list"∧∃ xs,SqL K H p xs)∨(T="tuple"∧∃ o,K.lookup p=some o∧o.cls=.type "tuple"∧o.dict=none) ∨
   (T="dict"∧((∃ kvs,H p=some (.dK kvs))∨∃ kvs,H p=some (.dT kvs)))∨(T="set"∧∃ S n,H p=some (.set S n))
 | _=>False
theorem AaE {pins:List (Addr × Obj)} {σ:St} {H:Hp} {s:Shared} {T:String} {x:V} {v:Value} (I:Inv X pins σ H s) (r:RelV x v) (ty:tyV X.K T x H) :
  s.TypeIs v T∧∀ a,v=.ref a→∃ ob,s.heap.get? a=some ob∧ob.dict=none:=by
 cases x with
 | str z =>
  obtain ⟨t,rfl⟩:=r
  cases (show T="str" from ty)
  exact ⟨typeIs_str s z t,fun _ e=>nomatch e⟩
 | int i =>
  obtain ⟨t,rfl⟩:=r
  cases (show T="int" from ty)
  exact ⟨typeIs_int s i t,fun _ e=>nomatch e⟩
 | ref p =>
  cases r
  rcases ty with ⟨rfl,xs,hq⟩ | ⟨rfl,o,hk,hc,hd⟩ | ⟨rfl,hk⟩ | ⟨rfl,S,n,hk⟩
  ·obtain ⟨its,_,pl,_⟩:=I.list hq
   refine ⟨pl.isList.typeIs,fun a e=>?_⟩
   cases e
   obtain ⟨o,n,e,c,hd,_⟩:=pl
   exact ⟨o,e,hd⟩
  ·refine ⟨⟨o,I.kIn p o hk,hc⟩,fun a e=>?_⟩
   cases e
   exact ⟨o,I.kIn _ o hk,hd⟩
  ·have z:∃ o,s.heap.get? p=some o∧o.ExactDict:=by
    rcases hk with ⟨kvs,hk⟩ | ⟨kvs,hk⟩
    ·obtain ⟨_,_,_,_,o,_,_,e,ex,_⟩:=I.hok p _ hk
     exact ⟨o,e,ex⟩
    ·obtain ⟨_,_,_,_,o,_,_,e,ex,_⟩:=I.hok p _ hk
     exact ⟨o,e,ex⟩
   obtain ⟨o,e,ex⟩:=z
   refine ⟨⟨o,e,ex.1⟩,fun a e2=>?_⟩
   cases e2
   exact ⟨o,e,ex.2.1⟩
  ·obtain ⟨o,_,_,_,e,ex,_⟩:=I.hok p _ hk
   refine ⟨⟨o,e,ex.1⟩,fun a e2=>?_⟩
   cases e2
   exact ⟨o,e,ex.2.1⟩
 | _=>exact False.elim ty
noncomputable def AlC (K:PySem.W.Frag) (T:String) (r:V→List V→Hp→VK→Prop) (to:TE):TE:=fun σ H Q=>to σ H fun x H1=>tyV K T x H1∧r x [] H1 Q
noncomputable def tBM (K:PySem.W.Frag) (T:String) (r:V→List V→Hp→VK→Prop) (to:TE) (t:TA):TE:=fun σ H Q=>to σ H fun x H1=>tyV K T x H1∧t σ H1 fun xs H2=>r x xs H2 Q
variable {o e:Expr} {es:List Expr} {to:TE} {t:TA} {name:Str} {apos cpos:Pos} {T id:String} {r:V→List V→Hp→VK→Prop}
theorem AgZ (pa:PlainAttrs T) (slot:Slot T name id) (hty:typeOf (.builtin id)=pure (.type "method_descriptor")) (hm:MtR X id r) (ho:PE X o to)
  (hbase:attributeBase o name X.env (eval o X.env)=eval o X.env:=by rfl) (hline:(apos.endLine == cpos.line)=true:=by rfl):PE X (.Call (.Attribute o name apos) [] [] cpos) (AlC X.K T r to):=by
 intro pins s σ H Q I h
 refine wpAny_Call_method0_late hbase hline (thn (ho pins s σ H _ I h) fun v s1 ⟨x,H1,I1,r1,ty,q1⟩=>?_)
 obtain ⟨h1,h2⟩:=AaE I1 r1 ty
 exact ⟨T,id,pa,slot,hty,h1,h2,Calls.callWith_builtin rfl (PySem.evalArgs_none (hm pins s1 σ H1 x [] v [] Q I1 r1 .nil q1))⟩
theorem Ae6 (pa:PlainAttrs T) (slot:Slot T name id) (hty:typeOf (.builtin id)=pure (.type "method_descriptor")) (hm:MtR X id r) (ho:PE X o to) (ha:PA X (e :: es) t)
  (hbase:attributeBase o name X.env (eval o X.env)=eval o X.env:=by rfl)
  (hfew:((backTo cpos (starEach (e :: es) X.env)).all (fun x=>!x.1) && (backToKw cpos (keywordEach [] X.env)).all (fun x=>x.1.isSome)
   && decide ((e :: es).length+([]:List Keyword).length+(if ([]:List Keyword).isEmpty then 0 else 1) < 30))=true:=by rfl)
  (hline:(apos.endLine == cpos.line)=true:=by rfl) (hs:starEach (e :: es) X.env=(false,eval e X.env) :: starEach es X.env:=by rfl) (hplain:(backTo cpos (starEach es X.env)).any (·.1)=false:=by rfl) :
  PE X (.Call (.Attribute o name apos) (e :: es) [] cpos) (tBM X.K T r to t):=by
 intro pins s σ H Q I h
 refine wpAny_Call_method_late hbase hfew hline rfl (thn (ho pins s σ H _ I h) fun v s1 ⟨x,H1,I1,r1,ty,q1⟩=>?_)
 obtain ⟨h1,h2⟩:=AaE I1 r1 ty
 refine ⟨T,id,pa,slot,hty,h1,h2,?_⟩
 have hA:=ha cpos pins s1 σ H1 _ I1 q1
 rw [hs] at hA ⊢
 refine Calls.callWith_builtin (by show (false || (backTo cpos (starEach es X.env)).any (·.1))=false;rw [hplain] <;> rfl) (Calls.evalArgs_plain ?_)
 exact thn hA fun us s2 ⟨vs,H2,I2,r2,q2⟩=>hm pins s2 σ H2 x vs v us Q I2 r1 r2 q2
end
end L2
namespace L2
open PySem PySem.Spec PyProof.Rows
noncomputable def MtM (X:Cx) (id:String) (r:V→List V→Hp→VK→Prop):Prop :=
 ∀ (pins:List (Addr × Obj)) (s:Shared) (σ:St) (H:Hp) (x:V) (xs:List V) (v:Value) (us:List Value) (Q:VK),Inv X pins σ H s→RelV x v→Vals xs us→r x xs H Q →
  wpAny (model X.prog X.w) X.A (call (.builtin id) (v :: us)) (EP X pins σ Q) X.xe s
theorem Vals.one:∀ {x:V} {us:List Value},Vals [x] us→∃ u,us=[u]∧RelV x u
 | _,_,.cons r .nil=>⟨_,rfl,r⟩
section
variable {X:Cx} {pins:List (Addr × Obj)} {σ:St} {H:Hp} {s:Shared} {l b:Addr} {xs ys zs:List V}
theorem Inv.lset {its its':List Value} {n:Nat} {f:Array Value→Array Value} {t':Nat} (I:Inv X pins σ H s) (hH:H l=some (.lst xs))
  (e:s.heap.get? l=some { cls:=.type "list",data:=.seq its.toArray n }) (hf:f its.toArray=its'.toArray) (hv:Vals ys its') (hz:ys.length≤sizeLine) :
  Inv X pins σ (upd H l (.lst ys)) { s with heap:=s.heap.update l (Obj.mapSeq f),toks:=t' }:=by
 have q:=PySem.IsL.update e f
 rw [hf] at q
 refine I.write (x:=l) (e:=l) (by rw [hH];exact trivial) (.inl rfl) (fun b' u hb hu=>(Heap.get?_update_other s.heap (Obj.mapSeq f) (Ne.symm hb)).trans hu) ⟨_,q⟩ ?_
 exact ⟨hz,its',_,hv,q⟩
theorem Inv.lnew {its:List Value} {t':Nat} (I:Inv X pins σ H s) (hv:Vals ys its) (hz:ys.length≤sizeLine) :
  Inv X pins σ (upd H s.heap.objs.size (.lst ys)) { s with heap:=s.heap.push { cls:=.type "list",data:=.seq its.toArray },toks:=t' } :=
 I.laid (fun _ _ q=>Heap.get?_push_of_some _ q) (Nat.le_refl _) ⟨hz,its,0,hv,Heap.get?_push_size _ rfl⟩
theorem Inv.fresh (I:Inv X pins σ H s):H s.heap.objs.size=none:=I.hok.fresh (Nat.le_refl _)
theorem Inv.lstM (I:Inv X pins σ H s) (hH:H l=some (.lst xs)):xs.length≤sizeLine∧∃ (its:List Value) (n:Nat),Vals xs its∧xs.length=its.length∧s.heap.get? l=some { cls:=.type "list",data:=.seq its.toArray n }:=by
 obtain ⟨z,its,n,r,e⟩:=I.hok l _ hH
 exact ⟨z,its,n,r,r.length,e⟩
theorem AaV {n:Nat} (h:n≤sizeLine):Builtin.List.listTooLong n=false:=by
 unfold Builtin.List.listTooLong
 exact decide_eq_false (by omega)
end
section
variable {X:Cx}
noncomputable def AdD:V→List V→Hp→VK→Prop:=fun x vs H Q=>∃ l xs y,x=.ref l∧vs=[y]∧H l=some (.lst xs)∧xs.length < sizeLine∧Q .non (upd H l (.lst (xs ++ [y])))
theorem Ni:MtM X "list.append" AdD:=by
 intro pins s σ H x vs v us Q I rx rv h
 obtain ⟨l,xs,y,rfl,rfl,hH,hz,q⟩:=h
 cases rx
 obtain ⟨u,rfl,ru⟩:=rv.one
 obtain ⟨z,its,n,r,hl,e⟩:=I.lstM hH
 refine call_meets F.slot_list_append ⟨_,e,rfl⟩ F.entry_list_append (F.args_list_append_2 _ _) (PySem.list_append l its.toArray n u (by rw [List.size_toArray];omega)) ⟨e,?_⟩
 refine ⟨.non,_,I.lset (its':=its ++ [u]) hH e (by simp) (r.append (.cons ru .nil)) ?_,rfl,q⟩
 rw [List.length_append,List.length_singleton]
 omega
noncomputable def AcB:V→List V→Hp→VK→Prop:=fun x vs H Q=>∃ l b xs zs,x=.ref l∧vs=[.ref b]∧H l=some (.lst xs)∧H b=some (.lst zs)∧xs.length+zs.length≤sizeLine∧Q .non (upd H l (.lst (xs ++ zs)))
theorem Ahs:MtM X "list.extend" AcB:=by
 intro pins s σ H x vs v us Q I rx rv h
 obtain ⟨l,b,xs,zs,rfl,rfl,hH,hB,hz,q⟩:=h
 cases rx
 obtain ⟨u,rfl,ru⟩:=rv.one
 cases ru
 obtain ⟨z,its,n,r,hl,e⟩:=I.lstM hH
 obtain ⟨z2,its2,n2,r2,hl2,e2⟩:=I.lstM hB
 have hsz:its.toArray.size+its2.toArray.size≤sizeLine:=by rw [List.size_toArray,List.size_toArray];omega
 have hlong:¬ (!its.toArray.isEmpty && Builtin.List.listTooLong (its.toArray.size+its2.toArray.size))=true:=by
  rw [AaV hsz,Bool.and_false]
  exact Bool.false_ne_true
 refine call_meets F.slot_list_extend ⟨_,e,rfl⟩ F.entry_list_extend (F.args_list_extend_2 _ _)
  (AutoSeq1.list_extend_list_list_0 l its.toArray n b its2.toArray n2 hlong (by rw [List.size_toArray];omega) (by omega)) ⟨e,e2,?_⟩
 refine ⟨.non,_,I.lset (its':=its ++ its2) hH e (by simp) (r.append r2) ?_,rfl,q⟩
 rw [List.length_append]
 omega
noncomputable def AmA:R2:=fun x y H Q=>∃ l b xs zs,x=.ref l∧y=.ref b∧H l=some (.lst xs)∧H b=some (.lst zs)∧xs.length+zs.length≤sizeLine∧∀ p,H p=none→Q (.ref p) (upd H p (.lst (xs ++ zs)))
theorem AfR:OpR X (binaryOp .Add) AmA:=by
 intro pins s σ H x y v u Q I rx ry h
 obtain ⟨l,b,xs,zs,rfl,rfl,hH,hB,hz,q⟩:=h
 cases rx
 cases ry
 obtain ⟨z,its,n,r,hl,e⟩:=I.lstM hH
 obtain ⟨z2,its2,n2,r2,hl2,e2⟩:=I.lstM hB
 refine PySem.P.add_list e e2 ?_ (by rw [List.size_toArray,List.size_toArray];omega)
 have ea:its.toArray ++ its2.toArray=(its ++ its2).toArray:=by simp
 rw [ea]
 exact ⟨.ref _,_,I.lnew (t':=s.toks) (r.append r2) (by rw [List.length_append];omega),rfl,q _ I.fresh⟩
end
section
variable {prog:Program} {w:World} {A:Around} {E:Value→Shared→Prop} {s:Shared}
set_option maxRecDepth 100000 in
end
section
variable {X:Cx}
end
end L2
namespace Att
open PySem PySem.W PySem.Calls PyProof.Rows
theorem Od {P:Params} {h:Heap}:∀ (ns:List Int) (vs:List Value),WellAll P h vs (ns.map WData.int)→IntsAre vs ns:=by
 intro ns
 induction ns with
 | nil =>
  intro vs w
  rw [List.map_nil] at w
  cases w
  exact .nil
 | cons n ns ih =>
  intro vs w
  rw [List.map_cons] at w
  cases w with
  | cons a b =>
   cases a
   exact .cons _ _ (ih _ b)
theorem Zt {l:OpenLaw} {n:Nat} (hn:l.most=some n) {P:Params} {h:Heap} {args:List WData} {vals:List Value}
  (hpre:l.row.toRowW.claim.pre args=true) (hwl:WellAll P h vals args) :
  ∃ a vs ns,vals=[Value.ref a]∧args=[WData.list (ns.map WData.int)]∧h.get? a=some { cls:=.type "list",data:=.seq vs.toArray }∧IntsAre vs ns∧ns.length≤n:=by
 have hsh:WShape.hasAll [] args [.list .int]=true:=(pre_splitW hpre).1
 have hc:l.pre.holds [] { args:=args }=true:=(pre_splitW hpre).2
 obtain ⟨d,r,rfl,h1,h2⟩:=hasAllW_cons hsh
 obtain rfl:=hasAllW_nil h2
 obtain ⟨xs,rfl,h3⟩:=hasW_list h1
 obtain ⟨ns,rfl⟩:=items_int h3
 have hlen:ns.length≤n:=by
  unfold OpenLaw.pre at hc
  have h4:(WTm.not (.lt (.lit (.int (n:Int))) (.len (.arg 0)))).holds [] { args:=[.list (ns.map .int)] }=true:=by
   have h4:=(holds_andW hc).1
   rw [hn] at h4
   exact h4
  have h5:=condW_of h4 (w_not (w_lt w_lit (w_len_list (w_arg rfl))))
  rw [List.length_map] at h5
  refine Nat.le_of_not_lt fun q=>?_
  have q':(n:Int) < ((ns.length:Nat):Int):=by omega
  first
   | (rw [decide_eq_true q'] at h5;exact absurd h5 (by decide))
   | (simp at h5;omega)
 cases hwl with
 | cons w1 w2 =>
  cases w2
  cases w1 with
  | list ho hall=>exact ⟨_,_,ns,rfl,rfl,ho,Od ns _ hall,hlen⟩
theorem Zn (l:OpenLaw) (args:List WData):l.row.toRowW.claim.post args (.bool true) args=true :=
 postW_of (r:=l.row.toRowW) (X:=(true == true))
  (show WShape.has [] (.bool true) .bool=true by first | rfl | decide | simp [WShape.has,WShape.arms,WShape.armsAll])
  (show (WTm.eq .res (.lit (.bool true))).value [] { args:=args,res:=some (.bool true),after:=args }=some (.bool (true == true)) from w_eq_bool (w_res rfl) w_lit) rfl
theorem Wd {l:OpenLaw} {n:Nat} {q:Program} {loose:List Str} {XP:(Str→Option Value)→Heap→Prop} {YP:World→Heap→Prop} {d:DefRec}
  (hn:l.most=some n) (hdf:d.params.defaults=[])
  (call:∀ (w:World) (s₀ s₁:Shared) (mg mb:Str→Option Value) (fa:Addr) (o:Obj) (pm cd doc:Value) (a:Addr) (vs:List Value) (ns:List Int),
   Ground q loose [] XP w s₀ mg mb s₁.heap→YP w s₁.heap →
   s₁.heap.get? fa=some o→o.data=.func (docDef d.name d.params d.body d.scope pm cd doc)→s₁.heap.CodeRec cd d.name→mg d.name=some (.ref fa) →
   s₁.heap.get? a=some { cls:=.type "list",data:=.seq vs.toArray }→IntsAre vs ns→ns.length≤n→s₁.gens = #[] →
   codeAny (model l.prog w) callerA (.call (.ref fa) ⟨[.ref a],[]⟩) (fun r s'=>r=.ok (.ret (.bool true))∧OldK s₁.heap s'.heap∧s'.os=s₁.os∧AllBare s'.gens) s₁) :
  WalkO q loose XP YP l.row.toRowW d [] (fun f vs=>PySem.call f vs):=by
 intro w s₀ s₁ mg mb G Y fa o pm cd doc dV kV ho hd hcd hD hmg hg args vals as hpre hlay hrd hwl hlo
 obtain rfl:dV=.none:=Dflts.none hD hdf
 obtain rfl:kV=.none:=Dflts.noKw hD
 obtain ⟨a,vs,ns,rfl,rfl,hobj,hints,hlen⟩:=Zt hn hpre hwl
 refine enter_call (codeAny_mono (call w s₀ s₁ mg mb fa o pm cd doc a vs ns G Y ho (fd_plain hd) hcd hmg hobj hints hlen hg) fun r s' hq=>?_)
 obtain ⟨rfl,h2,h3,h4⟩:=hq
 exact ⟨.inl ⟨.bool true,.bool true,[],rfl,fun _=>rfl,.bool true,Zn l _,fun _=>⟨List.Pairwise.nil,fun _ hm=>(nomatch hm)⟩⟩,h2,h3,h4⟩
section
variable {prog:Program} {w:World} {A:Around} {E:Value→Shared→Prop} {s:Shared} {K:Frag}
noncomputable def ledger (h:Heap) (L d:Addr):List (Addr × Obj):=(List.range h.objs.size).filterMap fun a=>if a=L∨a=d then none else (h.get? a).map fun o=>(a,o)
end
end Att
namespace L2
open PySem PySem.Spec PyProof.Rows
theorem Rv:∀ {vs:List Value} {ns:List Int},IntsAre vs ns→Vals (ns.map V.int) vs
 | _,_,.nil=>.nil
 | _,_,.cons n t h=>.cons ⟨t,rfl⟩ (Rv h)
noncomputable def Only (H:Hp):Prop:=∀ b,H b=none∨∃ o xs,H b=some (.frz o (.lst xs))
theorem Ab7 {P:Program} {w:World} {K:PySem.W.Frag} {mg mb:Str→Option Value} {CX:CXT} {k:Nat} {fa a:Addr} {fd:FuncData} {x:Str} {sp:Sp} {s₁:Shared} {vs:List Value} {ns:List Int}
  (KX:K.In s₁.heap) (hns:s₁.heap.Ns mainGlobals mg) (hb:s₁.heap.Ns builtinsNs mb) (hbb:∀ x:Str,x≠"__name__"→mb x=bootBuiltins x) (hlim:s₁.heap.NoLimit) (hg:s₁.gens = #[])
  (ha:s₁.heap.get? a=some { cls:=.type "list",data:=.seq vs.toArray }) (hi:IntsAre vs ns) (hl:ns.length≤sizeLine) (hr:Ez k callerA)
  (F:∀ base:Heap,K.In base→base.Ns mainGlobals mg→HN P w K mg base CX k fa fd [x] sp) (hbind:∀ (s:Shared) (u:Value),BindsTo s fd ⟨[u],[]⟩ [(x,u)])
  (hsp:∀ H:Hp,Only H→SqL K H a (ns.map V.int)→sp [.ref a] H (fun v _=>v=.bl true) fun _ _ _=>False)
  (hCX:∀ H e s',CX [] H s₁ (fun _ _ _=>False) e s'→False) :
  codeAny (model P w) callerA (.call (.ref fa) ⟨[.ref a],[]⟩) (fun r s'=>r=.ok (.ret (.bool true))∧OldK s₁.heap s'.heap∧s'.os=s₁.os∧AllBare s'.gens) s₁:=by
 have rv:=Rv hi
 have lenV:=hi.length
 have core:∀ H:Hp,Only H→SqL K H a (ns.map V.int)→HOk P w H s₁.heap→(∀ b,H b≠none→b=a)→(H a≠none→K.lookup a=none) →
   codeAny (model P w) callerA (.call (.ref fa) ⟨[.ref a],[]⟩) (fun r s'=>r=.ok (.ret (.bool true))∧OldK s₁.heap s'.heap∧s'.os=s₁.os∧AllBare s'.gens) s₁:=by
  intro H hO hS hok hA hK
  have base_of:∀ {b:Addr} {o:Obj},s₁.heap.get? b=some o→H b=none→(Uk s₁.heap H).get? b=some o:=fun e n=>Aas e n
  have noA:∀ {b:Addr} {o:Obj} {es:Array DictEntry} {ep:Nat},s₁.heap.get? b=some o→o.data=.dict es ep→H b=none:=fun {b o es ep} e d=>by
   cases q:H b with
   | none=>rfl
   | some u =>
    have e':b=a:=hA b (by rw [q];simp)
    subst e'
    rw [ha] at e;cases e
    have d':Data.seq vs.toArray _=Data.dict es ep:=d
    cases d'
  have nsK:∀ {b:Addr} {m:Str→Option Value},s₁.heap.Ns b m→(Uk s₁.heap H).Ns b m:=fun {b m} ⟨o,es,ep,e,d,r⟩=>⟨o,es,ep,base_of e (noA e d),d,r⟩
  have hKb:K.In (Uk s₁.heap H):=fun b o e=>base_of (KX b o e) (by
   cases q:H b with
   | none=>rfl
   | some u =>
    have e':b=a:=hA b (by rw [q];simp)
    subst e'
    rw [hK (by rw [q];simp)] at e;cases e)
  have hM:Mod K mg (Uk s₁.heap H):=⟨hKb,nsK hns,⟨mb,nsK hb,hbb⟩,let ⟨mc,h1,h2⟩:=hlim;⟨mc,nsK h1,h2⟩⟩
  have e0:W0 P w K mg (Uk s₁.heap H) callerA [] s₁ H:=⟨rfl,hM,fun b o e=>Adj e,Nat.le_of_eq (ZC _ _),trivial,fun b hb=>absurd (show b∈([]:List Addr) from hb) (by simp),hok,.of_eq hg⟩
  refine codeAny_mono ((F _ hKb (nsK hns)).run callerA [] s₁ H ⟨[.ref a],[]⟩ [.ref a] [.ref a] _ _ hr e0 (hbind s₁ (.ref a)) (.cons rfl .nil) (hsp H hO hS)) fun r s' h=>?_
  cases r with
  | error e=>exact (hCX H e s' h).elim
  | ok fl =>
   cases fl with
   | next=>exact False.elim h
   | brk=>exact False.elim h
   | cont=>exact False.elim h
   | ret u =>
    obtain ⟨v,H',os,bare,un,hok',r',q⟩:=h
    have q':v=.bl true:=q
    subst q'
    obtain rfl:u=Value.bool true:=r'
    refine ⟨rfl,OldK.of_keep fun b o e=>?_,os,bare⟩
    cases q:H b with
    | none=>exact un.keep b o e q (by intro z;exact absurd (show b∈([]:List Addr) from z) (by simp)) (by simp)
    | some u =>
     rcases hO b with z | ⟨ob,xs,z⟩
     ·rw [q] at z;cases z
     ·have z2:=un.frzs b ob _ z
      obtain ⟨e1,_⟩:=hok b _ z
      obtain ⟨e2,_⟩:=hok' b _ z2
      rw [e] at e1;cases e1
      exact e2
 cases hk:K.lookup a with
 | some o =>
  have e:=KX a o hk
  rw [ha] at e
  cases e
  refine core (fun _=>none) (fun _=>.inl rfl) (.inr ⟨_,vs.toArray,_,hk,rfl,rfl,rfl,by rw [List.size_toArray,lenV];exact hl,by simpa using rv⟩) (fun b u z=>by have z':(none:Option HO)=some u:=z;cases z') (fun b z=>absurd rfl z) fun z=>absurd rfl z
 | none =>
  refine core (fun b=>if b=a then some (.frz { cls:=.type "list",data:=.seq vs.toArray } (.lst (ns.map V.int))) else none) (fun b=>?_) (.inl (.inr ⟨{ cls:=.type "list",data:=.seq vs.toArray },if_pos rfl⟩)) (fun b u z=>?_) (fun b z=>?_) fun _=>hk
  ·by_cases hb:b=a
   ·exact .inr ⟨_,_,if_pos hb⟩
   ·exact .inl (if_neg hb)
  ·by_cases hb:b=a
   ·have z':=(if_pos hb).symm.trans z
    cases z'
    subst hb
    exact ⟨ha,by rw [List.length_map];exact hl,vs,_,rv,ha⟩
   ·have z':=(if_neg hb).symm.trans z
    cases z'
  ·by_cases hb:b=a
   ·exact hb
   ·exact absurd (if_neg hb) z
end L2
namespace L2
open PySem PySem.Spec PyProof.Rows
noncomputable abbrev KOf {K:PySem.W.Frag} {h:Heap} (_:K.In h):PySem.W.Frag:=K
theorem AcC {l:PySem.W.OpenLaw} {n k:Nat} {q:Program} {loose:List Str} {XP:(Str→Option Value)→Heap→Prop} {YP:World→Heap→Prop} {d:DefRec} {K:Params→PySem.W.Frag} {CX:World→CXT} {sp:World→Sp} {x:Str}
  (hn:l.most=some n) (hn2:n≤sizeLine) (hdf:d.params.defaults=[]) (hr:Ez k callerA)
  (hY:∀ (w:World) (h:Heap),YP w h→(K w.params).In h)
  (F:∀ (w:World) (mg:Str→Option Value) (fa:Addr) (h:Heap),(K w.params).In h→h.Ns mainGlobals mg→mg d.name=some (.ref fa) →
   ∃ fd:FuncData,(∀ (s:Shared) (u:Value),BindsTo s fd ⟨[u],[]⟩ [(x,u)]) ∧
    ∀ base:Heap,(K w.params).In base→base.Ns mainGlobals mg→HN l.prog w (K w.params) mg base (CX w) k fa fd [x] (sp w))
  (hsp:∀ (w:World) (H:Hp) (a:Addr) (ns:List Int),ns.length≤n→Only H→SqL (K w.params) H a (ns.map V.int)→sp w [.ref a] H (fun v _=>v=.bl true) fun _ _ _=>False)
  (hCX:∀ (w:World) (H:Hp) (s:Shared) (e:Value) (s':Shared),CX w [] H s (fun _ _ _=>False) e s'→False) :
  PySem.W.WalkO q loose XP YP l.row.toRowW d [] (fun f vs=>PySem.call f vs):=by
 refine Att.Wd hn hdf fun w s₀ s₁ mg mb fa o pm cd doc a vs ns G Y ho hd hcd hmg hobj hints hlen hg=>?_
 have KX:=hY w _ Y
 obtain ⟨fd,hb,hF⟩:=F w mg fa _ KX G.T.g hmg
 exact Ab7 KX G.T.g G.T.b G.T.builtins G.T.nolimit hg hobj hints (Nat.le_trans hlen hn2) hr hF hb (fun H hO hS=>hsp w H a ns hlen hO hS) fun H e s'=>hCX w H s₁ e s'
end L2
namespace L2
open PySem PySem.Spec PyProof.Rows
noncomputable def inClass (s:Stmt) (j:Nat):Stmt:=match s with
 | .ClassDef _ _ _ body _ _ _ _ _ _ _=>body.getD j (.Pass ⟨0,0,0,0⟩)
 | _=>.Pass ⟨0,0,0,0⟩
noncomputable def Ep (s:Stmt):Arguments:=match s with
 | .FunctionDef _ a _ _ _ _ _ _ _ _=>a
 | _=>{ posonlyargs:=[],args:=[],vararg:=none,kwonlyargs:=[],kw_defaults:=[],kwarg:=none,defaults:=[] }
noncomputable def Dz (s:Stmt):List Stmt:=match s with
 | .FunctionDef _ _ b _ _ _ _ _ _ _=>b
 | _=>[]
noncomputable def Ai (s:Stmt):Scope:=match s with
 | .FunctionDef _ _ _ _ _ _ sc _ _ _=>sc
 | _=>{ kind:=.function,names:=[],isGenerator:=false,isCoroutine:=false }
noncomputable abbrev CX0:CXT:=fun _ _ _ _ _ _=>False
noncomputable abbrev E0:XK:=fun _ _ _=>False
theorem U8 {X:Cx}:Passes CX0 X E0:=fun _ _ _ _ _ _ _ h=>h.elim
structure Fun (K:PySem.W.Frag) (x qual:Str) (st:Stmt) (f:Addr) (fd:FuncData):Prop where
 ex:∃ (oc:Value) (od:Option Addr) (kV doc pm:Value) (an:Option Addr) (cdv ct:Value) (osl:Array (Option Value)),
  fd=PySem.W.fnOf x qual (Ep st) (Dz st) (Ai st) .none kV doc pm an cdv ct∧K.lookup f=some ⟨oc,od,.func fd,osl⟩∧PySem.W.codeIn K cdv qual=true
 kp:PySem.W.keepIn K (.ref f)=true
section
variable {P:Program} {w:World} {K:PySem.W.Frag} {mg:Str→Option Value} {base:Heap}
theorem Fun.ok {x qual:Str} {st:Stmt} {f:Addr} {fd:FuncData} {N ps:List Str} {k:Nat} {sp:Sp} (F:Fun K x qual st f fd) (S:Al N ps (Ai st)) (len:∀ vs H Q E,sp vs H Q E→vs.length=ps.length)
  (hbody:∀ (cdv:Value) (A:Around) (outer:List Env) (s:Shared) (H:Hp) (vs:List V) (Q:VK) (E:XK),Ez k (A.deeper (envOfC qual (Ai st) s.heap.objs.size f cdv))→sp vs H Q E →
   ∃ t,PSs (Wu CX0 P w K mg base N qual (Ai st) f cdv A outer s H E).nox (Dz st) t∧t { nx:=fun _ H'=>Q .non H',rt:=Q } (start N vs) H):HN P w K mg base CX0 (k+1) f fd ps sp:=by
 obtain ⟨oc,od,kV,doc,pm,an,cdv,ct,osl,rfl,lk,hcd⟩:=F.ex
 refine AkV lk hcd S len fun A outer s H vs Q E hr hsp=>?_
 obtain ⟨t,h,q⟩:=hbody cdv A outer s H vs Q E hr hsp
 exact ⟨t,h.nox,q⟩
theorem Fun.binds {x qual:Str} {st:Stmt} {f:Addr} {fd:FuncData} {ps:List Str} (F:Fun K x qual st f fd)
  (h:∀ (kV doc pm:Value) (an:Option Addr) (cdv ct:Value) (us:List Value),us.length=ps.length→bindArgs (PySem.W.fnOf x qual (Ep st) (Dz st) (Ai st) .none kV doc pm an cdv ct) ⟨us,[]⟩=pure (ps.zip us)):Binds K fd ps []:=by
 obtain ⟨oc,od,kV,doc,pm,an,cdv,ct,osl,rfl,lk,hcd⟩:=F.ex
 exact .all (h kV doc pm an cdv ct)
theorem Nh {x qual:Str} {st:Stmt} {f:Addr} {oc:Value} {od an:Option Addr} {osl:Array (Option Value)} {kV doc pm cdv ct:Value} (l:K.lookup f=some ⟨oc,od,.func (PySem.W.fnOf x qual (Ep st) (Dz st) (Ai st) .none kV doc pm an cdv ct),osl⟩)
  (c:PySem.W.codeIn K cdv qual=true) (k:PySem.W.keepIn K (.ref f)=true):Fun K x qual st f (PySem.W.fnOf x qual (Ep st) (Dz st) (Ai st) .none kV doc pm an cdv ct):=⟨⟨oc,od,kV,doc,pm,an,cdv,ct,osl,rfl,l,c⟩,k⟩
end
theorem Zc {n:Nat} (h:n≤1000):n < sizeLine:=Nat.lt_of_le_of_lt h (by decide)
section
variable {X:Cx}
end
theorem JK {c A B:Prop} [Decidable c] (h1:c→A) (h2:¬ c→B):if c then A else B:=by
 by_cases h:c
 ·rw [if_pos h]
  exact h1 h
 ·rw [if_neg h]
  exact h2 h
noncomputable def Same (H H':Hp):Prop:=∀ b o,H b=some o→H' b=some o
theorem Same.refl (H:Hp):Same H H:=fun _ _ h=>h
theorem Same.trans {H H1 H2:Hp} (a:Same H H1) (b:Same H1 H2):Same H H2:=fun c o h=>b c o (a c o h)
theorem Same.seq {K:PySem.W.Frag} {H H':Hp} {a:Addr} {xs:List V} (e:Same H H') (h:SqL K H a xs):SqL K H' a xs:=by
 rcases h with (h | ⟨o,h⟩) | h
 ·exact .inl (.inl (e _ _ h))
 ·exact .inl (.inr ⟨o,e _ _ h⟩)
 ·exact .inr h
end L2
namespace L2
open PySem PySem.Spec PyProof.Rows
noncomputable def exO (a C dx:Addr) (h:Heap):Prop:=∃ o vs,h.get? a=some o∧o.cls=.ref C∧o.dict=some dx∧o.data=.fields vs∧dx≠a
section
variable {M:Model} {A:Around} {E:Value→Shared→Prop} {s:Shared} {base:Heap} {env:Env} {outer:List Env} {L e:Addr}
end
section
variable {P:Program} {w:World} {H:Hp} {h h':Heap} {fs:List Addr} {e:Addr} {oe:Obj} {vs:Array Value} {old:Option Addr} {φ:Heap→Prop}
end
end L2
namespace L2
open PySem PySem.Spec PyProof.Rows
noncomputable def Exc (H:Hp) (a:Addr):Prop:=∃ C dx,H a=some (.ext (exO a C dx))
section
variable {X:Cx} {pins:List (Addr × Obj)} {σ:St} {H:Hp} {s:Shared} {a:Addr} {E:Value→Shared→Prop} {Q:Unit→Shared→Prop}
end
section
variable {X:Cx} {k:Nat} {f:Addr} {fd:FuncData} {ps:List Str} {sp:Sp} {x:Str} {p pos:Pos} {e:Expr} {es:List Expr} {t:TA}
end
end L2
namespace L2
open PySem PySem.Spec PyProof.Rows
noncomputable abbrev bmV:List Value:=[.type "ValueError",.type "Exception",.type "BaseException",.type "object"]
noncomputable def AmB (es:Array DictEntry):Bool:=es.toList.all fun e=>match e.key with | .str _ _=>true | _=>false
structure XC (K:PySem.W.Frag) (C F:Addr):Prop where
 obj:∃ nm q N bs sn sub ab col dd k0 k1 k2 k3 k5,K.lookup C=some (excClassObj nm q C N bs (.ref F :: bmV) true sn sub ab col dd k0 k1 k2 k3 k5 "ValueError.__new__")
 tail:∃ c0 dd cd sl oc od es ep sl',K.lookup F=some ⟨c0,dd,.cls cd,sl⟩∧K.lookup cd.ns=some ⟨oc,od,.dict es ep,sl'⟩∧AmB es=true∧nsFind es "__init__"=none
 sa:PySem.W.findIn K (.ref C) "__setattr__"=some (some (.builtin "object.__setattr__"))
 ga:PySem.W.findIn K (.ref C) "__getattribute__"=some (some (.builtin "BaseException.__getattribute__"))
 gh:PySem.W.findIn K (.ref C) "__getattr__"=some none
 cl:PySem.W.findIn K (.ref C) "__class__"=some (some (.builtin "object.__class__"))
 gg:PySem.W.specialIn K (.builtin "object.__class__") "__get__"=some (some (.builtin "getset_descriptor.__get__"))
 gt:PySem.W.takesIn K (.builtin "object.__class__")=some true
section
variable {prog:Program} {w:World} {A:Around} {E:Value→Shared→Prop} {s:Shared} {K:PySem.W.Frag} {C U fI:Addr} {rest:List Value}
end
end L2
namespace L2
open PySem PySem.Spec PyProof.Rows PySem.W PySem.Builtin PySem.Builtin.ObjectAttr
section
variable {prog:Program} {w:World} {A:Around} {E:Value→Shared→Prop} {s:Shared} {K:PySem.W.Frag} {C U x:Addr} {name:Str} {v:Value}
end
end L2
namespace L2
open PySem PySem.Spec PyProof.Rows PySem.W PySem.Builtin PySem.Builtin.ObjectAttr
section
variable {prog:Program} {w:World} {A:Around} {E:Value→Shared→Prop} {s:Shared} {K:PySem.W.Frag} {C U x:Addr} {name:Str} {v:Value} {ox:Obj} {od:Option Obj}
end
end L2
namespace L2
open PySem PySem.Spec PyProof.Rows PySem.SeqAt
inductive Dt where
 | non | bl (b:Bool) | int (i:Int) | str (x:Str) | tup (ds:List Dt) | lst (ds:List Dt) | fn (a:Addr)
  | exc (c:Str) (ns:List Str) (ds:List Dt)
  | obj (c:Str) (ns:List Str) (ds:List Dt)
noncomputable def LsD (K:PySem.W.Frag) (H:Hp) (a:Addr) (xs:List V):Prop:=H a=some (.lst xs)∨(SqL K H a xs∧∀ x∈xs,∃ i:Int,x=.int i)
theorem LsD.sq {K:PySem.W.Frag} {H:Hp} {a:Addr} {xs:List V} (h:LsD K H a xs):SqL K H a xs:=by
 rcases h with h | ⟨h,_⟩
 ·exact SqL.of h
 ·exact h
theorem LsD.mono {K:PySem.W.Frag} {H H':Hp} {a:Addr} {xs:List V} (s:Same H H') (h:LsD K H a xs):LsD K H' a xs:=by
 rcases h with h | ⟨h,q⟩
 ·exact .inl (s _ _ h)
 ·exact .inr ⟨s.seq h,q⟩
mutual
noncomputable def Rp (K:PySem.W.Frag) (H:Hp):Dt→V→Prop
 | .non,v=>v=.non
 | .bl b,v=>v=.bl b
 | .int i,v=>v=.int i
 | .str x,v=>v=.str x
 | .fn a,v=>v=.ref a
 | .exc c ns ds,v=>∃ a C U dx vs,v=.ref a∧PySem.W.nsIn K mainGlobals c=some (some (.ref C))∧XC K C U∧H a=some (.ext (exO a C dx))∧H dx=some (.xd (ns.zip vs))∧ns.length=ds.length∧RpL K H ds vs
 | .obj c ns ds,v=>∃ a C dx vs,v=.ref a∧PySem.W.nsIn K mainGlobals c=some (some (.ref C))∧Cls K C∧H a=some (.ins C dx (ns.zip vs))∧ns.length=ds.length∧RpL K H ds vs
 | .tup ds,v=>∃ a xs,v=.ref a∧SqT K H a xs∧RpL K H ds xs
 | .lst ds,v=>∃ a xs,v=.ref a∧LsD K H a xs∧RpL K H ds xs
noncomputable def RpL (K:PySem.W.Frag) (H:Hp):List Dt→List V→Prop
 | [],xs=>xs=[]
 | d :: ds,xs=>∃ v r,xs=v :: r∧Rp K H d v∧RpL K H ds r
end
theorem Same.seqT {K:PySem.W.Frag} {H H':Hp} {a:Addr} {xs:List V} (e:Same H H') (h:SqT K H a xs):SqT K H' a xs:=by
 rcases h with (h | ⟨o,h⟩) | h
 ·exact .inl (.inl (e _ _ h))
 ·exact .inl (.inr ⟨o,e _ _ h⟩)
 ·exact .inr h
mutual
theorem Rp.mono {K:PySem.W.Frag} {H H':Hp} (s:Same H H'):∀ {d:Dt} {v:V},Rp K H d v→Rp K H' d v
 | .non,_,h=>by unfold Rp at h ⊢;exact h
 | .bl _,_,h=>by unfold Rp at h ⊢;exact h
 | .int _,_,h=>by unfold Rp at h ⊢;exact h
 | .str _,_,h=>by unfold Rp at h ⊢;exact h
 | .fn _,_,h=>by unfold Rp at h ⊢;exact h
 | .exc _ _ _,_,h=>by
  unfold Rp at h ⊢
  obtain ⟨a,C,U,dx,vs,e,q,x,h1,h2,l,r⟩:=h
  exact ⟨a,C,U,dx,vs,e,q,x,s _ _ h1,s _ _ h2,l,RpL.mono s r⟩
 | .obj _ _ _,_,h=>by
  unfold Rp at h ⊢
  obtain ⟨a,C,dx,vs,e,q,x,h1,l,r⟩:=h
  exact ⟨a,C,dx,vs,e,q,x,s _ _ h1,l,RpL.mono s r⟩
 | .tup ds,_,h=>by
  unfold Rp at h ⊢
  obtain ⟨a,xs,e,q,r⟩:=h
  exact ⟨a,xs,e,s.seqT q,RpL.mono s r⟩
 | .lst ds,_,h=>by
  unfold Rp at h ⊢
  obtain ⟨a,xs,e,q,r⟩:=h
  exact ⟨a,xs,e,q.mono s,RpL.mono s r⟩
theorem RpL.mono {K:PySem.W.Frag} {H H':Hp} (s:Same H H'):∀ {ds:List Dt} {vs:List V},RpL K H ds vs→RpL K H' ds vs
 | [],_,h=>by unfold RpL at h ⊢;exact h
 | d :: ds,_,h=>by
  unfold RpL at h ⊢
  obtain ⟨v,r,e,q,p⟩:=h
  exact ⟨v,r,e,Rp.mono s q,RpL.mono s p⟩
end
section
variable {K:PySem.W.Frag} {H:Hp}
theorem Tq {v:V}:Rp K H .non v↔v=.non:=by unfold Rp;exact Iff.rfl
theorem Eb {b:Bool} {v:V}:Rp K H (.bl b) v↔v=.bl b:=by unfold Rp;exact Iff.rfl
theorem Bc {i:Int} {v:V}:Rp K H (.int i) v↔v=.int i:=by unfold Rp;exact Iff.rfl
theorem Tg {x:Str} {v:V}:Rp K H (.str x) v↔v=.str x:=by unfold Rp;exact Iff.rfl
theorem Ae1 {a:Addr} {v:V}:Rp K H (.fn a) v↔v=.ref a:=by unfold Rp;exact Iff.rfl
theorem W3 {c:Str} {ns:List Str} {ds:List Dt} {v:V}:Rp K H (.obj c ns ds) v↔∃ a C dx vs,v=.ref a∧PySem.W.nsIn K mainGlobals c=some (some (.ref C))∧Cls K C∧H a=some (.ins C dx (ns.zip vs))∧ns.length=ds.length∧RpL K H ds vs:=by rw [Rp]
theorem CP {ds:List Dt} {v:V}:Rp K H (.tup ds) v↔∃ a xs,v=.ref a∧SqT K H a xs∧RpL K H ds xs:=by rw [Rp]
theorem T8 {ds:List Dt} {v:V}:Rp K H (.lst ds) v↔∃ a xs,v=.ref a∧LsD K H a xs∧RpL K H ds xs:=by rw [Rp]
theorem Ka {ds:List Dt} {v:V} (h:∃ a xs,v=.ref a∧H a=some (.lst xs)∧RpL K H ds xs):Rp K H (.lst ds) v:=let ⟨a,xs,e,h1,h2⟩:=h;T8.mpr ⟨a,xs,e,.inl h1,h2⟩
theorem FP {ds:List Dt} {v:V} (h:Rp K H (.lst ds) v):∃ a xs,v=.ref a∧SqL K H a xs∧RpL K H ds xs:=let ⟨a,xs,e,h1,h2⟩:=T8.mp h;⟨a,xs,e,h1.sq,h2⟩
theorem AcN {ns:List Int} {a:Addr} (h:SqL K H a (ns.map V.int)) (r:RpL K H (ns.map Dt.int) (ns.map V.int)):Rp K H (.lst (ns.map Dt.int)) (.ref a):=T8.mpr ⟨a,_,rfl,.inr ⟨h,fun x hx=>by obtain ⟨i,_,rfl⟩:=List.mem_map.mp hx;exact ⟨i,rfl⟩⟩,r⟩
theorem BP {vs:List V}:RpL K H [] vs↔vs=[]:=by rw [RpL]
theorem Ay {d:Dt} {ds:List Dt} {vs:List V}:RpL K H (d :: ds) vs↔∃ v r,vs=v :: r∧Rp K H d v∧RpL K H ds r:=by rw [RpL]
theorem RpL.nil:RpL K H [] []:=BP.mpr rfl
theorem RpL.cons {d:Dt} {ds:List Dt} {v:V} {vs:List V} (h:Rp K H d v) (r:RpL K H ds vs):RpL K H (d :: ds) (v :: vs):=Ay.mpr ⟨v,vs,rfl,h,r⟩
theorem RpL.len:∀ {ds:List Dt} {vs:List V},RpL K H ds vs→vs.length=ds.length
 | [],_,h=>by rw [BP.mp h];rfl
 | d :: ds,_,h=>by
  obtain ⟨v,r,rfl,_,p⟩:=Ay.mp h
  simp [RpL.len p]
theorem RpL.get:∀ {ds:List Dt} {vs:List V} {i:Nat} {d:Dt},RpL K H ds vs→ds[i]? = some d→∃ v,vs[i]? = some v∧Rp K H d v
 | [],_,_,_,_,e=>by simp at e
 | d :: ds,_,0,_,h,e=>by
  obtain ⟨v,r,rfl,q,p⟩:=Ay.mp h
  simp at e;subst e
  exact ⟨v,rfl,q⟩
 | d :: ds,_,i+1,_,h,e=>by
  obtain ⟨v,r,rfl,q,p⟩:=Ay.mp h
  obtain ⟨u,e1,e2⟩:=RpL.get (i:=i) p (by simpa using e)
  exact ⟨u,by simpa using e1,e2⟩
theorem RpL.get':∀ {ds:List Dt} {vs:List V} {i:Nat} {v:V},RpL K H ds vs→vs[i]? = some v→∃ d,ds[i]? = some d∧Rp K H d v
 | [],_,_,_,h,e=>by rw [BP.mp h] at e;simp at e
 | d :: ds,_,0,_,h,e=>by
  obtain ⟨v,r,rfl,q,p⟩:=Ay.mp h
  simp at e;subst e
  exact ⟨d,rfl,q⟩
 | d :: ds,_,i+1,_,h,e=>by
  obtain ⟨v,r,rfl,q,p⟩:=Ay.mp h
  obtain ⟨u,e1,e2⟩:=RpL.get' (i:=i) p (by simpa using e)
  exact ⟨u,by simpa using e1,e2⟩
theorem RpL.append:∀ {ds es:List Dt} {vs ws:List V},RpL K H ds vs→RpL K H es ws→RpL K H (ds ++ es) (vs ++ ws)
 | [],_,_,_,h,q=>by rw [BP.mp h];exact q
 | d :: ds,_,_,_,h,q=>by
  obtain ⟨v,r,rfl,a,p⟩:=Ay.mp h
  exact .cons a (RpL.append p q)
theorem RpL.drop:∀ {ds:List Dt} {vs:List V} (n:Nat),RpL K H ds vs→RpL K H (ds.drop n) (vs.drop n)
 | _,_,0,h=>by simpa using h
 | [],_,n+1,h=>by rw [BP.mp h];simpa using RpL.nil
 | d :: ds,_,n+1,h=>by
  obtain ⟨v,r,rfl,a,p⟩:=Ay.mp h
  simpa using RpL.drop n p
theorem RpL.take:∀ {ds:List Dt} {vs:List V} (n:Nat),RpL K H ds vs→RpL K H (ds.take n) (vs.take n)
 | _,_,0,h=>by simpa using RpL.nil
 | [],_,n+1,h=>by rw [BP.mp h];simpa using RpL.nil
 | d :: ds,_,n+1,h=>by
  obtain ⟨v,r,rfl,a,p⟩:=Ay.mp h
  simpa using RpL.cons a (RpL.take n p)
theorem RpL.ints:∀ (ns:List Int),RpL K H (ns.map Dt.int) (ns.map V.int)
 | []=>RpL.nil
 | _ :: ns=>RpL.cons (Bc.mpr rfl) (RpL.ints ns)
end
noncomputable def mask (O:List Addr) (H:Hp):Hp:=fun a=>if a∈O then none else H a
theorem Dw {O:List Addr} {H:Hp} {a:Addr} (h:a∈O):mask O H a=none:=if_pos h
theorem Bd {O:List Addr} {H:Hp} {a:Addr} (h:a∉O):mask O H a=H a:=if_neg h
theorem CQ {O:List Addr} {H:Hp} {a:Addr} {o:HO} (h:mask O H a=some o):a∉O∧H a=some o:=by
 by_cases q:a∈O
 ·rw [Dw q] at h;cases h
 ·rw [Bd q] at h;exact ⟨q,h⟩
theorem Bf {O:List Addr} {H:Hp}:Same (mask O H) H:=fun _ _ h=>(CQ h).2
theorem Same.mask {O:List Addr} {H H':Hp} (s:Same H H'):Same (mask O H) (L2.mask O H'):=fun a o h=>by
 obtain ⟨q,e⟩:=CQ h
 rw [Bd q];exact s a o e
theorem Gz {O O':List Addr} {H:Hp} (h:∀ a∈O',a∈O):Same (mask O H) (mask O' H):=fun a o e=>by
 obtain ⟨q,e⟩:=CQ e
 rw [Bd fun z=>q (h a z)];exact e
theorem Same.upd {H:Hp} {p:Addr} {o:HO} (h:H p=none):Same H (L2.upd H p o):=fun a u e=>by
 rw [Aw (Bv e h)];exact e
noncomputable def tabAt (a:Addr) (xs:List (List Key × Addr × Value)) (h:Heap):Prop:=(a == sysModules)=false∧∃ (P:Program) (w:World) (o:Obj) (es:Array DictEntry) (ep:Nat),h.get? a=some o∧o.ExactDict∧o.data=.dict es ep∧es.toList=xs.map (entryOfKey (tupleKind (GZ P w)))∧(xs.map (·.1)).Nodup
noncomputable def Vt (K:PySem.W.Frag) (H:Hp) (ks:List (List Int)) (xs:List (List Key × Addr × Value)):Prop:=xs.map (·.1)=ks.map (·.map Sum.inl)∧∀ x∈xs,SqT K H x.2.1 (x.1.map kV)
theorem Vt.mono {K:PySem.W.Frag} {H H':Hp} {ks:List (List Int)} {xs:List (List Key × Addr × Value)} (s:Same H H') (h:Vt K H ks xs):Vt K H' ks xs:=⟨h.1,fun x hx=>s.seqT (h.2 x hx)⟩
inductive En where
 | is (d:Dt) | own (ds:List Dt) | tab (ks:List (List Int))
noncomputable abbrev BX:=List (Option En)
noncomputable abbrev DTE:=BX→(Dt→Prop)→Prop
noncomputable abbrev DTT:=BX→(Bool→Prop)→Prop
noncomputable abbrev DTA:=BX→(List Dt→Prop)→Prop
structure GQ where
 nx:BX→Prop
 rt:Dt→Prop
 bk:BX→Prop:=fun _=>False
 ct:BX→Prop:=fun _=>False
noncomputable abbrev DTS:=GQ→BX→Prop
structure Rep (K:PySem.W.Frag) (B:Hp) (F O:List Addr) (H:Hp) (σ:St) (ρ:BX):Prop where
 len:σ.length=ρ.length
 base:Same B H
 fr:∀ a∈O,B a=none
 th:∀ a∈F ++ O,H a≠none
 is:∀ (i:Nat) (d:Dt),ρ[i]? = some (some (.is d))→∃ v,σ[i]? = some (some v)∧Rp K (mask (F ++ O) H) d v
 own:∀ (i:Nat) (ds:List Dt),ρ[i]? = some (some (.own ds))→∃ a xs,σ[i]? = some (some (.ref a))∧a∈O∧a∉F∧H a=some (.lst xs)∧RpL K (mask (F ++ O) H) ds xs
 inj:∀ (i j:Nat) (ds es:List Dt) (a:Addr),ρ[i]? = some (some (.own ds))→ρ[j]? = some (some (.own es))→σ[i]? = some (some (.ref a))→σ[j]? = some (some (.ref a))→i=j
 tab:∀ (i:Nat) (ks:List (List Int)),ρ[i]? = some (some (.tab ks))→∃ a xs,σ[i]? = some (some (.ref a))∧a∈O∧a∉F∧H a=some (.ext (tabAt a xs))∧Vt K (mask (F ++ O) H) ks xs
 tinj:∀ (i j:Nat) (ks ls:List (List Int)) (a:Addr),ρ[i]? = some (some (.tab ks))→ρ[j]? = some (some (.tab ls))→σ[i]? = some (some (.ref a))→σ[j]? = some (some (.ref a))→i=j
section
variable {K:PySem.W.Frag} {B:Hp} {F O:List Addr} {H H':Hp} {σ:St} {ρ:BX}
theorem Rep.same (r:Rep K B F O H σ ρ) (s:Same H H'):Rep K B F O H' σ ρ where
 len:=r.len
 base:=r.base.trans s
 fr:=r.fr
 th:=fun a h e=>by
  have:=r.th a h
  cases q:H a with
  | none=>exact this q
  | some o=>rw [s a o q] at e;cases e
 is:=fun i d e=>let ⟨v,h1,h2⟩:=r.is i d e;⟨v,h1,h2.mono s.mask⟩
 own:=fun i ds e=>let ⟨a,xs,h1,h2,h3,h4,h5⟩:=r.own i ds e;⟨a,xs,h1,h2,h3,s _ _ h4,h5.mono s.mask⟩
 inj:=r.inj
 tab:=fun i ks e=>let ⟨a,xs,h1,h2,h3,h4,h5⟩:=r.tab i ks e;⟨a,xs,h1,h2,h3,s _ _ h4,h5.mono s.mask⟩
 tinj:=r.tinj
theorem Rep.below (r:Rep K B F O H σ ρ):Same (mask F B) (mask (F ++ O) H):=fun a o e=>by
 obtain ⟨q,e⟩:=CQ e
 rw [Bd]
 ·exact r.base a o e
 ·intro z
  rcases List.mem_append.mp z with z | z
  ·exact q z
  ·rw [r.fr a z] at e;cases e
theorem Rep.set (r:Rep K B F O H σ ρ) (i:Nat) {d:Dt} {v:V} (h:Rp K (mask (F ++ O) H) d v):Rep K B F O H (σ.set i (some v)) (ρ.set i (some (.is d))):=by
 have hl:=r.len
 have back:∀ (j:Nat) (ds:En),(∀ z,ds≠.is z)→(ρ.set i (some (.is d)))[j]? = some (some ds)→j≠i∧ρ[j]? = some (some ds):=fun j ds nz e=>by
  by_cases hj:j=i
  ·subst hj
   by_cases hk:j < ρ.length
   ·rw [List.getElem?_set_self hk] at e;cases e;exact (nz d rfl).elim
   ·rw [List.getElem?_eq_none (by simpa using hk)] at e;cases e
  ·rw [List.getElem?_set_ne (Ne.symm hj)] at e;exact ⟨hj,e⟩
 refine ⟨by simpa using hl,r.base,r.fr,r.th,fun j e q=>?_,fun j ds q=>?_,fun j k ds es a h1 h2 h3 h4=>?_,fun j ks q=>?_,fun j k ds es a h1 h2 h3 h4=>?_⟩
 ·by_cases hj:j=i
  ·subst hj
   by_cases hk:j < ρ.length
   ·rw [List.getElem?_set_self hk] at q
    cases q
    exact ⟨v,List.getElem?_set_self (by omega),h⟩
   ·rw [List.getElem?_eq_none (by simpa using hk)] at q;cases q
  ·rw [List.getElem?_set_ne (Ne.symm hj)] at q ⊢
   exact r.is j e q
 ·obtain ⟨hj,q⟩:=back j _ (fun _ z=>by cases z) q
  rw [List.getElem?_set_ne (Ne.symm hj)]
  exact r.own j ds q
 ·obtain ⟨hj,q1⟩:=back j _ (fun _ z=>by cases z) h1
  obtain ⟨hk,q2⟩:=back k _ (fun _ z=>by cases z) h2
  rw [List.getElem?_set_ne (Ne.symm hj)] at h3
  rw [List.getElem?_set_ne (Ne.symm hk)] at h4
  exact r.inj j k ds es a q1 q2 h3 h4
 ·obtain ⟨hj,q⟩:=back j _ (fun _ z=>by cases z) q
  rw [List.getElem?_set_ne (Ne.symm hj)]
  exact r.tab j ks q
 ·obtain ⟨hj,q1⟩:=back j _ (fun _ z=>by cases z) h1
  obtain ⟨hk,q2⟩:=back k _ (fun _ z=>by cases z) h2
  rw [List.getElem?_set_ne (Ne.symm hj)] at h3
  rw [List.getElem?_set_ne (Ne.symm hk)] at h4
  exact r.tinj j k ds es a q1 q2 h3 h4
end
noncomputable def lE (K:PySem.W.Frag) (t:DTE):TE:=fun σ H Q=>∃ B F O ρ,Rep K B F O H σ ρ∧t ρ fun d=>∀ v H',Same H H'→Rp K (mask (F ++ O) H') d v→Q v H'
noncomputable def lT (K:PySem.W.Frag) (t:DTT):TT:=fun σ H Q=>∃ B F O ρ,Rep K B F O H σ ρ∧t ρ fun b=>∀ H',Same H H'→Q b H'
noncomputable def lA (K:PySem.W.Frag) (t:DTA):TA:=fun σ H Q=>∃ B F O ρ,Rep K B F O H σ ρ∧t ρ fun ds=>∀ vs H',Same H H'→RpL K (mask (F ++ O) H') ds vs→Q vs H'
noncomputable def lD (K:PySem.W.Frag) (B:Hp) (F:List Addr) (D:Ends):GQ where
 nx:=fun ρ'=>∀ O' σ' H',Rep K B F O' H' σ' ρ'→D.nx σ' H'
 rt:=fun d=>∀ v H',Same B H'→Rp K (mask F H') d v→D.rt v H'
 bk:=fun ρ'=>∀ O' σ' H',Rep K B F O' H' σ' ρ'→D.bk σ' H'
 ct:=fun ρ'=>∀ O' σ' H',Rep K B F O' H' σ' ρ'→D.ct σ' H'
noncomputable def lS (K:PySem.W.Frag) (t:DTS):TS:=fun D σ H=>∃ B F O ρ,Rep K B F O H σ ρ∧t (lD K B F D) ρ
structure GQ.le (D D':GQ):Prop where
 nx:∀ ρ,D.nx ρ→D'.nx ρ
 rt:∀ d,D.rt d→D'.rt d
 bk:∀ ρ,D.bk ρ→D'.bk ρ
 ct:∀ ρ,D.ct ρ→D'.ct ρ
structure DE (X:Cx) (e:Expr) (t:DTE):Prop where
 mono:∀ {ρ Q Q'},(∀ d,Q d→Q' d)→t ρ Q→t ρ Q'
 pe:PE X e (lE X.K t)
structure DT (X:Cx) (e:Expr) (t:DTT):Prop where
 mono:∀ {ρ Q Q'},(∀ d,Q d→Q' d)→t ρ Q→t ρ Q'
 pt:PT X e (lT X.K t)
structure DA (X:Cx) (es:List Expr) (t:DTA):Prop where
 mono:∀ {ρ Q Q'},(∀ d,Q d→Q' d)→t ρ Q→t ρ Q'
 pa:PA X es (lA X.K t)
structure DS (X:Cx) (st:Stmt) (t:DTS):Prop where
 mono:∀ {ρ D D'},GQ.le D D'→t D ρ→t D' ρ
 ps:PS X st (lS X.K t)
structure DSs (X:Cx) (st:List Stmt) (t:DTS):Prop where
 mono:∀ {ρ D D'},GQ.le D D'→t D ρ→t D' ρ
 ps:PSs X st (lS X.K t)
theorem PE.imp {X:Cx} {e:Expr} {t t':TE} (h:PE X e t) (i:∀ σ H Q,t' σ H Q→t σ H Q):PE X e t':=fun pins s σ H Q I q=>h pins s σ H Q I (i _ _ _ q)
theorem PT.imp {X:Cx} {e:Expr} {t t':TT} (h:PT X e t) (i:∀ σ H Q,t' σ H Q→t σ H Q):PT X e t':=fun pins s σ H Q I q=>h pins s σ H Q I (i _ _ _ q)
theorem PA.imp {X:Cx} {e:List Expr} {t t':TA} (h:PA X e t) (i:∀ σ H Q,t' σ H Q→t σ H Q):PA X e t':=fun pos pins s σ H Q I q=>h pos pins s σ H Q I (i _ _ _ q)
theorem PS.imp {X:Cx} {e:Stmt} {t t':TS} (h:PS X e t) (i:∀ D σ H,t' D σ H→t D σ H):PS X e t':=fun pins s σ H D I q=>h pins s σ H D I (i _ _ _ q)
theorem PSs.imp {X:Cx} {e:List Stmt} {t t':TS} (h:PSs X e t) (i:∀ D σ H,t' D σ H→t D σ H):PSs X e t':=fun pins s σ H D I q=>h pins s σ H D I (i _ _ _ q)
section
variable {X:Cx} {a b c e:Expr} {es:List Expr} {ta tb tc te:DTE} {tA tB:DTT} {tl:DTA} {pos:Pos}
noncomputable def Qv (i:Nat):DTE:=fun ρ Q=>match ρ[i]? with
 | some (some (.is d))=>Q d
 | _=>False
noncomputable def dC (d:Dt):DTE:=fun _ Q=>Q d
theorem dv (i:Nat) {x:Str} {pos:Pos} (hN:X.N[i]? = some x:=by rfl) (hv:Vis X.env.scope x:=by first | exact Or.inl rfl | exact Or.inr (Or.inl rfl) | exact Or.inr (Or.inr rfl)) (hd:(x == ("__debug__":Str))=false:=by decide)
  (hcd:(x == ("__classdict__":Str))=false:=by decide):DE X (.Name x pos) (Qv i) where
 mono:=fun {ρ Q Q'} hq h=>by
  unfold Qv at h ⊢
  split at h
  ·exact hq _ h
  ·exact h.elim
 pe:=(HD hN hv hd hcd).imp fun σ H Q ⟨B,F,O,ρ,r,h⟩=>by
  unfold Qv at h
  split at h
  ·rename_i d e
   obtain ⟨v,h1,h2⟩:=r.is i d e
   exact ⟨v,h1,h v H (Same.refl H) h2⟩
  ·exact h.elim
theorem AfP {v:V} {d:Dt} (h:PE X e (tC v)) (hr:∀ K H,Rp K H d v):DE X e (dC d) where
 mono:=fun hq h=>hq _ h
 pe:=h.imp fun σ H Q ⟨B,F,O,ρ,r,h⟩=>h v H (Same.refl H) (hr _ _)
theorem Ab {i j pos}:DE X (.Constant (.int i) j pos) (dC (.int i)):=AfP Af6 fun _ _=>Bc.mpr rfl
theorem O3 {i j pos}:DE X (.Constant (.bool i) j pos) (dC (.bl i)):=AfP Ajq fun _ _=>Eb.mpr rfl
theorem K9 {x j pos}:DE X (.Constant (.str x) j pos) (dC (.str x)):=AfP Ag7 fun _ _=>Tg.mpr rfl
theorem Jp {x:Str} {v:V} {u:Value} {d:Dt} {pos:Pos} (hg:Gl X x) (hm:X.mg x=some u) (r:RelV v u) (hr:∀ H,Rp X.K H d v) (hd:(x == ("__debug__":Str))=false:=by decide):DE X (.Name x pos) (dC d) where
 mono:=fun hq h=>hq _ h
 pe:=(YG hg hm r hd).imp fun σ H Q ⟨B,F,O,ρ,_,h⟩=>h v H (Same.refl H) (hr _)
noncomputable abbrev D2:=Dt→Dt→(Dt→Prop)→Prop
structure Jw (K:PySem.W.Frag) (r:R2) (t:D2):Prop where
 mono:∀ {a b Q Q'},(∀ d,Q d→Q' d)→t a b Q→t a b Q'
 ok:∀ (O:List Addr) (H:Hp) (a b:Dt) (x y:V) (Q:VK),(∀ p∈O,H p≠none)→Rp K (mask O H) a x→Rp K (mask O H) b y →
  t a b (fun d=>∀ v H',Same H H'→Rp K (mask O H') d v→Q v H')→r x y H Q
noncomputable def dOp (t:D2) (ta tb:DTE):DTE:=fun ρ Q=>ta ρ fun a=>tb ρ fun b=>t a b Q
theorem T6 {K:PySem.W.Frag} {r:R2} {t:D2} (S:Jw K r t) {ta tb:DTE} (ma:∀ {ρ Q Q'},(∀ d,Q d→Q' d)→ta ρ Q→ta ρ Q') (mb:∀ {ρ Q Q'},(∀ d,Q d→Q' d)→tb ρ Q→tb ρ Q')
  (σ:St) (H:Hp) (Q:VK) (h:lE K (dOp t ta tb) σ H Q):tOp r (lE K ta) (lE K tb) σ H Q:=by
 obtain ⟨B,F,O,ρ,R,h⟩:=h
 refine ⟨B,F,O,ρ,R,ma (fun a h v H1 s1 r1=>?_) h⟩
 refine ⟨B,F,O,ρ,R.same s1,mb (fun b h u H2 s2 r2=>?_) h⟩
 exact S.ok _ H2 a b v u Q ((R.same s1).same s2).th (r1.mono s2.mask) r2 (S.mono (fun d q w H3 s3 r3=>q w H3 ((s1.trans s2).trans s3) r3) h)
theorem JG {t:D2} (m:∀ {a b Q Q'},(∀ d,Q d→Q' d)→t a b Q→t a b Q') (ma:∀ {ρ Q Q'},(∀ d,Q d→Q' d)→ta ρ Q→ta ρ Q') (mb:∀ {ρ Q Q'},(∀ d,Q d→Q' d)→tb ρ Q→tb ρ Q') :
  ∀ {ρ Q Q'},(∀ d,Q d→Q' d)→dOp t ta tb ρ Q→dOp t ta tb ρ Q':=fun hq h=>ma (fun _ h=>mb (fun _ h=>m hq h) h) h
theorem Py {op:Operator} {r:R2} {t:D2} (ho:OpR X (binaryOp op) r) (S:Jw X.K r t) (ha:DE X a ta) (hb:DE X b tb):DE X (.BinOp a op b pos) (dOp t ta tb) where
 mono:=JG (t:=t) (ta:=ta) (tb:=tb) S.mono ha.mono hb.mono
 pe:=(Afh ho ha.pe hb.pe).imp (T6 (ta:=ta) (tb:=tb) S ha.mono hb.mono)
theorem Xc {op:CmpOp} {r:R2} {t:D2} (ho:OpR X (compareOp op) r) (S:Jw X.K r t) (ha:DE X a ta) (hb:DE X b tb) (hm:behindInMarks op b=false):DE X (.Compare a [op] [b] pos) (dOp t ta tb) where
 mono:=JG (t:=t) (ta:=ta) (tb:=tb) S.mono ha.mono hb.mono
 pe:=(X4 ho ha.pe hb.pe hm).imp (T6 (ta:=ta) (tb:=tb) S ha.mono hb.mono)
theorem Ah3 {r:R2} {t:D2} (ho:IxR X r) (S:Jw X.K r t) (ha:DE X a ta) (hb:DE X b tb) (hs:Ou b):DE X (.Subscript a b pos) (dOp t ta tb) where
 mono:=JG (t:=t) (ta:=ta) (tb:=tb) S.mono ha.mono hb.mono
 pe:=(Afj ho ha.pe hb.pe hs).imp (T6 (ta:=ta) (tb:=tb) S ha.mono hb.mono)
noncomputable def dI (C:Int→Int→Prop) (g:Int→Int→Int):D2:=fun a b Q=>match a,b with
 | .int i,.int j=>C i j∧Q (.int (g i j))
 | _,_=>False
noncomputable def dI0 (g:Int→Int→Int):D2:=fun a b Q=>match a,b with
 | .int i,.int j=>Q (.int (g i j))
 | _,_=>False
noncomputable def dB0 (g:Int→Int→Bool):D2:=fun a b Q=>match a,b with
 | .int i,.int j=>Q (.bl (g i j))
 | _,_=>False
theorem VB {K:PySem.W.Frag} {C:Int→Int→Prop} {g:Int→Int→Int}:Jw K (rI C fun i j=>.int (g i j)) (dI C g) where
 mono:=fun {a b Q Q'} hq h=>by
  unfold dI at h ⊢
  split at h
  ·exact ⟨h.1,hq _ h.2⟩
  ·exact h.elim
 ok:=fun O H a b x y Q _ ra rb h=>by
  unfold dI at h
  split at h
  ·exact ⟨_,_,Bc.mp ra,Bc.mp rb,h.1,h.2 _ H (Same.refl H) (Bc.mpr rfl)⟩
  ·exact h.elim
theorem Abn {K:PySem.W.Frag} {g:Int→Int→Int}:Jw K (rI0 fun i j=>.int (g i j)) (dI0 g) where
 mono:=fun {a b Q Q'} hq h=>by
  unfold dI0 at h ⊢
  split at h
  ·exact hq _ h
  ·exact h.elim
 ok:=fun O H a b x y Q _ ra rb h=>by
  unfold dI0 at h
  split at h
  ·exact ⟨_,_,Bc.mp ra,Bc.mp rb,h _ H (Same.refl H) (Bc.mpr rfl)⟩
  ·exact h.elim
theorem Hl {K:PySem.W.Frag} {g:Int→Int→Bool}:Jw K (rI0 fun i j=>.bl (g i j)) (dB0 g) where
 mono:=fun {a b Q Q'} hq h=>by
  unfold dB0 at h ⊢
  split at h
  ·exact hq _ h
  ·exact h.elim
 ok:=fun O H a b x y Q _ ra rb h=>by
  unfold dB0 at h
  split at h
  ·exact ⟨_,_,Bc.mp ra,Bc.mp rb,h _ H (Same.refl H) (Eb.mpr rfl)⟩
  ·exact h.elim
theorem Aev:OpR X (binaryOp .Mult) (rI IntMulOk fun i j=>.int (i*j)):=opI fun _ _ _ _ _ _ _ hc q=>mul_int q hc
noncomputable def CDv (_ j:Int):Prop:=j≠0∧j.natAbs < 2 ^ 9000
theorem log2_small {n:Nat} (h:n < 2 ^ 9000):n.log2 < 9000:=by
 by_cases h0:n=0
 ·subst h0;decide +kernel
 ·exact (Nat.log2_lt h0).mpr h
theorem Aay:OpR X (binaryOp .FloorDiv) (rI CDv fun i j=>.int (i.fdiv j)):=opI fun _ _ _ _ _ _ _ hc q=>floordiv_int hc.1 q (.inl (PyProof.noPylong_of_log2 (log2_small hc.2)))
noncomputable def AiQ:D2:=dI0 fun i j=>i+j
noncomputable def AjM:D2:=dI0 fun i j=>i - j
noncomputable def Aim:D2:=dI IntMulOk fun i j=>i*j
noncomputable def Akg:D2:=dI (fun _ j=>j≠0) fun i j=>i.fmod j
noncomputable def Aiu:D2:=dI CDv fun i j=>i.fdiv j
noncomputable def AnC:D2:=dI AcI fun i j=>i ^ j.toNat
noncomputable def AkR:D2:=dI AcI fun i j=>i*2 ^ j.toNat
noncomputable def AhJ:D2:=dI (fun _ j=>0≤j) fun i j=>i / 2 ^ j.toNat
theorem BL (ha:DE X a ta) (hb:DE X b tb):DE X (.BinOp a .Add b pos) (dOp AiQ ta tb):=Py AgD Abn ha hb
theorem Bu (ha:DE X a ta) (hb:DE X b tb):DE X (.BinOp a .Sub b pos) (dOp AjM ta tb):=Py Agy Abn ha hb
theorem Ao (ha:DE X a ta) (hb:DE X b tb):DE X (.BinOp a .Mult b pos) (dOp Aim ta tb):=Py Aev VB ha hb
theorem Dr (ha:DE X a ta) (hb:DE X b tb):DE X (.BinOp a .Mod b pos) (dOp Akg ta tb):=Py Ad4 VB ha hb
theorem Ce (ha:DE X a ta) (hb:DE X b tb):DE X (.BinOp a .FloorDiv b pos) (dOp Aiu ta tb):=Py Aay VB ha hb
theorem Abo (ha:DE X a ta) (hb:DE X b tb):DE X (.BinOp a .LShift b pos) (dOp AkR ta tb):=Py AgP VB ha hb
theorem Af2 (ha:DE X a ta) (hb:DE X b tb):DE X (.BinOp a .RShift b pos) (dOp AhJ ta tb):=Py Ahk VB ha hb
noncomputable def dLt:D2:=dB0 fun i j=>decide (i < j)
noncomputable def dLe:D2:=dB0 fun i j=>decide (i≤j)
noncomputable def dGt:D2:=dB0 fun i j=>decide (j < i)
noncomputable def dGe:D2:=dB0 fun i j=>decide (j≤i)
theorem Aja (ha:DE X a ta) (hb:DE X b tb):DE X (.Compare a [.GtE] [b] pos) (dOp dGe ta tb):=Xc AeJ Hl ha hb (JX _)
noncomputable def ixL:Int→List Dt→Option Dt
 | .ofNat n,ds=>ds[n]?
 | .negSucc m,ds=>if m < ds.length then ds[ds.length - 1 - m]? else none
noncomputable def ixD (i:Int):Dt→Option Dt
 | .tup ds=>ixL i ds
 | .lst ds=>ixL i ds
 | _=>none
theorem Wr {i:Int} {ds:List Dt} {d:Dt} (h:ixL i ds=some d):atI ds i=some d:=by
 cases i with
 | ofNat n=>exact Aed h
 | negSucc m =>
  have h':(if m < ds.length then ds[ds.length - 1 - m]? else none)=some d:=h
  by_cases hm:m < ds.length
  ·rw [if_pos hm] at h'
   unfold atI ixN
   have h1:¬ (0:Int)≤Int.negSucc m:=by omega
   have h2:-(ds.length:Int)≤Int.negSucc m:=by omega
   have h3:(Int.negSucc m+(ds.length:Int)).toNat=ds.length - 1 - m:=by omega
   rw [if_neg h1,if_pos h2,Option.bind_some,h3]
   exact h'
  ·rw [if_neg hm] at h';cases h'
noncomputable def dIx:D2:=fun a b Q=>match b with
 | .int i=>match ixD i a with
  | some d=>Q d
  | none=>False
 | _=>False
theorem AaI {K:PySem.W.Frag} {H:Hp} {ds:List Dt} {xs:List V} {i:Int} {d:Dt} (r:RpL K H ds xs) (h:atI ds i=some d):∃ v,atI xs i=some v∧Rp K H d v:=by
 unfold atI at h ⊢
 rw [r.len]
 cases e:ixN ds.length i with
 | none=>rw [e] at h;cases h
 | some j =>
  rw [e] at h
  exact r.get h
theorem AgH {K:PySem.W.Frag}:Jw K (rIx K) dIx where
 mono:=fun {a b Q Q'} hq h=>by
  unfold dIx at h ⊢
  split at h
  ·split at h
   ·rename_i e;exact hq _ h
   ·exact h.elim
  ·exact h.elim
 ok:=fun O H a b x y Q _ ra rb h=>by
  unfold dIx at h
  split at h
  ·split at h
   ·rename_i i _ d e
    have eb:=Bc.mp rb
    subst eb
    cases a with
    | tup ds =>
     obtain ⟨p,xs,rfl,hs,hl⟩:=CP.mp ra
     obtain ⟨v,e1,e2⟩:=AaI hl (Wr e)
     exact .inr (.inl ⟨p,xs,i,v,rfl,rfl,Bf.seqT hs,e1,h v H (Same.refl H) e2⟩)
    | lst ds =>
     obtain ⟨p,xs,rfl,hs,hl⟩:=FP ra
     obtain ⟨v,e1,e2⟩:=AaI hl (Wr e)
     exact .inl ⟨p,xs,i,v,rfl,rfl,Bf.seq hs,e1,h v H (Same.refl H) e2⟩
    | _=>cases e
   ·exact h.elim
  ·exact h.elim
theorem Ac (ha:DE X a ta) (hb:DE X b tb) (hs:Ou b:=by exact fun _ _=>rfl):DE X (.Subscript a b pos) (dOp dIx ta tb):=Ah3 AfK AgH ha hb hs
noncomputable def Adf:Dt→(Dt→Prop)→Prop:=fun a Q=>match a with
 | .int i=>Q (.int (-i))
 | _=>False
noncomputable def dUn (t:Dt→(Dt→Prop)→Prop) (ta:DTE):DTE:=fun ρ Q=>ta ρ fun a=>t a Q
theorem Ek (ha:DE X a ta):DE X (.UnaryOp .USub a pos) (dUn Adf ta) where
 mono:=fun hq h=>ha.mono (fun d h=>by
  unfold Adf at h ⊢
  split at h
  ·exact hq _ h
  ·exact h.elim) h
 pe:=(AhE AfE ha.pe).imp fun σ H Q ⟨B,F,O,ρ,R,h⟩=>⟨B,F,O,ρ,R,ha.mono (fun d h v H1 s1 r1=>by
  unfold Adf at h
  split at h
  ·exact ⟨_,Bc.mp r1,h _ H1 s1 (Bc.mpr rfl)⟩
  ·exact h.elim) h⟩
noncomputable def AhU (ta:DTE):DTE:=fun ρ Q=>ta ρ fun a=>match a with
 | .bl k=>Q (.bl (!k))
 | _=>False
noncomputable def Ak0 (ta tb:DTE):DTE:=fun ρ Q=>ta ρ fun a=>match a with
 | .bl k=>if k=true then tb ρ Q else Q (.bl false)
 | _=>False
noncomputable def dOr (ta tb:DTE):DTE:=fun ρ Q=>ta ρ fun a=>match a with
 | .bl k=>if k=true then Q (.bl true) else tb ρ Q
 | _=>False
theorem AfL (ha:DE X a ta):DE X (.UnaryOp .Not a pos) (AhU ta) where
 mono:=fun hq h=>ha.mono (fun d h=>by
  split at h
  ·exact hq _ h
  ·exact h.elim) h
 pe:=(Af8 ha.pe).imp fun σ H Q ⟨B,F,O,ρ,R,h⟩=>⟨B,F,O,ρ,R,ha.mono (fun d h v H1 s1 r1=>by
  split at h
  ·exact ⟨_,Eb.mp r1,h _ H1 s1 (Eb.mpr rfl)⟩
  ·exact h.elim) h⟩
theorem Uo {op} (h:DE X a ta):DE X (.BoolOp op [a] pos) ta:=⟨h.mono,Ahi h.pe⟩
theorem Xj {rest:List Expr} (ha:DE X a ta) (hb:DE X (.BoolOp .And (b :: rest) pos) tb):DE X (.BoolOp .And (a :: b :: rest) pos) (Ak0 ta tb) where
 mono:=fun hq h=>ha.mono (fun d h=>by
  split at h
  ·split at h
   ·rename_i e;simp only [e,if_true];exact hb.mono hq h
   ·rename_i e;simp only [e];exact hq _ h
  ·exact h.elim) h
 pe:=(AfS ha.pe hb.pe).imp fun σ H Q ⟨B,F,O,ρ,R,h⟩=>⟨B,F,O,ρ,R,ha.mono (fun d h v H1 s1 r1=>by
  split at h
  ·rename_i k
   refine ⟨k,Eb.mp r1,?_⟩
   cases k with
   | true=>exact ⟨B,F,O,ρ,R.same s1,hb.mono (fun d q v H2 s2 r2=>q v H2 (s1.trans s2) r2) h⟩
   | false=>exact h _ H1 s1 (Eb.mpr rfl)
  ·exact h.elim) h⟩
theorem Ake {rest:List Expr} (ha:DE X a ta) (hb:DE X (.BoolOp .Or (b :: rest) pos) tb):DE X (.BoolOp .Or (a :: b :: rest) pos) (dOr ta tb) where
 mono:=fun hq h=>ha.mono (fun d h=>by
  split at h
  ·split at h
   ·rename_i e;simp only [e,if_true];exact hq _ h
   ·rename_i e;simp only [e];exact hb.mono hq h
  ·exact h.elim) h
 pe:=(AiP ha.pe hb.pe).imp fun σ H Q ⟨B,F,O,ρ,R,h⟩=>⟨B,F,O,ρ,R,ha.mono (fun d h v H1 s1 r1=>by
  split at h
  ·rename_i k
   refine ⟨k,Eb.mp r1,?_⟩
   cases k with
   | false=>exact ⟨B,F,O,ρ,R.same s1,hb.mono (fun d q v H2 s2 r2=>q v H2 (s1.trans s2) r2) h⟩
   | true=>exact h _ H1 s1 (Eb.mpr rfl)
  ·exact h.elim) h⟩
noncomputable def LC (t:DTE):DTT:=fun ρ Q=>t ρ fun a=>match a with
 | .bl k=>Q k
 | _=>False
theorem M9 {t:DTE} (m:∀ {ρ Q Q'},(∀ d,Q d→Q' d)→t ρ Q→t ρ Q'):∀ {ρ Q Q'},(∀ d,Q d→Q' d)→LC t ρ Q→LC t ρ Q':=fun hq h=>m (fun d h=>by
  split at h
  ·exact hq _ h
  ·exact h.elim) h
theorem Ht (h:DE X e te) (he:∀ whole,isTrue e X.env whole=(do let v ←whole;standAt e.pos;holding [v] (truthy v)):=by intro _;rfl):DT X e (LC te) where
 mono:=M9 (t:=te) h.mono
 pt:=(AfW h.pe he).imp fun σ H Q ⟨B,F,O,ρ,R,q⟩=>⟨B,F,O,ρ,R,h.mono (fun d q v H1 s1 r1=>by
  split at q
  ·exact ⟨_,Eb.mp r1,q H1 s1⟩
  ·exact q.elim) q⟩
theorem PL {op:CmpOp} {r:R2} {t:D2} (ho:OpR X (compareOp op) r) (S:Jw X.K r t) (ha:DE X a ta) (hb:DE X b tb) (hm:behindInMarks op b=false):DT X (.Compare a [op] [b] pos) (LC (dOp t ta tb)) where
 mono:=M9 (t:=dOp t ta tb) (JG (t:=t) (ta:=ta) (tb:=tb) S.mono ha.mono hb.mono)
 pt:=(YK ho ha.pe hb.pe hm).imp fun σ H Q ⟨B,F,O,ρ,R,q⟩=>T6 (ta:=ta) (tb:=tb) S ha.mono hb.mono σ H _ ⟨B,F,O,ρ,R,JG (t:=t) (ta:=ta) (tb:=tb) S.mono ha.mono hb.mono (fun d q v H1 s1 r1=>by
  split at q
  ·exact ⟨_,Eb.mp r1,q H1 s1⟩
  ·exact q.elim) q⟩
theorem NT (ha:DE X a ta) (hb:DE X b tb):DT X (.Compare a [.Lt] [b] pos) (LC (dOp dLt ta tb)):=PL AbM Hl ha hb (JX _)
theorem NK (ha:DE X a ta) (hb:DE X b tb):DT X (.Compare a [.Gt] [b] pos) (LC (dOp dGt ta tb)):=PL Aku Hl ha hb (JX _)
theorem Aj7 (ha:DE X a ta) (hb:DE X b tb):DT X (.Compare a [.GtE] [b] pos) (LC (dOp dGe ta tb)):=PL AeJ Hl ha hb (JX _)
noncomputable def AeH (t:DTT):DTT:=fun ρ Q=>t ρ fun k=>Q (!k)
noncomputable def AaL (t u:DTT):DTT:=fun ρ Q=>t ρ fun k=>if k=true then u ρ Q else Q false
noncomputable def AgM (t u:DTT):DTT:=fun ρ Q=>t ρ fun k=>if k=true then Q true else u ρ Q
theorem K5 (ha:DT X a tA):DT X (.UnaryOp .Not a pos) (AeH tA) where
 mono:=fun hq h=>ha.mono (fun _ h=>hq _ h) h
 pt:=(Ag6 ha.pt).imp fun σ H Q ⟨B,F,O,ρ,R,q⟩=>⟨B,F,O,ρ,R,q⟩
structure DW (X:Cx) (e:Expr) (t:DTT):Prop where
 mono:∀ {ρ Q Q'},(∀ d,Q d→Q' d)→t ρ Q→t ρ Q'
 pw:PW X e (lT X.K t)
theorem DW.dt {t:DTT} (h:DW X e t):DT X e t:=⟨h.mono,h.pw.pt⟩
theorem SJ (ha:DT X a tA):DW X (.BoolOp .And [a] pos) tA:=⟨ha.mono,AdT ha.pt⟩
theorem Qg (ha:DT X a tA):DW X (.BoolOp .Or [a] pos) tA:=⟨ha.mono,Ahq ha.pt⟩
theorem PW.imp {t t':TT} (h:PW X e t) (i:∀ σ H Q,t' σ H Q→t σ H Q):PW X e t':=fun wh pins s σ H Q I q=>h wh pins s σ H Q I (i _ _ _ q)
theorem XQ {rest:List Expr} (ha:DT X a tA) (hb:DW X (.BoolOp .And (b :: rest) pos) tB):DW X (.BoolOp .And (a :: b :: rest) pos) (AaL tA tB) where
 mono:=fun hq h=>ha.mono (fun k h=>by
  cases k with
  | true=>exact hb.mono hq h
  | false=>exact hq _ h) h
 pw:=(Af1 ha.pt hb.pw).imp fun σ H Q ⟨B,F,O,ρ,R,q⟩=>⟨B,F,O,ρ,R,ha.mono (fun k h H1 s1=>by
  cases k with
  | true=>exact ⟨B,F,O,ρ,R.same s1,hb.mono (fun k q H2 s2=>q H2 (s1.trans s2)) h⟩
  | false=>exact h H1 s1) q⟩
theorem RQ {rest:List Expr} (ha:DT X a tA) (hb:DW X (.BoolOp .Or (b :: rest) pos) tB):DW X (.BoolOp .Or (a :: b :: rest) pos) (AgM tA tB) where
 mono:=fun hq h=>ha.mono (fun k h=>by
  cases k with
  | true=>exact hq _ h
  | false=>exact hb.mono hq h) h
 pw:=(AhI ha.pt hb.pw).imp fun σ H Q ⟨B,F,O,ρ,R,q⟩=>⟨B,F,O,ρ,R,ha.mono (fun k h H1 s1=>by
  cases k with
  | false=>exact ⟨B,F,O,ρ,R.same s1,hb.mono (fun k q H2 s2=>q H2 (s1.trans s2)) h⟩
  | true=>exact h H1 s1) q⟩
noncomputable def Anl (t:DTT) (ta tb:DTE):DTE:=fun ρ Q=>t ρ fun k=>if k=true then ta ρ Q else tb ρ Q
noncomputable def Aab:DTA:=fun _ Q=>Q []
noncomputable def YJ (te:DTE) (tl:DTA):DTA:=fun ρ Q=>te ρ fun d=>tl ρ fun ds=>Q (d :: ds)
theorem Af:DA X [] Aab:=⟨fun hq h=>hq _ h,S7.imp fun σ H Q ⟨B,F,O,ρ,R,q⟩=>q [] H (Same.refl H) RpL.nil⟩
theorem Aa (ha:DE X e te) (hr:DA X es tl) (hs:starEach (e :: es) X.env=(false,eval e X.env) :: starEach es X.env:=by rfl):DA X (e :: es) (YJ te tl) where
 mono:=fun hq h=>ha.mono (fun d h=>hr.mono (fun ds h=>hq _ h) h) h
 pa:=(Kh ha.pe hr.pa hs).imp fun σ H Q ⟨B,F,O,ρ,R,q⟩=>⟨B,F,O,ρ,R,ha.mono (fun d h v H1 s1 r1=>⟨B,F,O,ρ,R.same s1,hr.mono (fun ds h vs H2 s2 r2 =>
  h (v :: vs) H2 (s1.trans s2) (RpL.cons (r1.mono s2.mask) r2)) h⟩) q⟩
noncomputable def dTup (tl:DTA):DTE:=fun ρ Q=>tl ρ fun ds=>ds.length≤sizeLine∧Q (.tup ds)
noncomputable def AjG (tl:DTA):DTE:=fun ρ Q=>tl ρ fun ds=>ds.length≤sizeLine∧Q (.lst ds)
theorem Mj {O:List Addr} {H:Hp} {p:Addr} {o:HO} (hp:p∉O):mask O (upd H p o) p=some o:=by rw [Bd hp,Bl]
theorem BK {k} (h:DA X es tl):DE X (.Tuple es k pos) (dTup tl) where
 mono:=fun hq z=>h.mono (fun ds q=>⟨q.1,hq _ q.2⟩) z
 pe:=(Af5 h.pa).imp fun σ H Q ⟨B,F,O,ρ,R,q⟩=>⟨B,F,O,ρ,R,h.mono (fun ds z vs H1 s1 r1=>⟨by rw [r1.len];exact z.1,fun p hp=>by
  have np:p∉F ++ O:=fun m=>(R.same s1).th p m hp
  exact z.2 (.ref p) _ (s1.trans (Same.upd hp)) (CP.mpr ⟨p,vs,rfl,SqT.of (Mj np),r1.mono (Same.upd hp).mask⟩)⟩) q⟩
theorem Tt (h:DA X es tl):DE X (.List es pos) (AjG tl) where
 mono:=fun hq z=>h.mono (fun ds q=>⟨q.1,hq _ q.2⟩) z
 pe:=(AbV h.pa).imp fun σ H Q ⟨B,F,O,ρ,R,q⟩=>⟨B,F,O,ρ,R,h.mono (fun ds z vs H1 s1 r1=>⟨by rw [r1.len];exact z.1,fun p hp=>by
  have np:p∉F ++ O:=fun m=>(R.same s1).th p m hp
  exact z.2 (.ref p) _ (s1.trans (Same.upd hp)) (Ka ⟨p,vs,rfl,(Mj np),r1.mono (Same.upd hp).mask⟩)⟩) q⟩
noncomputable abbrev DSp:=List Dt→(Dt→Prop)→Prop
noncomputable def lSp (K:PySem.W.Frag) (sp:DSp):Sp:=fun vs H Q _=>∃ F ds,(∀ a∈F,H a≠none)∧RpL K (mask F H) ds vs∧sp ds fun d=>∀ v H',Same H H'→Rp K (mask F H') d v→Q v H'
noncomputable def Hy (sp:DSp):Prop:=∀ ds Q Q',(∀ d,Q d→Q' d)→sp ds Q→sp ds Q'
noncomputable def dCall (sp:DSp) (tl:DTA):DTE:=fun ρ Q=>tl ρ fun ds=>sp ds Q
theorem Adb {CX:CXT} {k:Nat} {f:Addr} {fd:FuncData} {ps:List Str} {sp:DSp} {x:Str} {p:Pos} (m:Hy sp) (G:HN X.prog X.w X.K X.mg X.base CX0 k f fd ps (lSp X.K sp)) (hr:Ez k X.A) (hg:Gl X x) (hm:X.mg x=some (.ref f))
  (hk:PySem.W.keepIn X.K (.ref f)=true) (hb:Binds X.K fd ps []) (ha:DA X (e :: es) tl) (hdb:(x == ("__debug__":Str))=false:=by decide)
  (he:starEach (e :: es) X.env=(false,eval e X.env) :: starEach es X.env:=by rfl) (hpl:(backTo pos (starEach es X.env)).any (·.1)=false:=by rfl):DE X (.Call (.Name x p) (e :: es) [] pos) (dCall sp tl) where
 mono:=fun hq z=>ha.mono (fun ds q=>m _ _ _ hq q) z
 pe:=(Adg G hr hg hm hk hb .nil U8 ha.pa hdb he hpl).imp fun σ H Q ⟨B,F,O,ρ,R,q⟩=>⟨B,F,O,ρ,R,ha.mono (fun ds z vs H1 s1 r1=>by
  show lSp X.K sp (vs ++ []) H1 Q E0
  rw [List.append_nil]
  exact ⟨F ++ O,ds,(R.same s1).th,r1,m _ _ _ (fun d q v H2 s2 r2=>q v H2 (s1.trans s2) r2) z⟩) q⟩
variable {st:Stmt} {sts:List Stmt} {t u:DTS}
noncomputable def AeD:DTS:=fun D ρ=>D.nx ρ
noncomputable def AjB (t u:DTS):DTS:=fun D ρ=>t { D with nx:=u D } ρ
theorem Akl {D D':GQ} {P P':BX→Prop} (h:GQ.le D D') (hp:∀ ρ,P ρ→P' ρ):GQ.le { D with nx:=P } { D' with nx:=P' }:=⟨hp,h.rt,h.bk,h.ct⟩
theorem le_refl {D:GQ}:GQ.le D D:=⟨fun _ h=>h,fun _ h=>h,fun _ h=>h,fun _ h=>h⟩
theorem Bg:DSs X [] AeD:=⟨fun hd h=>hd.nx _ h,Ade.imp fun D σ H ⟨B,F,O,ρ,R,h⟩=>h O σ H R⟩
theorem Ae (h1:DS X st t) (h2:DSs X sts u):DSs X (st :: sts) (AjB t u) where
 mono:=fun hd h=>h1.mono (Akl hd fun ρ q=>h2.mono hd q) h
 ps:=(Pn h1.ps h2.ps).imp fun D σ H ⟨B,F,O,ρ,R,h⟩=>⟨B,F,O,ρ,R,h1.mono (D:={ lD X.K B F D with nx:=u (lD X.K B F D) }) ⟨fun ρ' q O' σ' H' R'=>⟨B,F,O',ρ',R',q⟩,fun _ q=>q,fun _ q=>q,fun _ q=>q⟩ h⟩
theorem Ah (h1:DS X st t):DSs X [st] t:=⟨h1.mono,Sy h1.ps⟩
noncomputable def Aav:DTS:=fun _ _=>False
theorem FW:DS X st Aav:=⟨fun _ h=>h.elim,AbZ.imp fun D σ H ⟨B,F,O,ρ,R,h⟩=>h.elim⟩
noncomputable def Ae5 (te:DTE):DTS:=fun D ρ=>te ρ fun _=>D.nx ρ
theorem CK (he:DE X e te) (hs:swapsWith e none pos.line X.env=pure false:=by rfl):DS X (.Expr e pos) (Ae5 te) where
 mono:=fun hd h=>he.mono (fun _ h=>hd.nx _ h) h
 ps:=(Um he.pe hs).imp fun D σ H ⟨B,F,O,ρ,R,h⟩=>⟨B,F,O,ρ,R,he.mono (fun d q v H1 s1 _=>q O σ H1 (R.same s1)) h⟩
noncomputable def Agz (te:DTE):DTS:=fun D ρ=>te ρ D.rt
theorem Abz {F O:List Addr} {H:Hp}:Same (mask (F ++ O) H) (mask F H):=Gz fun _ h=>List.mem_append_left _ h
theorem Aq (he:DE X e te):DS X (.Return (some e) pos) (Agz te) where
 mono:=fun hd h=>he.mono (fun _ h=>hd.rt _ h) h
 ps:=(Ahl he.pe).imp fun D σ H ⟨B,F,O,ρ,R,h⟩=>⟨B,F,O,ρ,R,he.mono (fun d q v H1 s1 r1=>q v H1 (R.base.trans s1) (r1.mono Abz)) h⟩
noncomputable def Aj9:DTS:=fun D _=>D.rt .non
noncomputable def dIf (c:DTT) (t u:DTS):DTS:=fun D ρ=>c ρ fun k=>if k=true then t D ρ else u D ρ
theorem Ci {sa sb:List Stmt} (hc:DT X c tA) (ha:DSs X sa t) (hb:DSs X sb u):DS X (.If c sa sb pos) (dIf tA t u) where
 mono:=fun hd h=>hc.mono (fun k h=>by
  cases k with
  | true=>exact ha.mono hd h
  | false=>exact hb.mono hd h) h
 ps:=(Akz hc.pt ha.ps hb.ps).imp fun D σ H ⟨B,F,O,ρ,R,h⟩=>⟨B,F,O,ρ,R,hc.mono (fun k h H1 s1=>by
  cases k with
  | true=>exact ⟨B,F,O,ρ,R.same s1,h⟩
  | false=>exact ⟨B,F,O,ρ,R.same s1,h⟩) h⟩
noncomputable abbrev DTG:=Dt→BX→(BX→Prop)→Prop
noncomputable abbrev Tc:=List Dt→BX→(BX→Prop)→Prop
noncomputable def lG (K:PySem.W.Frag) (g:DTG):TG:=fun v σ H Q=>∃ B F O ρ d,Rep K B F O H σ ρ∧Rp K (mask (F ++ O) H) d v∧g d ρ fun ρ'=>∀ σ',Rep K B F O H σ' ρ'→Q σ' H
noncomputable def lGs (K:PySem.W.Frag) (g:Tc):TGs:=fun vs σ H Q=>∃ B F O ρ ds,Rep K B F O H σ ρ∧RpL K (mask (F ++ O) H) ds vs∧g ds ρ fun ρ'=>∀ σ',Rep K B F O H σ' ρ'→Q σ' H
structure DG (X:Cx) (tg:Expr) (g:DTG):Prop where
 mono:∀ {d ρ Q Q'},(∀ ρ',Q ρ'→Q' ρ')→g d ρ Q→g d ρ Q'
 pg:PG X tg (lG X.K g)
structure DGs (X:Cx) (tgs:List Expr) (g:Tc):Prop where
 mono:∀ {d ρ Q Q'},(∀ ρ',Q ρ'→Q' ρ')→g d ρ Q→g d ρ Q'
 pg:PGs X tgs (lGs X.K g)
theorem PG.imp {e:Expr} {t t':TG} (h:PG X e t) (i:∀ v σ H Q,t' v σ H Q→t v σ H Q):PG X e t':=fun pins s σ H v u Q I r q=>h pins s σ H v u Q I r (i _ _ _ _ q)
theorem PGs.imp {e:List Expr} {t t':TGs} (h:PGs X e t) (i:∀ v σ H Q,t' v σ H Q→t v σ H Q):PGs X e t':=fun pins s σ H v u Q I r q=>h pins s σ H v u Q I r (i _ _ _ _ q)
noncomputable def S8 (i:Nat):DTG:=fun d ρ Q=>Q (ρ.set i (some (.is d)))
theorem Cg (i:Nat) {x:Str} (hN:X.N.Nodup) (hi:X.N[i]? = some x:=by rfl) (hx:Loc X.env.scope x:=by first | exact Or.inl rfl | exact Or.inr rfl)
  (hf:X.fn x=true∨X.env.scope.names.lookup x=some .local:=by first | exact .inl rfl | exact .inr rfl | assumption):DG X (.Name x pos) (S8 i) where
 mono:=fun hq h=>hq _ h
 pg:=(SN hN hi hx hf).imp fun v σ H Q ⟨B,F,O,ρ,d,R,r,h⟩=>h _ (R.set i r)
noncomputable def Yt:Tc:=fun ds ρ Q=>match ds with
 | []=>Q ρ
 | _=>False
noncomputable def Te (g:DTG) (gs:Tc):Tc:=fun ds ρ Q=>match ds with
 | d :: r=>g d ρ fun ρ'=>gs r ρ' Q
 | []=>False
theorem Td:DGs X [] Yt where
 mono:=fun hq h=>by
  unfold Yt at h ⊢
  split at h
  ·exact hq _ h
  ·exact h.elim
 pg:=Ad3.imp fun vs σ H Q ⟨B,F,O,ρ,ds,R,r,h⟩=>by
  unfold Yt at h
  split at h
  ·exact ⟨BP.mp r,h σ R⟩
  ·exact h.elim
theorem DN {g:DTG} {gs:Tc} (h1:DG X e g) (h2:DGs X es gs) (hs:(assignEach (e :: es) X.env).map (·.2)=assign e X.env :: (assignEach es X.env).map (·.2):=by rfl):DGs X (e :: es) (Te g gs) where
 mono:=fun hq h=>by
  unfold Te at h ⊢
  split at h
  ·exact h1.mono (fun ρ' q=>h2.mono hq q) h
  ·exact h.elim
 pg:=(Abg h1.pg h2.pg hs).imp fun vs σ H Q ⟨B,F,O,ρ,ds,R,r,h⟩=>by
  unfold Te at h
  split at h
  ·obtain ⟨v,vr,rfl,r1,r2⟩:=Ay.mp r
   exact ⟨v,vr,rfl,B,F,O,ρ,_,R,r1,h1.mono (fun ρ' q σ' R'=>⟨B,F,O,ρ',_,R',r2,q⟩) h⟩
  ·exact h.elim
noncomputable def YB (n:Nat) (gs:Tc):DTG:=fun d ρ Q=>match d with
 | .tup ds=>ds.length=n∧gs ds ρ Q
 | _=>False
theorem Ww {k:Nat} {gs:Tc} {n:Nat} (hc:X.calm=true) (h:DGs X es gs) (hn:(assignEach es X.env).length=n:=by rfl) (hst:(assignEach es X.env).findIdx? (·.1)=none:=by rfl):DG X (.Tuple es k pos) (YB n gs) where
 mono:=fun hq z=>by
  unfold YB at z ⊢
  split at z
  ·exact ⟨z.1,h.mono hq z.2⟩
  ·exact z.elim
 pg:=(AgV hc h.pg hn hst).imp fun v σ H Q ⟨B,F,O,ρ,d,R,r,z⟩=>by
  unfold YB at z
  split at z
  ·obtain ⟨a,xs,rfl,hs,hl⟩:=CP.mp r
   exact ⟨a,xs,rfl,Bf.seqT hs,by rw [hl.len];exact z.1,B,F,O,ρ,_,R,hl,z.2⟩
  ·exact z.elim
noncomputable def Ady (te:DTE) (g:DTG):DTS:=fun D ρ=>te ρ fun d=>g d ρ D.nx
theorem Xl {tg:Expr} {g:DTG} (he:DE X e te) (hg:DG X tg g) (hs:swapsWithSole [tg] e pos.line X.env=pure false:=by rfl) (hw:swappedStores [tg] e X.env=pure none:=by rfl)
  (h1:(assignEach [tg] X.env).map (·.2)=[assign tg X.env]:=by rfl):DS X (.Assign [tg] e pos) (Ady te g) where
 mono:=fun hd h=>he.mono (fun _ h=>hg.mono (fun _ h=>hd.nx _ h) h) h
 ps:=(Aai he.pe hg.pg hs hw h1).imp fun D σ H ⟨B,F,O,ρ,R,h⟩=>⟨B,F,O,ρ,R,he.mono (fun d q v H1 s1 r1=>⟨B,F,O,ρ,d,R.same s1,r1,hg.mono (fun ρ' q σ' R'=>q O σ' H1 R') q⟩) h⟩
noncomputable def Xz (c:DTT) (tb:DTS):DTS:=fun D ρ=>∃ W:Nat→BX→Prop,(∃ m,W m ρ)∧∀ m ρ,W m ρ →
 c ρ fun k=>if k=true then tb { D with nx:=fun ρ'=>∃ m',m' < m∧W m' ρ',ct:=fun ρ'=>∃ m',m' < m∧W m' ρ',bk:=D.nx } ρ else D.nx ρ
theorem Gf {body:List Stmt} (hp:PassesOwn (model X.prog X.w) X.A X.env X.xe) (hc:DT X c tA) (hb:DSs X body t):DS X (.While c body [] pos) (Xz tA t) where
 mono:=fun {ρ D D'} hd ⟨W,h0,h⟩=>⟨W,h0,fun m ρ w=>hc.mono (fun k h=>by
  cases k with
  | true=>exact hb.mono (D:={ D with nx:=fun ρ'=>∃ m',m' < m∧W m' ρ',ct:=fun ρ'=>∃ m',m' < m∧W m' ρ',bk:=D.nx }) ⟨fun _ q=>q,hd.rt,hd.nx,fun _ q=>q⟩ h
  | false=>exact hd.nx _ h) (h m ρ w)⟩
 ps:=(AbF hp hc.pt hb.ps).imp fun D σ H ⟨B,F,O,ρ,R,W,⟨m0,w0⟩,h⟩=>by
  refine ⟨fun m σ H=>∃ O ρ,Rep X.K B F O H σ ρ∧W m ρ,⟨m0,O,ρ,R,w0⟩,?_⟩
  rintro m σ H ⟨O,ρ,R,w⟩
  refine ⟨B,F,O,ρ,R,hc.mono (fun k h H1 s1=>?_) (h m ρ w)⟩
  cases k with
  | true =>
   refine ⟨fun σ' H'=>∃ m',m' < m∧∃ O ρ,Rep X.K B F O H' σ' ρ∧W m' ρ,fun σ' H' ⟨m',l,q⟩=>⟨m',l,q⟩,B,F,O,ρ,R.same s1,hb.mono (D:={ lD X.K B F D with nx:=fun ρ'=>∃ m',m' < m∧W m' ρ',ct:=fun ρ'=>∃ m',m' < m∧W m' ρ',bk:=(lD X.K B F D).nx }) ⟨?_,fun _ q=>q,fun _ q=>q,?_⟩ h⟩
   ·rintro ρ' ⟨m',l,w'⟩ O' σ' H' R'
    exact ⟨m',l,O',ρ',R',w'⟩
   ·rintro ρ' ⟨m',l,w'⟩ O' σ' H' R'
    exact ⟨m',l,O',ρ',R',w'⟩
  | false=>exact h O σ H1 (R.same s1)
noncomputable def ItD (K:PySem.W.Frag) (M:Hp) (J:It) (items:List Dt):Prop:=∀ H,Same M H →
 (∀ (k:Nat) d,items[k]? = some d→J.go k H∧∀ x H',J.yld k H x H'→H'=H∧Rp K M d x)∧J.stop items.length H
noncomputable abbrev DTI:=BX→(List Dt→Prop)→Prop
noncomputable def lI (K:PySem.W.Frag) (ti:DTI):TI:=fun σ H R=>∃ B F O ρ,Rep K B F O H σ ρ∧ti ρ fun items=>∀ J H',Same H H'→ItD K (mask (F ++ O) H') J items→R J H'
structure DI (X:Cx) (tg iter:Expr) (ti:DTI):Prop where
 mono:∀ {ρ Q Q'},(∀ d,Q d→Q' d)→ti ρ Q→ti ρ Q'
 pi:PI X tg iter (lI X.K ti)
theorem PI.imp {tg e:Expr} {t t':TI} (h:PI X tg e t) (i:∀ σ H Q,t' σ H Q→t σ H Q):PI X tg e t':=fun pins s σ H R I q=>h pins s σ H R I (i _ _ _ q)
noncomputable def Aci (ti:DTI) (g:DTG) (tb:DTS):DTS:=fun D ρ=>ti ρ fun items=>∃ W:Nat→BX→Prop,W 0 ρ ∧
 (∀ (k:Nat) d ρ',items[k]? = some d→W k ρ'→g d ρ' fun ρ2=>tb { D with nx:=W (k+1),ct:=W (k+1),bk:=D.nx } ρ2)∧∀ ρ',W items.length ρ'→D.nx ρ'
theorem Rep.rebase {K:PySem.W.Frag} {B:Hp} {F O:List Addr} {H:Hp} {σ:St} {ρ:BX} (r:Rep K B F O H σ ρ):Rep K (mask O H) F O H σ ρ :=
 ⟨r.len,Bf,fun _ h=>Dw h,r.th,r.is,r.own,r.inj,r.tab,r.tinj⟩
theorem Rep.unbase {K:PySem.W.Frag} {B B':Hp} {F O O':List Addr} {H H':Hp} {σ σ':St} {ρ ρ':BX} (r:Rep K B F O H σ ρ) (r':Rep K (mask O H) F O' H' σ' ρ'):Rep K B F O' H' σ' ρ':=by
 have s:Same B (mask O H):=fun a o e=>by
  rw [Bd]
  ·exact r.base a o e
  ·intro z;rw [r.fr a z] at e;cases e
 refine ⟨r'.len,s.trans r'.base,fun a h=>?_,r'.th,r'.is,r'.own,r'.inj,r'.tab,r'.tinj⟩
 cases q:B a with
 | none=>rfl
 | some o=>have:=s a o q;rw [r'.fr a h] at this;cases this
theorem Rep.sub {K:PySem.W.Frag} {B:Hp} {F O:List Addr} {H:Hp} {σ:St} {ρ:BX} (r:Rep K B F O H σ ρ):Same B (mask O H):=fun a o e=>by
 rw [Bd]
 ·exact r.base a o e
 ·intro z;rw [r.fr a z] at e;cases e
theorem Zh {F O:List Addr} {H:Hp}:mask F (mask O H)=mask (F ++ O) H:=by
 funext a
 by_cases h1:a∈F
 ·rw [Dw h1,Dw (List.mem_append_left _ h1)]
 ·rw [Bd h1]
  by_cases h2:a∈O
  ·rw [Dw h2,Dw (List.mem_append_right _ h2)]
  ·rw [Bd h2,Bd fun z=>(List.mem_append.mp z).elim h1 h2]
theorem JQ {tg iter:Expr} {body:List Stmt} {ti:DTI} {g:DTG} (hp:PassesOwn (model X.prog X.w) X.A X.env X.xe) (hc:X.calm=true) (hi:DI X tg iter ti) (hg:DG X tg g) (hb:DSs X body t)
  (hs:∀ x,foldedSetIterable iter X.env x=pure x:=by intro _;rfl):DS X (.For tg iter body [] pos) (Aci ti g t) where
 mono:=fun {ρ D D'} hd h=>hi.mono (fun items ⟨W,h0,h,he⟩=>⟨W,h0,fun k d ρ' e w=>hg.mono (fun ρ2 q=>hb.mono (D:={ D with nx:=W (k+1),ct:=W (k+1),bk:=D.nx }) ⟨fun _ q=>q,hd.rt,hd.nx,fun _ q=>q⟩ q) (h k d ρ' e w),fun ρ' w=>hd.nx _ (he ρ' w)⟩) h
 ps:=(Agl hp hc hi.pi hg.pg hb.ps hs).imp fun D σ H ⟨B,F,O,ρ,R,h⟩=>by
  refine ⟨B,F,O,ρ,R,hi.mono (fun items z J H1 s1 it=>?_) h⟩
  obtain ⟨W,h0,h,he⟩:=z
  have R1:=R.same s1
  refine ⟨fun i m σ H=>m+i=items.length∧∃ O' ρ',Rep X.K (mask O H1) F O' H σ ρ'∧W i ρ',⟨items.length,by omega,O,ρ,R1.rebase,h0⟩,?_⟩
  rintro i m σ2 H2 ⟨hm,O',ρ',R2,w⟩
  have sb:Same (mask (F ++ O) H1) H2:=fun a o e=>R2.base a o (by
   obtain ⟨q,e⟩:=CQ e
   rw [Bd fun z=>q (List.mem_append_right _ z)];exact e)
  obtain ⟨go,stop⟩:=it H2 sb
  by_cases hlt:i < items.length
  ·refine .inr ⟨(go i items[i] (by simp [hlt])).1,fun σ' H'=>∃ O' ρ',Rep X.K (mask O H1) F O' H' σ' ρ'∧W (i+1) ρ',fun σ' H' q=>⟨m - 1,by omega,by omega,q⟩,fun x H3 y=>?_⟩
   obtain ⟨e,r⟩:=(go i items[i] (by simp [hlt])).2 x H3 y
   subst e
   have r':Rp X.K (mask (F ++ O') H3) items[i] x:=r.mono (by rw [←Zh];exact R2.below)
   refine ⟨_,F,O',ρ',_,R2,r',hg.mono (fun ρ2 q σ3 R3=>⟨_,F,O',ρ2,R3,hb.mono (D:={ lD X.K B F D with nx:=W (i+1),ct:=W (i+1),bk:=(lD X.K B F D).nx }) ⟨?_,?_,?_,?_⟩ q⟩) (h i _ ρ' (by simp [hlt]) w)⟩
   ·exact fun ρ4 w4 O4 σ4 H4 R4=>⟨O4,ρ4,R4,w4⟩
   ·exact fun d q v H4 s4 r4=>q v H4 (R1.sub.trans s4) r4
   ·exact fun ρ4 q O4 σ4 H4 R4=>q O4 σ4 H4 (R1.unbase (B':=B) R4)
   ·exact fun ρ4 w4 O4 σ4 H4 R4=>⟨O4,ρ4,R4,w4⟩
  ·have e:i=items.length:=by omega
   subst e
   exact .inl ⟨stop,he ρ' w O' σ2 H2 (R1.unbase (B':=B) R2)⟩
noncomputable def Afx (te:DTE):DTI:=fun ρ Q=>te ρ fun d=>match d with
 | .lst ds=>Q ds
 | _=>False
noncomputable def AeR (te:DTE):DTI:=fun ρ Q=>te ρ fun d=>match d with
 | .tup ds=>Q ds
 | _=>False
theorem Jj {tg:Expr} (h:DE X e te):DI X tg e (Afx te) where
 mono:=fun hq z=>h.mono (fun d z=>by
  split at z
  ·exact hq _ z
  ·exact z.elim) z
 pi:=(Aeh h.pe).imp fun σ H Q ⟨B,F,O,ρ,R,z⟩=>⟨B,F,O,ρ,R,h.mono (fun d z v H1 s1 r1=>by
  split at z
  ·obtain ⟨a,xs,rfl,hs,hl⟩:=FP r1
   refine ⟨a,rfl,⟨xs,Bf.seq hs⟩,z _ H1 s1 fun H2 s2=>⟨fun k d e=>?_,xs,s2.seq hs,by rw [hl.len];exact Nat.le_refl _⟩⟩
   obtain ⟨x,e1,e2⟩:=hl.get e
   refine ⟨⟨xs,x,s2.seq hs,e1⟩,fun y H3 ⟨e3,e4⟩=>⟨e3,?_⟩⟩
   have e5:=e4 xs (s2.seq hs)
   rw [e1] at e5;cases e5;exact e2
  ·exact z.elim) z⟩
theorem Ahh {tg:Expr} (h:DE X e te):DI X tg e (AeR te) where
 mono:=fun hq z=>h.mono (fun d z=>by
  split at z
  ·exact hq _ z
  ·exact z.elim) z
 pi:=(AgN h.pe).imp fun σ H Q ⟨B,F,O,ρ,R,z⟩=>⟨B,F,O,ρ,R,h.mono (fun d z v H1 s1 r1=>by
  split at z
  ·obtain ⟨a,xs,rfl,hs,hl⟩:=CP.mp r1
   refine ⟨a,rfl,⟨xs,Bf.seqT hs⟩,z _ H1 s1 fun H2 s2=>⟨fun k d e=>?_,xs,s2.seqT hs,by rw [hl.len];exact Nat.le_refl _⟩⟩
   obtain ⟨x,e1,e2⟩:=hl.get e
   refine ⟨⟨xs,x,s2.seqT hs,e1⟩,fun y H3 ⟨e3,e4⟩=>⟨e3,?_⟩⟩
   have e5:=e4 xs (s2.seqT hs)
   rw [e1] at e5;cases e5;exact e2
  ·exact z.elim) z⟩
noncomputable def ups (lo:Int) (n:Nat):List Dt:=(List.range n).map fun i=>.int (lo+(i:Nat))
theorem Oi {lo:Int} {n:Nat}:(ups lo n).length=n:=by simp [ups]
theorem Oj {lo:Int} {n k:Nat} {d:Dt} (h:(ups lo n)[k]? = some d):k < n∧d=.int (lo+(k:Nat)):=by
 unfold ups at h
 rw [List.getElem?_map] at h
 by_cases hk:k < n
 ·rw [List.getElem?_range hk] at h
  exact ⟨hk,(Option.some.inj h).symm⟩
 ·rw [List.getElem?_eq_none (by simpa using hk)] at h;cases h
theorem RZ {K:PySem.W.Frag} {M:Hp} {lo:Int} {n:Nat}:ItD K M (Itr lo n) (ups lo n):=fun H _=>by
 refine ⟨fun k d e=>?_,?_⟩
 ·obtain ⟨hk,rfl⟩:=Oj e
  exact ⟨hk,fun x H' y=>⟨y.1,Bc.mpr y.2⟩⟩
 ·rw [Oi];exact Nat.le_refl n
noncomputable def Aa5 (tl:DTA):DTI:=fun ρ Q=>tl ρ fun ds=>match ds with
 | [.int j]=>(-(2 ^ 62)≤j∧j < 2 ^ 62)∧Q (ups 0 j.toNat)
 | _=>False
noncomputable def Abx (tl:DTA):DTI:=fun ρ Q=>tl ρ fun ds=>match ds with
 | [.int i,.int j]=>(-(2 ^ 62)≤i∧i < 2 ^ 62∧-(2 ^ 62)≤j∧j < 2 ^ 62)∧Q (ups i (j - i).toNat)
 | _=>False
theorem Acu {tg:Expr} {p:Pos} (hg:Gl X "range") (hm:X.mg "range"=none) (ha:DA X [a] tl) (hs:starEach [a] X.env=[(false,eval a X.env)]:=by rfl):DI X tg (.Call (.Name "range" p) [a] [] pos) (Aa5 tl) where
 mono:=fun hq z=>ha.mono (fun d z=>by
  split at z
  ·exact ⟨z.1,hq _ z.2⟩
  ·exact z.elim) z
 pi:=(ZR hg hm ha.pa hs).imp fun σ H Q ⟨B,F,O,ρ,R,z⟩=>⟨B,F,O,ρ,R,ha.mono (fun d z vs H1 s1 r1=>by
  split at z
  ·obtain ⟨v,r,rfl,r2,r3⟩:=Ay.mp r1
   rw [BP.mp r3,Bc.mp r2]
   exact ⟨_,rfl,z.1.1,z.1.2,z.2 _ H1 s1 RZ⟩
  ·exact z.elim) z⟩
theorem Yk {tg:Expr} {p:Pos} (hg:Gl X "range") (hm:X.mg "range"=none) (ha:DA X [a,b] tl) (hs:starEach [a,b] X.env=[(false,eval a X.env),(false,eval b X.env)]:=by rfl) (hs2:starEach [b] X.env=[(false,eval b X.env)]:=by rfl) :
  DI X tg (.Call (.Name "range" p) [a,b] [] pos) (Abx tl) where
 mono:=fun hq z=>ha.mono (fun d z=>by
  split at z
  ·exact ⟨z.1,hq _ z.2⟩
  ·exact z.elim) z
 pi:=(Z2 hg hm ha.pa hs hs2).imp fun σ H Q ⟨B,F,O,ρ,R,z⟩=>⟨B,F,O,ρ,R,ha.mono (fun d z vs H1 s1 r1=>by
  split at z
  ·obtain ⟨v,r,rfl,r2,r3⟩:=Ay.mp r1
   obtain ⟨v',r',rfl,r4,r5⟩:=Ay.mp r3
   rw [BP.mp r5,Bc.mp r2,Bc.mp r4]
   exact ⟨_,_,rfl,z.1,z.2 _ H1 s1 RZ⟩
  ·exact z.elim) z⟩
end
noncomputable def Fx (N:List Str) (ds:List Dt):BX:=ds.map (fun d=>some (.is d)) ++ List.replicate (N.length - ds.length) none
theorem Zf {K:PySem.W.Frag} {F:List Addr} {H:Hp} {N:List Str} {ds:List Dt} {vs:List V} (hF:∀ a∈F,H a≠none) (r:RpL K (mask F H) ds vs):Rep K H F [] H (start N vs) (Fx N ds):=by
 have hl:=r.len
 have noown:∀ (i:Nat) (es:En),(∀ z,es≠.is z)→(Fx N ds)[i]? = some (some es)→False:=fun i es nz e=>by
  unfold Fx at e
  by_cases hi:i < ds.length
  ·rw [List.getElem?_append_left (by simpa using hi),List.getElem?_map] at e
   cases q:ds[i]? with
   | none=>rw [q] at e;cases e
   | some d=>rw [q] at e;cases e;exact nz d rfl
  ·rw [List.getElem?_append_right (by simpa using hi),List.getElem?_replicate] at e
   split at e <;> cases e
 refine ⟨?_,Same.refl H,fun a h=>(nomatch h),fun a h=>hF a (by simpa using h),fun i d e=>?_,fun i es e=>(noown i _ (fun _ z=>by cases z) e).elim,fun i j es es' a h1=>(noown i _ (fun _ z=>by cases z) h1).elim,fun i es e=>(noown i _ (fun _ z=>by cases z) e).elim,fun i j es es' a h1=>(noown i _ (fun _ z=>by cases z) h1).elim⟩
 ·unfold start Fx;simp [hl]
 ·unfold Fx at e
  by_cases hi:i < ds.length
  ·rw [List.getElem?_append_left (by simpa using hi),List.getElem?_map] at e
   cases q:ds[i]? with
   | none=>rw [q] at e;cases e
   | some d' =>
    rw [q] at e;cases e
    obtain ⟨v,e1,e2⟩:=r.get q
    refine ⟨v,?_,by rw [List.append_nil];exact e2⟩
    unfold start
    rw [List.getElem?_append_left (by simp;omega),List.getElem?_map,e1];rfl
  ·rw [List.getElem?_append_right (by simpa using hi),List.getElem?_replicate] at e
   split at e <;> cases e
section
variable {P:Program} {w:World} {K:PySem.W.Frag} {mg:Str→Option Value} {base:Heap}
theorem Fun.okD {x qual:Str} {st:Stmt} {f:Addr} {fd:FuncData} {N ps:List Str} {k:Nat} {sp:DSp} (F:Fun K x qual st f fd) (S:Al N ps (Ai st)) (len:∀ ds Q,sp ds Q→ds.length=ps.length)
  (hbody:∀ (cdv:Value) (A:Around) (outer:List Env) (s:Shared) (H:Hp) (E:XK),Ez k (A.deeper (envOfC qual (Ai st) s.heap.objs.size f cdv)) →
   ∃ t,DSs (Wu CX0 P w K mg base N qual (Ai st) f cdv A outer s H E).nox (Dz st) t∧∀ ds Q,sp ds Q→t { nx:=fun _=>Q .non,rt:=Q } (Fx N ds)):HN P w K mg base CX0 (k+1) f fd ps (lSp K sp):=by
 refine F.ok S (fun vs H Q E ⟨F,ds,_,r,h⟩=>by rw [r.len];exact len _ _ h) fun cdv A outer s H vs Q E hr ⟨F',ds,hF,r,h⟩=>?_
 obtain ⟨t,T,q⟩:=hbody cdv A outer s H E hr
 refine ⟨_,T.ps,H,F',[],Fx N ds,Zf hF r,T.mono (D:={ nx:=fun _=>∀ v H',Same H H'→Rp K (mask F' H') .non v→Q v H',rt:=fun d=>∀ v H',Same H H'→Rp K (mask F' H') d v→Q v H' }) ⟨?_,?_,fun _ z=>False.elim z,fun _ z=>False.elim z⟩ (q ds _ h)⟩
 ·exact fun ρ z O' σ' H' R'=>z .non H' R'.base (Tq.mpr rfl)
 ·exact fun d z v H' s' r'=>z v H' s' r'
end
end L2
namespace L2
open PySem PySem.Spec PyProof.Rows PySem.SeqAt
structure FnT (K:PySem.W.Frag) (mg:Str→Option Value) (x:Str) (st:Stmt) (ps:List Str) (f:Addr) (fd:FuncData):Prop where
 fn:Fun K x x st f fd
 mg:mg x=some (.ref f)
 bd:Binds K fd ps []
noncomputable def Pm (P:Program) (w:World) (K:PySem.W.Frag) (mg:Str→Option Value) (base:Heap) (k:Nat) (x:Str) (st:Stmt) (ps:List Str) (sp:DSp):Prop :=
 ∃ f fd,FnT K mg x st ps f fd∧HN P w K mg base CX0 k f fd ps (lSp K sp)
theorem Fun.uniq {K:PySem.W.Frag} {x q:Str} {st:Stmt} {f:Addr} {fd fd':FuncData} (a:Fun K x q st f fd) (b:Fun K x q st f fd'):fd=fd':=by
 obtain ⟨oc,od,kV,doc,pm,an,cdv,ct,osl,_,h1,_⟩:=a.ex
 obtain ⟨oc',od',kV',doc',pm',an',cdv',ct',osl',_,h2,_⟩:=b.ex
 rw [h1] at h2
 injection h2 with h2
 injection h2 with _ _ h2 _
 injection h2
noncomputable def spec {τ:Type} (args:τ→List Dt) (pre:τ→Prop) (post:τ→Dt→Prop):DSp:=fun ds Q=>∃ p,ds=args p∧pre p∧∀ d,post p d→Q d
theorem Ad {τ:Type} {args:τ→List Dt} {pre:τ→Prop} {post:τ→Dt→Prop}:Hy (spec args pre post):=fun _ _ _ hq ⟨p,e,h,q⟩=>⟨p,e,h,fun d z=>hq _ (q d z)⟩
noncomputable abbrev Ca {τ:Type} (args:τ→List Dt) (pre:τ→Prop) (val:τ→Dt):DSp:=spec args pre fun p d=>d=val p
noncomputable abbrev T2 (a b:Int):Dt:=.tup [.int a,.int b]
noncomputable abbrev T3 (a b c:Int):Dt:=.tup [.int a,.int b,.int c]
noncomputable abbrev T4 (a b c d:Int):Dt:=.tup [.int a,.int b,.int c,.int d]
noncomputable def Afb:DSp:=spec (fun ns:List Int=>[.lst (ns.map Dt.int)]) (fun ns=>ns.length≤63) fun _ d=>d=.bl true
theorem AaJ {H:Hp}:mask [] H=H:=by funext a;exact Bd (by simp)
theorem Z5 {K:PySem.W.Frag} {H:Hp} {a:Addr} {ns:List Int} {E:XK} (hl:ns.length≤63) (hS:SqL K H a (ns.map V.int)):lSp K Afb [.ref a] H (fun v _=>v=.bl true) E :=
 ⟨[],[.lst (ns.map Dt.int)],fun _ h=>(nomatch h),RpL.cons (AcN (by rw [AaJ];exact hS) (RpL.ints ns)) RpL.nil,ns,rfl,hl,fun d e v H' s r=>by subst e;exact Eb.mp r⟩
section
variable {X:Cx} {a b c e:Expr} {es:List Expr} {ta tb tc te:DTE} {tA tB:DTT} {tl:DTA} {pos:Pos}
theorem Ag {k:Nat} {ps:List Str} {sp:DSp} {x:Str} {stx:Stmt} {p:Pos} (m:Hy sp) (G:Pm X.prog X.w X.K X.mg X.base k x stx ps sp) (hr:Ez k X.A) (hg:Gl X x)
  (ha:DA X (e :: es) tl) (hdb:(x == ("__debug__":Str))=false:=by decide)
  (he:starEach (e :: es) X.env=(false,eval e X.env) :: starEach es X.env:=by rfl) (hpl:(backTo pos (starEach es X.env)).any (·.1)=false:=by rfl):DE X (.Call (.Name x p) (e :: es) [] pos) (dCall sp tl):=by
 obtain ⟨f,fd,F,G⟩:=G
 exact Adb (CX:=CX0) m G hr hg F.mg F.fn.kp F.bd ha hdb he hpl
theorem Ak (i:Nat) {x:Str} {pos':Pos} (hN:X.N.Nodup) (he:DE X e te) (hi:X.N[i]? = some x:=by rfl) (hx:Loc X.env.scope x:=by first | exact Or.inl rfl | exact Or.inr rfl) (hs:swapsWith e (some (.Name x pos')) pos.line X.env=pure false:=by rfl)
  (hf:X.fn x=true∨X.env.scope.names.lookup x=some .local:=by first | exact .inl rfl | exact .inr rfl | assumption):DS X (.Assign [.Name x pos'] e pos) (Ady te (S8 i)) where
 mono:=fun hd h=>he.mono (fun _ h=>hd.nx _ h) h
 ps:=(WK hN hi hx he.pe hs hf).imp fun D σ H ⟨B,F,O,ρ,R,h⟩=>⟨B,F,O,ρ,R,he.mono (fun d q v H1 s1 r1=>q O _ H1 ((R.same s1).set i r1)) h⟩
noncomputable def Ajo (i j:Nat) (tl:DTA):DTS:=fun D ρ=>tl ρ fun ds=>match ds with
 | [d,e]=>D.nx ((ρ.set i (some (.is d))).set j (some (.is e)))
 | _=>False
mutual
noncomputable def Dt.py:Dt→PyData
 | .non=>.none
 | .bl b=>.bool b
 | .int i=>.int i
 | .str x=>.str x
 | .tup ds=>.tuple (Dt.pys ds)
 | .lst ds=>.list (Dt.pys ds)
 | .fn _=>.dict []
 | .exc _ _ _=>.dict []
 | .obj _ _ _=>.dict []
noncomputable def Dt.pys:List Dt→List PyData
 | []=>[]
 | d :: ds=>d.py :: Dt.pys ds
end
mutual
theorem Hz {X:Cx} {pins:List (Addr × Obj)} {σ:St} {H:Hp} {s:Shared} (I:Inv X pins σ H s):∀ {d:Dt} {v:V} {u:Value},d.py.canLay0=true→Rp X.K H d v→RelV v u→∃ as,Reads s.heap u d.py as
 | .non,v,u,_,h,r=>by rw [Tq.mp h] at r;cases (show u=.none from r);exact ⟨_,by rw [Dt.py];exact .none⟩
 | .bl b,v,u,_,h,r=>by rw [Eb.mp h] at r;cases (show u=.bool b from r);exact ⟨_,by rw [Dt.py];exact .bool b⟩
 | .int i,v,u,_,h,r=>by rw [Bc.mp h] at r;obtain ⟨t,rfl⟩:=r;exact ⟨_,by rw [Dt.py];exact .int i t⟩
 | .str x,v,u,_,h,r=>by rw [Tg.mp h] at r;obtain ⟨t,rfl⟩:=r;exact ⟨_,by rw [Dt.py];exact .str x t⟩
 | .fn a,v,u,c,h,r=>by rw [Dt.py] at c;exact (nomatch c)
 | .exc _ _ _,v,u,c,h,r=>by rw [Dt.py] at c;exact (nomatch c)
 | .obj _ _ _,v,u,c,h,r=>by rw [Dt.py] at c;exact (nomatch c)
 | .tup ds,v,u,c,h,r=>by
  obtain ⟨a,xs,rfl,hs,hl⟩:=CP.mp h
  cases (show u=.ref a from r)
  obtain ⟨its,rv,⟨o,h1,h2,n,h3⟩,_⟩:=I.tuple hs
  rw [Dt.py] at c
  obtain ⟨as,ra⟩:=Nj I (ds:=ds) (by simpa [PyData.canLay0] using c) hl rv
  exact ⟨_,by rw [Dt.py];exact .tuple h1 h2 h3 (by simpa using ra)⟩
 | .lst ds,v,u,c,h,r=>by
  obtain ⟨a,xs,rfl,hs,hl⟩:=FP h
  cases (show u=.ref a from r)
  obtain ⟨its,rv,⟨o,n,h1,h2,_,h3⟩,_⟩:=I.list hs
  rw [Dt.py] at c
  obtain ⟨as,ra⟩:=Nj I (ds:=ds) (by simpa [PyData.canLay0] using c) hl rv
  exact ⟨_,by rw [Dt.py];exact .list h1 h2 h3 (by simpa using ra)⟩
theorem Nj {X:Cx} {pins:List (Addr × Obj)} {σ:St} {H:Hp} {s:Shared} (I:Inv X pins σ H s):∀ {ds:List Dt} {vs:List V} {us:List Value},PyData.canLayAll0 (Dt.pys ds)=true→RpL X.K H ds vs→Vals vs us→∃ as,ReadsAll s.heap us (Dt.pys ds) as
 | [],vs,us,_,h,r=>by rw [BP.mp h] at r;cases r;exact ⟨_,by rw [Dt.pys];exact .nil⟩
 | d :: ds,vs,us,c,h,r=>by
  obtain ⟨v,vr,rfl,h1,h2⟩:=Ay.mp h
  rw [Dt.pys] at c
  have c':d.py.canLay0=true∧PyData.canLayAll0 (Dt.pys ds)=true:=by simpa [PyData.canLayAll0] using c
  cases r with
  | cons r1 r2 =>
   obtain ⟨as,ra⟩:=Hz I c'.1 h1 r1
   obtain ⟨bs,rb⟩:=Nj I c'.2 h2 r2
   exact ⟨_,by rw [Dt.pys];exact .cons ra rb⟩
end
mutual
noncomputable def Dt.eq:Dt→Dt→Bool
 | .non,.non=>true
 | .bl a,.bl b=>a == b
 | .bl a,.int j=>(if a then 1 else 0) == j
 | .int i,.bl b=>i == (if b then 1 else 0)
 | .int i,.int j=>decide (i=j)
 | .str x,.str y=>x == y
 | .tup xs,.tup ys=>Dt.eqs xs ys
 | .lst xs,.lst ys=>Dt.eqs xs ys
 | _,_=>false
noncomputable def Dt.eqs:List Dt→List Dt→Bool
 | [],[]=>true
 | x :: xs,y :: ys=>Dt.eq x y && Dt.eqs xs ys
 | _,_=>false
end
mutual
noncomputable def Dt.flat:Nat→Dt→Bool
 | _,.fn _=>false
 | _,.exc _ _ _=>false
 | _,.obj _ _ _=>false
 | _,.str x=>(PyData.str x).canLay0
 | 0,.tup _=>false
 | 0,.lst _=>false
 | n+1,.tup ds=>Dt.flats n ds
 | n+1,.lst ds=>Dt.flats n ds
 | _,_=>true
noncomputable def Dt.flats:Nat→List Dt→Bool
 | _,[]=>true
 | n,d :: ds=>Dt.flat n d && Dt.flats n ds
end
mutual
theorem Ge:∀ (d:Dt) (n:Nat),d.flat n=true→d.py.canLay0=true∧d.py.depth≤n
 | .non,n,h=>by rw [Dt.py];exact ⟨rfl,Nat.zero_le _⟩
 | .bl _,n,h=>by rw [Dt.py];exact ⟨rfl,Nat.zero_le _⟩
 | .int _,n,h=>by rw [Dt.py];exact ⟨rfl,Nat.zero_le _⟩
 | .str _,n,h=>by rw [Dt.py];exact ⟨by simpa [Dt.flat] using h,Nat.zero_le _⟩
 | .fn _,n,h=>by simp [Dt.flat] at h
 | .exc _ _ _,n,h=>by simp [Dt.flat] at h
 | .obj _ _ _,n,h=>by simp [Dt.flat] at h
 | .tup ds,0,h=>by simp [Dt.flat] at h
 | .lst ds,0,h=>by simp [Dt.flat] at h
 | .tup ds,n+1,h=>by
  have:=Mz ds n (by simpa [Dt.flat] using h)
  rw [Dt.py]
  exact ⟨by simpa [PyData.canLay0] using this.1,by simpa [PyData.depth] using this.2⟩
 | .lst ds,n+1,h=>by
  have:=Mz ds n (by simpa [Dt.flat] using h)
  rw [Dt.py]
  exact ⟨by simpa [PyData.canLay0] using this.1,by simpa [PyData.depth] using this.2⟩
theorem Mz:∀ (ds:List Dt) (n:Nat),Dt.flats n ds=true→PyData.canLayAll0 (Dt.pys ds)=true∧PyData.depthAll (Dt.pys ds)≤n
 | [],n,h=>by rw [Dt.pys];exact ⟨rfl,Nat.zero_le _⟩
 | d :: ds,n,h=>by
  have h':d.flat n=true∧Dt.flats n ds=true:=by simpa [Dt.flats] using h
  have h1:=Ge d n h'.1
  have h2:=Mz ds n h'.2
  rw [Dt.pys]
  exact ⟨by simp [PyData.canLayAll0,h1.1,h2.1],by simp only [PyData.depthAll];omega⟩
end
mutual
theorem Qk:∀ (a b:Dt),a.py.canLay0=true→b.py.canLay0=true→PyData.eqv a.py b.py=a.eq b
 | .fn _,b,h,_=>by rw [Dt.py] at h;exact (nomatch h)
 | .exc _ _ _,b,h,_=>by rw [Dt.py] at h;exact (nomatch h)
 | .obj _ _ _,b,h,_=>by rw [Dt.py] at h;exact (nomatch h)
 | a,.fn _,_,h=>by rw [Dt.py] at h;exact (nomatch h)
 | a,.exc _ _ _,_,h=>by rw [Dt.py] at h;exact (nomatch h)
 | a,.obj _ _ _,_,h=>by rw [Dt.py] at h;exact (nomatch h)
 | .non,.non,_,_=>by simp [Dt.py,Dt.eq,PyData.eqv]
 | .non,.bl _,_,_=>by simp [Dt.py,Dt.eq,PyData.eqv]
 | .non,.int _,_,_=>by simp [Dt.py,Dt.eq,PyData.eqv]
 | .non,.str _,_,_=>by simp [Dt.py,Dt.eq,PyData.eqv]
 | .non,.tup _,_,_=>by simp [Dt.py,Dt.eq,PyData.eqv]
 | .non,.lst _,_,_=>by simp [Dt.py,Dt.eq,PyData.eqv]
 | .bl _,.non,_,_=>by simp [Dt.py,Dt.eq,PyData.eqv]
 | .bl _,.bl _,_,_=>by simp [Dt.py,Dt.eq,PyData.eqv]
 | .bl _,.int _,_,_=>by simp [Dt.py,Dt.eq,PyData.eqv]
 | .bl _,.str _,_,_=>by simp [Dt.py,Dt.eq,PyData.eqv]
 | .bl _,.tup _,_,_=>by simp [Dt.py,Dt.eq,PyData.eqv]
 | .bl _,.lst _,_,_=>by simp [Dt.py,Dt.eq,PyData.eqv]
 | .int _,.non,_,_=>by simp [Dt.py,Dt.eq,PyData.eqv]
 | .int _,.bl _,_,_=>by simp [Dt.py,Dt.eq,PyData.eqv]
 | .int i,.int j,_,_=>by
  simp only [Dt.py,Dt.eq,PyData.eqv]
  exact Bool.beq_eq_decide_eq i j
 | .int _,.str _,_,_=>by simp [Dt.py,Dt.eq,PyData.eqv]
 | .int _,.tup _,_,_=>by simp [Dt.py,Dt.eq,PyData.eqv]
 | .int _,.lst _,_,_=>by simp [Dt.py,Dt.eq,PyData.eqv]
 | .str _,.non,_,_=>by simp [Dt.py,Dt.eq,PyData.eqv]
 | .str _,.bl _,_,_=>by simp [Dt.py,Dt.eq,PyData.eqv]
 | .str _,.int _,_,_=>by simp [Dt.py,Dt.eq,PyData.eqv]
 | .str _,.str _,_,_=>by simp [Dt.py,Dt.eq,PyData.eqv]
 | .str _,.tup _,_,_=>by simp [Dt.py,Dt.eq,PyData.eqv]
 | .str _,.lst _,_,_=>by simp [Dt.py,Dt.eq,PyData.eqv]
 | .tup _,.non,_,_=>by simp [Dt.py,Dt.eq,PyData.eqv]
 | .tup _,.bl _,_,_=>by simp [Dt.py,Dt.eq,PyData.eqv]
 | .tup _,.int _,_,_=>by simp [Dt.py,Dt.eq,PyData.eqv]
 | .tup _,.str _,_,_=>by simp [Dt.py,Dt.eq,PyData.eqv]
 | .tup xs,.tup ys,h1,h2=>by
  rw [Dt.py] at h1 h2
  rw [Dt.py,Dt.py,Dt.eq,PyData.eqv]
  exact T9 xs ys (by simpa [PyData.canLay0] using h1) (by simpa [PyData.canLay0] using h2)
 | .tup _,.lst _,_,_=>by simp [Dt.py,Dt.eq,PyData.eqv]
 | .lst _,.non,_,_=>by simp [Dt.py,Dt.eq,PyData.eqv]
 | .lst _,.bl _,_,_=>by simp [Dt.py,Dt.eq,PyData.eqv]
 | .lst _,.int _,_,_=>by simp [Dt.py,Dt.eq,PyData.eqv]
 | .lst _,.str _,_,_=>by simp [Dt.py,Dt.eq,PyData.eqv]
 | .lst _,.tup _,_,_=>by simp [Dt.py,Dt.eq,PyData.eqv]
 | .lst xs,.lst ys,h1,h2=>by
  rw [Dt.py] at h1 h2
  rw [Dt.py,Dt.py,Dt.eq,PyData.eqv]
  exact T9 xs ys (by simpa [PyData.canLay0] using h1) (by simpa [PyData.canLay0] using h2)
theorem T9:∀ (xs ys:List Dt),PyData.canLayAll0 (Dt.pys xs)=true→PyData.canLayAll0 (Dt.pys ys)=true→PyData.eqvAll (Dt.pys xs) (Dt.pys ys)=Dt.eqs xs ys
 | [],[],_,_=>by simp [Dt.pys,Dt.eqs,PyData.eqvAll]
 | [],_ :: _,_,_=>by simp [Dt.pys,Dt.eqs,PyData.eqvAll]
 | _ :: _,[],_,_=>by simp [Dt.pys,Dt.eqs,PyData.eqvAll]
 | x :: xs,y :: ys,h1,h2=>by
  rw [Dt.pys] at h1 h2
  have h1':x.py.canLay0=true∧PyData.canLayAll0 (Dt.pys xs)=true:=by simpa [PyData.canLayAll0] using h1
  have h2':y.py.canLay0=true∧PyData.canLayAll0 (Dt.pys ys)=true:=by simpa [PyData.canLayAll0] using h2
  rw [Dt.pys,Dt.pys,Dt.eqs,PyData.eqvAll,Qk x y h1'.1 h2'.1,T9 xs ys h1'.2 h2'.2]
end
noncomputable def Ad9 (K:PySem.W.Frag) (neg:Bool):R2:=fun x y H Q=>∃ a b,Rp K H a x∧Rp K H b y∧a.flat 8=true∧b.flat 8=true∧Q (.bl (if neg then !a.eq b else a.eq b)) H
theorem AaK (hu:X.A.units+64 < cLine):OpR X (compareOp .Eq) (Ad9 X.K false):=by
 intro pins s σ H x y v u Q I rx ry ⟨a,b,ra,rb,fa,fb,q⟩
 obtain ⟨ca,da⟩:=Ge a 8 fa
 obtain ⟨cb,db⟩:=Ge b 8 fb
 obtain ⟨as,r1⟩:=Hz I ca ra rx
 obtain ⟨bs,r2⟩:=Hz I cb rb ry
 refine rcAt_reads r1 r2 ca cb (by omega) _ _ _ _ ?_
 rw [Qk a b ca cb]
 exact ⟨.bl _,H,I,rfl,q⟩
theorem Aa3 (hu:X.A.units+64 < cLine):OpR X (compareOp .NotEq) (Ad9 X.K true):=by
 intro pins s σ H x y v u Q I rx ry ⟨a,b,ra,rb,fa,fb,q⟩
 obtain ⟨ca,da⟩:=Ge a 8 fa
 obtain ⟨cb,db⟩:=Ge b 8 fb
 obtain ⟨as,r1⟩:=Hz I ca ra rx
 obtain ⟨bs,r2⟩:=Hz I cb rb ry
 refine compareNe_reads r1 r2 ca cb (by omega) ?_
 rw [Qk a b ca cb]
 exact ⟨.bl _,H,I,rfl,q⟩
noncomputable def dEq:D2:=fun a b Q=>(a.flat 8=true∧b.flat 8=true)∧Q (.bl (a.eq b))
noncomputable def dNe:D2:=fun a b Q=>(a.flat 8=true∧b.flat 8=true)∧Q (.bl (!a.eq b))
theorem Ab9 {K:PySem.W.Frag}:Jw K (Ad9 K false) dEq:=⟨fun hq h=>⟨h.1,hq _ h.2⟩,fun O H a b x y Q _ ra rb h=>⟨a,b,ra.mono Bf,rb.mono Bf,h.1.1,h.1.2,h.2 _ H (Same.refl H) (Eb.mpr rfl)⟩⟩
theorem AaA {K:PySem.W.Frag}:Jw K (Ad9 K true) dNe:=⟨fun hq h=>⟨h.1,hq _ h.2⟩,fun O H a b x y Q _ ra rb h=>⟨a,b,ra.mono Bf,rb.mono Bf,h.1.1,h.1.2,h.2 _ H (Same.refl H) (Eb.mpr rfl)⟩⟩
theorem YC (hu:X.A.units+64 < cLine) (ha:DE X a ta) (hb:DE X b tb):DE X (.Compare a [.Eq] [b] pos) (dOp dEq ta tb):=Xc (AaK hu) Ab9 ha hb (JX _)
theorem Afn (hu:X.A.units+64 < cLine) (ha:DE X a ta) (hb:DE X b tb):DE X (.Compare a [.NotEq] [b] pos) (dOp dNe ta tb):=Xc (Aa3 hu) AaA ha hb (JX _)
theorem Jx (hu:X.A.units+64 < cLine) (ha:DE X a ta) (hb:DE X b tb):DT X (.Compare a [.Eq] [b] pos) (LC (dOp dEq ta tb)):=PL (AaK hu) Ab9 ha hb (JX _)
theorem Ie (hu:X.A.units+64 < cLine) (ha:DE X a ta) (hb:DE X b tb):DT X (.Compare a [.NotEq] [b] pos) (LC (dOp dNe ta tb)):=PL (Aa3 hu) AaA ha hb (JX _)
noncomputable def isB (k:Bool):Dt→Bool
 | .bl b=>b == k
 | _=>false
noncomputable def isN:Dt→Bool
 | .non=>true
 | _=>false
noncomputable def dIs (neg:Bool):D2:=fun a b Q=>match b with
 | .bl k=>Q (.bl (if neg then !isB k a else isB k a))
 | .non=>Q (.bl (if neg then !isN a else isN a))
 | _=>False
noncomputable def Ql (t t':D2) (ta tb tc:DTE):DTE:=fun ρ Q=>ta ρ fun a=>tb ρ fun b=>t a b fun z=>match z with
 | .bl k=>if k=true then tc ρ fun c=>t' b c Q else Q (.bl false)
 | _=>False
theorem XD {t t':D2} {ta tb tc:DTE} (m:∀ {a b Q Q'},(∀ d,Q d→Q' d)→t a b Q→t a b Q') (m':∀ {a b Q Q'},(∀ d,Q d→Q' d)→t' a b Q→t' a b Q')
  (ma:∀ {ρ Q Q'},(∀ d,Q d→Q' d)→ta ρ Q→ta ρ Q') (mb:∀ {ρ Q Q'},(∀ d,Q d→Q' d)→tb ρ Q→tb ρ Q') (mc:∀ {ρ Q Q'},(∀ d,Q d→Q' d)→tc ρ Q→tc ρ Q') :
  ∀ {ρ Q Q'},(∀ d,Q d→Q' d)→Ql t t' ta tb tc ρ Q→Ql t t' ta tb tc ρ Q':=fun hq h=>ma (fun _ h=>mb (fun _ h=>m (fun z h=>by
   split at h
   ·rename_i k
    cases k with
    | true=>exact mc (fun _ h=>m' hq h) h
    | false=>exact hq _ h
   ·exact h.elim) h) h) h
theorem Aaa {K:PySem.W.Frag} {r r':R2} {t t':D2} (S:Jw K r t) (S':Jw K r' t') {ta tb tc:DTE} (ma:∀ {ρ Q Q'},(∀ d,Q d→Q' d)→ta ρ Q→ta ρ Q') (mb:∀ {ρ Q Q'},(∀ d,Q d→Q' d)→tb ρ Q→tb ρ Q') (mc:∀ {ρ Q Q'},(∀ d,Q d→Q' d)→tc ρ Q→tc ρ Q')
  (σ:St) (H:Hp) (Q:VK) (h:lE K (Ql t t' ta tb tc) σ H Q):Aau r r' (lE K ta) (lE K tb) (lE K tc) σ H Q:=by
 obtain ⟨B,F,O,ρ,R,h⟩:=h
 refine ⟨B,F,O,ρ,R,ma (fun a h v H1 s1 r1=>⟨B,F,O,ρ,R.same s1,mb (fun b h u H2 s2 r2=>?_) h⟩) h⟩
 refine S.ok _ H2 a b v u _ ((R.same s1).same s2).th (r1.mono s2.mask) r2 (S.mono (fun z h w H3 s3 r3=>?_) h)
 split at h
 ·rename_i k
  refine ⟨k,Eb.mp r3,?_⟩
  have s123:=(s1.trans s2).trans s3
  cases k with
  | true=>exact ⟨B,F,O,ρ,R.same s123,mc (fun c h y H4 s4 r4=>S'.ok _ H4 b c u y Q ((R.same s123).same s4).th ((r2.mono s3.mask).mono s4.mask) r4 (S'.mono (fun d q w' H5 s5 r5=>q w' H5 ((s123.trans s4).trans s5) r5) h)) h⟩
  | false=>exact h _ H3 s123 (Eb.mpr rfl)
 ·exact h.elim
theorem U0 {op op':CmpOp} {r r':R2} {t t':D2} (ho:OpR X (compareOp op) r) (ho':OpR X (compareOp op') r') (S:Jw X.K r t) (S':Jw X.K r' t') (ha:DE X a ta) (hb:DE X b tb) (hc:DE X c tc)
  (hm:lastMarks [op,op'] [b,c]=false:=by with_unfolding_all rfl):DE X (.Compare a [op,op'] [b,c] pos) (Ql t t' ta tb tc) where
 mono:=XD (t:=t) (t':=t') (ta:=ta) (tb:=tb) (tc:=tc) S.mono S'.mono ha.mono hb.mono hc.mono
 pe:=(Abk ho ho' ha.pe hb.pe hc.pe hm).imp (Aaa (ta:=ta) (tb:=tb) (tc:=tc) S S' ha.mono hb.mono hc.mono)
noncomputable abbrev DL:=List Dt→(Dt→Prop)→Prop
structure Xb (K:PySem.W.Frag) (r:List V→Hp→VK→Prop) (t:DL):Prop where
 mono:∀ {ds Q Q'},(∀ d,Q d→Q' d)→t ds Q→t ds Q'
 ok:∀ (O:List Addr) (H:Hp) (ds:List Dt) (xs:List V) (Q:VK),(∀ p∈O,H p≠none)→RpL K (mask O H) ds xs →
  t ds (fun d=>∀ v H',Same H H'→Rp K (mask O H') d v→Q v H')→r xs H Q
noncomputable def dCB (t:DL) (tl:DTA):DTE:=fun ρ Q=>tl ρ fun ds=>t ds Q
theorem Af4 {K:PySem.W.Frag} {r:List V→Hp→VK→Prop} {t:DL} (S:Xb K r t) {tl:DTA} (m:∀ {ρ Q Q'},(∀ d,Q d→Q' d)→tl ρ Q→tl ρ Q') (σ:St) (H:Hp) (Q:VK) (h:lE K (dCB t tl) σ H Q):tCB r (lA K tl) σ H Q:=by
 obtain ⟨B,F,O,ρ,R,h⟩:=h
 exact ⟨B,F,O,ρ,R,m (fun ds h vs H1 s1 r1=>S.ok _ H1 ds vs Q (R.same s1).th r1 (S.mono (fun d q v H2 s2 r2=>q v H2 (s1.trans s2) r2) h)) h⟩
theorem V2 {id:String} {x:Str} {p:Pos} {r:List V→Hp→VK→Prop} {t:DL} (hc:Kw X (.builtin id) r) (S:Xb X.K r t) (hg:Gl X x) (hm:X.mg x=none) (hv:bootBuiltins x=some (.builtin id)) (ha:DA X (e :: es) tl) (hn:x≠"__name__":=by decide)
  (hdb:(x == ("__debug__":Str))=false:=by decide) (he:starEach (e :: es) X.env=(false,eval e X.env) :: starEach es X.env:=by rfl) (hpl:(backTo pos (starEach es X.env)).any (·.1)=false:=by rfl):DE X (.Call (.Name x p) (e :: es) [] pos) (dCB t tl) where
 mono:=fun hq h=>ha.mono (fun _ h=>S.mono hq h) h
 pe:=(VD hc hg hm hv ha.pa hn hdb he hpl).imp (Af4 (tl:=tl) S ha.mono)
noncomputable def Aaq:DL:=fun ds Q=>match ds with
 | [.lst xs]=>Q (.int xs.length)
 | [.tup xs]=>Q (.int xs.length)
 | _=>False
noncomputable def Aa2:DL:=fun ds Q=>match ds with
 | [.int i]=>Q (.int (if i < 0 then -i else i))
 | _=>False
noncomputable def AaO:DL:=fun ds Q=>match ds with
 | [.int i,.int j]=>Q (.int (if j > i then j else i))
 | _=>False
noncomputable def Ali:DL:=fun ds Q=>match ds with
 | [.int i,.int j]=>Q (.int (if j < i then j else i))
 | _=>False
noncomputable def Aj4:DL:=fun ds Q=>match ds with
 | [.int i]=>Q (.int i)
 | [.bl k]=>Q (.int (if k then 1 else 0))
 | _=>False
theorem Ael {K:PySem.W.Frag}:Xb K (fun xs H Q=>∃ p ys,xs=[.ref p]∧(SqL K H p ys∨SqT K H p ys)∧Q (.int ys.length) H) Aaq where
 mono:=fun hq h=>by
  unfold Aaq at h ⊢
  split at h
  ·exact hq _ h
  ·exact hq _ h
  ·exact h.elim
 ok:=fun O H ds xs Q _ r h=>by
  unfold Aaq at h
  split at h
  ·obtain ⟨v,r',rfl,r2,r3⟩:=Ay.mp r
   obtain rfl:=BP.mp r3
   obtain ⟨a,ys,rfl,hs,hl⟩:=FP r2
   exact ⟨a,ys,rfl,.inl (Bf.seq hs),by rw [hl.len];exact h _ H (Same.refl H) (Bc.mpr rfl)⟩
  ·obtain ⟨v,r',rfl,r2,r3⟩:=Ay.mp r
   obtain rfl:=BP.mp r3
   obtain ⟨a,ys,rfl,hs,hl⟩:=CP.mp r2
   exact ⟨a,ys,rfl,.inr (Bf.seqT hs),by rw [hl.len];exact h _ H (Same.refl H) (Bc.mpr rfl)⟩
  ·exact h.elim
theorem Ak7 {K:PySem.W.Frag} {H:Hp} {i:Int} {xs:List V} (h:RpL K H [.int i] xs):xs=[.int i]:=by
 obtain ⟨v,r,rfl,r2,r3⟩:=Ay.mp h
 rw [BP.mp r3,Bc.mp r2]
theorem AjP {K:PySem.W.Frag} {H:Hp} {i j:Int} {xs:List V} (h:RpL K H [.int i,.int j] xs):xs=[.int i,.int j]:=by
 obtain ⟨v,r,rfl,r2,r3⟩:=Ay.mp h
 rw [Ak7 r3,Bc.mp r2]
theorem Adx {K:PySem.W.Frag}:Xb K (fun xs H Q=>∃ i,xs=[.int i]∧Q (.int (if i < 0 then -i else i)) H) Aa2 where
 mono:=fun hq h=>by
  unfold Aa2 at h ⊢
  split at h
  ·exact hq _ h
  ·exact h.elim
 ok:=fun O H ds xs Q _ r h=>by
  unfold Aa2 at h
  split at h
  ·exact ⟨_,Ak7 r,h _ H (Same.refl H) (Bc.mpr rfl)⟩
  ·exact h.elim
theorem Aek {K:PySem.W.Frag}:Xb K (fun xs H Q=>∃ i j,xs=[.int i,.int j]∧Q (.int (if j > i then j else i)) H) AaO where
 mono:=fun hq h=>by
  unfold AaO at h ⊢
  split at h
  ·exact hq _ h
  ·exact h.elim
 ok:=fun O H ds xs Q _ r h=>by
  unfold AaO at h
  split at h
  ·exact ⟨_,_,AjP r,h _ H (Same.refl H) (Bc.mpr rfl)⟩
  ·exact h.elim
theorem Qe {p:Pos} (hm:X.mg "len"=none) (ha:DA X [a] tl) (hg:Gl X "len":=by rfl) (he:starEach [a] X.env=(false,eval a X.env) :: starEach [] X.env:=by rfl) (hpl:(backTo pos (starEach [] X.env)).any (·.1)=false:=by rfl) :
  DE X (.Call (.Name "len" p) [a] [] pos) (dCB Aaq tl):=V2 T7 Ael hg hm PySem.boot_len ha (he:=he) (hpl:=hpl)
theorem QC {p:Pos} (hm:X.mg "abs"=none) (ha:DA X [a] tl) (hg:Gl X "abs":=by rfl) (hv:bootBuiltins "abs"=some (.builtin "abs"):=by rfl) (he:starEach [a] X.env=(false,eval a X.env) :: starEach [] X.env:=by rfl) (hpl:(backTo pos (starEach [] X.env)).any (·.1)=false:=by rfl) :
  DE X (.Call (.Name "abs" p) [a] [] pos) (dCB Aa2 tl):=V2 Aag Adx hg hm hv ha (he:=he) (hpl:=hpl)
theorem AfU {p:Pos} (hm:X.mg "max"=none) (ha:DA X [a,b] tl) (hc:X.calm=true:=by rfl) (hg:Gl X "max":=by rfl) (hv:bootBuiltins "max"=some (.builtin "max"):=by rfl) (he:starEach [a,b] X.env=(false,eval a X.env) :: starEach [b] X.env:=by rfl)
  (hpl:(backTo pos (starEach [b] X.env)).any (·.1)=false:=by rfl):DE X (.Call (.Name "max" p) [a,b] [] pos) (dCB AaO tl):=V2 (Zx hc) Aek hg hm hv ha (he:=he) (hpl:=hpl)
noncomputable def tyOf:Dt→String
 | .non=>"NoneType"
 | .bl _=>"bool"
 | .int _=>"int"
 | .str _=>"str"
 | .tup _=>"tuple"
 | .lst _=>"list"
 | .fn _=>"function"
 | .exc _ _ _=>"exception"
 | .obj _ _ _=>"instance"
noncomputable def noFn:Dt→Bool
 | .fn _=>false
 | .exc _ _ _=>false
 | .obj _ _ _=>false
 | _=>true
noncomputable def isT (T:String) (d:Dt):Bool:=tyOf d == T || (T == "int" && tyOf d == "bool")
noncomputable def Vv (T:String):Prop:=∀ (K:PySem.W.Frag) (d:Dt),noFn d=true→PySem.W.kitOne K (.type (tyOf d)) (.type T)=some (isT T d)
theorem Ab6 {T:String} (hT:Vv T):Kw X (.builtin "isinstance") (fun xs H Q=>∃ d x,xs=[x,.ty T]∧Rp X.K H d x∧noFn d=true∧Q (.bl (isT T d)) H):=by
 intro pins s σ H xs us Q I r ⟨d,x,e,rp,nf,q⟩
 subst e
 obtain ⟨u,u2,rfl,r1,r2⟩:=vals2 r
 cases (show u2=.type T from r2)
 have hk:=hT X.K d nf
 have fin:∀ tk,EP X pins σ Q (.bool (isT T d)) { s with toks:=tk }:=fun tk=>⟨.bl _,H,I.tok tk,rfl,q⟩
 cases d with
 | non=>rw [Tq.mp rp] at r1;cases (show u=Value.none from r1);exact PySem.W.kia_one PySem.W.kitx_none I.kIn True.intro hk (fun z=>nomatch z) fin
 | bl y=>rw [Eb.mp rp] at r1;cases (show u=Value.bool y from r1);exact PySem.W.kia_one PySem.W.kitx_bool I.kIn True.intro hk (fun z=>nomatch z) fin
 | int i=>rw [Bc.mp rp] at r1;obtain ⟨t,q⟩:=(show ∃ t,u=Value.int i t from r1);cases q;exact PySem.W.kia_one PySem.W.kitx_int I.kIn True.intro hk (fun z=>nomatch z) fin
 | str y=>rw [Tg.mp rp] at r1;obtain ⟨t,q⟩:=(show ∃ t,u=Value.str y t from r1);cases q;exact PySem.W.kia_one PySem.W.kitx_str I.kIn True.intro hk (fun z=>nomatch z) fin
 | fn a=>cases nf
 | exc _ _ _=>cases nf
 | obj _ _ _=>cases nf
 | tup ds =>
  obtain ⟨a,ys,rfl,hs,_⟩:=CP.mp rp
  cases (show u=Value.ref a from r1)
  obtain ⟨_,_,⟨o,h1,h2,_⟩,_⟩:=I.tuple hs
  exact PySem.W.kia_one PySem.W.kitx_tuple I.kIn ⟨o,h1,h2⟩ hk (fun z=>nomatch z) fin
 | lst ds =>
  obtain ⟨a,ys,rfl,hs,_⟩:=FP rp
  cases (show u=Value.ref a from r1)
  obtain ⟨_,_,⟨o,n,h1,h2,_⟩,_⟩:=I.list hs
  exact PySem.W.kia_one PySem.W.kitx_list I.kIn ⟨o,h1,h2⟩ hk (fun z=>nomatch z) fin
noncomputable def Aid (T:String) (ta:DTE):DTE:=fun ρ Q=>ta ρ fun d=>noFn d=true∧Q (.bl (isT T d))
theorem Xn {T:String} {Ts:Str} {p p2:Pos} (hm:X.mg "isinstance"=none) (hmT:X.mg Ts=none) (hT:Vv T) (ha:DE X a ta) (hg:Gl X "isinstance":=by rfl) (hgT:Gl X Ts:=by rfl) (hv:bootBuiltins "isinstance"=some (.builtin "isinstance"):=by rfl)
  (hvT:bootBuiltins Ts=some (.type T):=by rfl) (hn:Ts≠"__name__":=by decide) (hd:(Ts == ("__debug__":Str))=false:=by decide)
  (hs1:starEach [a,.Name Ts p2] X.env=(false,eval a X.env) :: starEach [.Name Ts p2] X.env:=by rfl) (hs2:starEach [.Name Ts p2] X.env=(false,eval (.Name Ts p2) X.env) :: starEach [] X.env:=by rfl)
  (hpl:(backTo pos (starEach [.Name Ts p2] X.env)).any (·.1)=false:=by rfl):DE X (.Call (.Name "isinstance" p) [a,.Name Ts p2] [] pos) (Aid T ta) where
 mono:=fun hq h=>ha.mono (fun _ h=>⟨h.1,hq _ h.2⟩) h
 pe:=(VD (Ab6 hT) hg hm hv (Kh ha.pe (Kh (Adz (v:=.ty T) hgT hmT hvT rfl hn hd) S7 hs2) hs1) (he:=hs1) (hpl:=hpl)).imp fun σ H Q ⟨B,F,O,ρ,R,h⟩ =>
  ⟨B,F,O,ρ,R,ha.mono (fun d h v H1 s1 r1=>⟨d,v,rfl,r1.mono Bf,h.1,h.2 _ H1 s1 (Eb.mpr rfl)⟩) h⟩
noncomputable abbrev DTO:=BX→(Option Int→Prop)→Prop
noncomputable def lO (K:PySem.W.Frag) (t:DTO):TO:=fun σ H Q=>∃ B F O ρ,Rep K B F O H σ ρ∧t ρ fun o=>∀ H',Same H H'→Q o H'
structure DO (X:Cx) (e:Option Expr) (t:DTO):Prop where
 mono:∀ {ρ Q Q'},(∀ d,Q d→Q' d)→t ρ Q→t ρ Q'
 po:PO X e (lO X.K t)
noncomputable def Yy:DTO:=fun _ Q=>Q none
noncomputable def Afs (te:DTE):DTO:=fun ρ Q=>te ρ fun d=>match d with
 | .int i=>Q (some i)
 | _=>False
theorem PO.imp {e:Option Expr} {t t':TO} (h:PO X e t) (i:∀ σ H Q,t' σ H Q→t σ H Q):PO X e t':=fun pins s σ H Q I q=>h pins s σ H Q I (i _ _ _ q)
theorem TJ:DO X none Yy:=⟨fun hq h=>hq _ h,Aem.imp fun σ H Q ⟨B,F,O,ρ,R,h⟩=>h H (Same.refl H)⟩
theorem Ls (h:DE X e te):DO X (some e) (Afs te) where
 mono:=fun hq z=>h.mono (fun d z=>by
  split at z
  ·exact hq _ z
  ·exact z.elim) z
 po:=(AdF h.pe).imp fun σ H Q ⟨B,F,O,ρ,R,z⟩=>⟨B,F,O,ρ,R,h.mono (fun d z v H1 s1 r1=>by
  split at z
  ·exact ⟨_,Bc.mp r1,z H1 s1⟩
  ·exact z.elim) z⟩
noncomputable def cutD (xs:List Dt) (lo hi:Option Int):List Dt:=(xs.drop (HT.sIx xs.length 0 lo)).take (HT.sIx xs.length xs.length hi - HT.sIx xs.length 0 lo)
theorem RpL.cut {K:PySem.W.Frag} {H:Hp} {ds:List Dt} {xs:List V} {lo hi:Option Int} (h:RpL K H ds xs):RpL K H (cutD ds lo hi) (Z7 xs lo hi):=by
 unfold cutD Z7
 rw [h.len]
 exact (h.drop _).take _
noncomputable def AaQ (te:DTE) (tl th:DTO):DTE:=fun ρ Q=>te ρ fun d=>tl ρ fun lo=>th ρ fun hi=>match d with
 | .lst ds=>Q (.lst (cutD ds lo hi))
 | _=>False
theorem UG {lo hi:Option Expr} {t1 t2:DTO} {p2:Pos} (he:DE X e te) (hl:DO X lo t1) (hh:DO X hi t2):DE X (.Subscript e (.Slice lo hi none p2) pos) (AaQ te t1 t2) where
 mono:=fun hq z=>he.mono (fun d z=>hl.mono (fun l z=>hh.mono (fun h z=>by
  split at z
  ·exact hq _ z
  ·exact z.elim) z) z) z
 pe:=(Vd Y7 he.pe hl.po hh.po).imp fun σ H Q ⟨B,F,O,ρ,R,z⟩=>⟨B,F,O,ρ,R,he.mono (fun d z v H1 s1 r1=>⟨B,F,O,ρ,R.same s1,hl.mono (fun l z H2 s2=>⟨B,F,O,ρ,(R.same s1).same s2,hh.mono (fun h z H3 s3=>by
  split at z
  ·obtain ⟨a,xs,rfl,hs,hr⟩:=FP ((r1.mono s2.mask).mono s3.mask)
   refine ⟨a,xs,rfl,Bf.seq hs,fun p hp=>?_⟩
   have R3:=((R.same s1).same s2).same s3
   have np:p∉F ++ O:=fun m=>R3.th p m hp
   refine z (.ref p) _ (((s1.trans s2).trans s3).trans (Same.upd hp)) (Ka ⟨p,_,rfl,(Mj np),?_⟩)
   exact hr.cut.mono (Same.upd hp).mask
  ·exact z.elim) z⟩) z⟩) z⟩
end
theorem Adk:Vv "int":=fun K d h=>by cases d <;> first | rfl | cases h
theorem AaT:Vv "bool":=fun K d h=>by cases d <;> first | rfl | cases h
theorem Zv:Vv "tuple":=fun K d h=>by cases d <;> first | rfl | cases h
end L2
namespace L2
open PySem PySem.Spec PyProof.Rows PySem.SeqAt
theorem Le (env:Env):∀ (names:List (Str × NameKind)) (cs:List (Str × Addr)),(∀ y∈names,y.2=.free→∃ c,env.cells.lookup y.1=some c)→(∀ n c,cs.lookup n=some c→env.cells.lookup n=some c) →
  ∃ cl,(forIn names cs fun (x:Str × NameKind) (r:List (Str × Addr))=>(if (x.2 == NameKind.free)=true then (do let c ←cellOf env x.1;pure (ForInStep.yield ((x.1,c) :: r))) else pure (ForInStep.yield r):Sem (ForInStep (List (Str × Addr)))))=pure cl ∧
   (∀ n c,cl.lookup n=some c→env.cells.lookup n=some c)∧(∀ n,(cs.lookup n).isSome=true→(cl.lookup n).isSome=true)∧∀ n,(n,NameKind.free)∈names→(cl.lookup n).isSome=true
 | [],cs,_,h2=>⟨cs,rfl,h2,fun _ h=>h,fun n h=>(nomatch h)⟩
 | (x,k) :: names,cs,h1,h2=>by
  rw [List.forIn_cons]
  by_cases hk:k=.free
  ·subst hk
   obtain ⟨c,hc⟩:=h1 (x,.free) List.mem_cons_self rfl
   have e:cellOf env x=pure c:=by unfold cellOf;rw [hc]
   have h3:∀ n c',((x,c) :: cs).lookup n=some c'→env.cells.lookup n=some c':=fun n c' q=>by
    rw [List.lookup_cons] at q
    split at q
    ·rename_i b;cases q;rw [eq_of_beq b];exact hc
    ·exact h2 n c' q
   obtain ⟨cl,g1,g2,g3,g4⟩:=Le env names ((x,c) :: cs) (fun y hy=>h1 y (List.mem_cons_of_mem _ hy)) h3
   refine ⟨cl,?_,g2,fun n q=>g3 n ?_,fun n hn=>?_⟩
   ·simp only [beq_self_eq_true,if_true,e,pure_bind]
    exact g1
   ·rw [List.lookup_cons];split
    ·rfl
    ·exact q
   ·rcases List.mem_cons.mp hn with q | q
    ·cases q
     exact g3 x (by rw [List.lookup_cons];simp)
    ·exact g4 n q
  ·have hb:(k == NameKind.free)=false:=by simpa using hk
   obtain ⟨cl,g1,g2,g3,g4⟩:=Le env names cs (fun y hy=>h1 y (List.mem_cons_of_mem _ hy)) h2
   refine ⟨cl,?_,g2,g3,fun n hn=>?_⟩
   ·simp only [hb,Bool.false_eq_true,if_false,pure_bind]
    exact g1
   ·rcases List.mem_cons.mp hn with q | q
    ·cases q;exact absurd rfl hk
    ·exact g4 n q
theorem Pk {env:Env} {scope:Scope} (h:∀ y∈scope.names,y.2=.free→∃ c,env.cells.lookup y.1=some c) :
  ∃ cl,closureFor scope env=pure cl∧(∀ n c,cl.lookup n=some c→env.cells.lookup n=some c)∧∀ n,(n,NameKind.free)∈scope.names→∃ c,cl.lookup n=some c:=by
 obtain ⟨cl,g1,g2,_,g4⟩:=Le env scope.names [] h (fun n c q=>by simp at q)
 refine ⟨cl,?_,g2,fun n q=>Option.isSome_iff_exists.mp (g4 n q)⟩
 unfold closureFor
 simp only [bind_pure]
 exact g1
noncomputable def Bm (X:Cx) (scope:Scope) (N:List Str) (cl:List (Str × Addr)) (C:Addr) (s₀:Shared) (H₀:Hp) (ex:List Addr):Cx where
 prog:=X.prog
 w:=X.w
 K:=X.K
 mg:=X.mg
 base:=X.base
 A:=X.A
 N:=N
 s₀:=s₀
 H₀:=H₀
 env:=compEnvC scope cl C X.env
 outer:=X.stack
 stack:=X.stack
 ex:=ex
 fn:=fun _=>false
 calm:=X.calm
 pn:=[]
 xe:=fun _ _=>False
noncomputable def PTs (X:Cx) (ifs:List Expr) (t:TT):Prop :=
 ∀ (pins:List (Addr × Obj)) (s:Shared) (σ:St) (H:Hp) (Q:Bool→Hp→Prop),Inv X pins σ H s→t σ H Q →
  wpAny (model X.prog X.w) X.A (forIn ifs true fun c r=>if r=true then do let ok ←isTrue c X.env (eval c X.env);pure (ForInStep.yield ok) else pure (ForInStep.yield r)) (TP X pins σ Q) X.xe s
theorem AcO {X:Cx}:PTs X [] (fun _ H Q=>Q true H):=fun pins s σ H Q I h=>wpAny_tests_nil ⟨H,I,h⟩
theorem Aen {X:Cx} {c:Expr} {t:TT} (h:PT X c t):PTs X [c] t:=fun pins s σ H Q I q=>wpAny_tests_one (h pins s σ H Q I q)
noncomputable def X3 (sl:List Nat) (wi:TI) (tt:TT) (te:TE):TE:=fun σ H Q=>wi σ H fun J H1=>∃ vs:List V,sl.map (fun j=>σ[j]?)=vs.map (fun v=>some (some v))∧∀ D,H1 D=none →
 ∃ W:Nat→Nat→List V→Hp→Prop,(∃ m,W 0 m [] (upd H1 D (.lst [])))∧∀ i m acc H,W i m acc H →
  (J.stop i H∧Q (.ref D) H) ∨
  (J.go i H∧∀ x H',J.yld i H x H'→tt (some x :: vs.map some) H' fun b H2 =>
   if b=true then te (some x :: vs.map some) H2 fun y H3=>H3 D=some (.lst acc)∧acc.length < sizeLine∧∃ m',m' < m∧W (i+1) m' (acc ++ [y]) (upd H3 D (.lst (acc ++ [y])))
   else ∃ m',m' < m∧W (i+1) m' acc H2)
theorem GR {env:Env}:∀ {names:List (Str × NameKind)} {x:Str},names.lookup x=some .free→env.scope.kind=.function→env.kindOf x=some .cell →
  (names.map fun (n,k)=>if (k == NameKind.free && env.scope.kind == .function && env.kindOf n == some .cell) then (n,NameKind.cell) else (n,k)).lookup x=some .cell
 | [],_,h,_,_=>by simp at h
 | (n,k) :: r,x,h,hk,he=>by
  have ih:=@GR env r x
  show List.lookup x ((if (k == NameKind.free && env.scope.kind == .function && env.kindOf n == some .cell)=true then (n,NameKind.cell) else (n,k)) :: _)=_
  cases hx:x == n with
  | true =>
   simp only [List.lookup_cons,hx] at h
   cases h
   have e:=eq_of_beq hx
   subst e
   simp [List.lookup_cons,hk,he]
  | false =>
   simp only [List.lookup_cons,hx] at h
   by_cases hc:(k == NameKind.free && env.scope.kind == .function && env.kindOf n == some .cell)=true
   ·rw [if_pos hc];simp only [List.lookup_cons,hx];exact ih h hk he
   ·rw [if_neg hc];simp only [List.lookup_cons,hx];exact ih h hk he
theorem Lr {env:Env}:∀ {names:List (Str × NameKind)} {x:Str},(∀ y∈names,y.2≠.cell) →
  ((names.map fun (n,k)=>if (k == NameKind.free && env.scope.kind == .function && env.kindOf n == some .cell) then (n,NameKind.cell) else (n,k)).lookup x=some .cell ∨
   (names.map fun (n,k)=>if (k == NameKind.free && env.scope.kind == .function && env.kindOf n == some .cell) then (n,NameKind.cell) else (n,k)).lookup x=some .free)→(x,NameKind.free)∈names
 | [],_,_,h=>by simp at h
 | (n,k) :: r,x,hn,h=>by
  have ih:=@Lr env r x fun y hy=>hn y (List.mem_cons_of_mem _ hy)
  have nk:k≠.cell:=hn (n,k) List.mem_cons_self
  rw [List.map_cons] at h
  by_cases hc:(k == NameKind.free && env.scope.kind == .function && env.kindOf n == some .cell)=true
  ·simp only [hc,if_true,List.lookup_cons] at h
   have kf:k=.free:=by simp at hc;exact hc.1.1
   subst kf
   cases hx:x == n with
   | true=>rw [eq_of_beq hx];exact List.mem_cons_self
   | false=>simp only [hx] at h;exact List.mem_cons_of_mem _ (ih h)
  ·have hc':(k == NameKind.free && env.scope.kind == .function && env.kindOf n == some .cell)=false:=by simpa using hc
   simp only [hc',Bool.false_eq_true,if_false,List.lookup_cons] at h
   cases hx:x == n with
   | true =>
    simp only [hx] at h
    have kf:k=.free:=by
     rcases h with h | h
     ·exact absurd (Option.some.inj h) nk
     ·exact Option.some.inj h
    subst kf
    rw [eq_of_beq hx];exact List.mem_cons_self
   | false=>simp only [hx] at h;exact List.mem_cons_of_mem _ (ih h)
section
variable {X:Cx} {elt iter:Expr} {x:Str} {px:Pos} {ifs:List Expr} {scope:Scope} {pos:Pos} {N:List Str} {sl:List Nat} {wi:TI} {tt:TT} {te:TE}
structure Ei (X:Cx) (scope:Scope) (x:Str) (N:List Str) (sl:List Nat):Prop where
 hx:scope.names.lookup x=some .local
 kind:scope.kind=.function
 cell:∀ y∈scope.names,y.2≠.cell
 names:∀ y∈scope.names,y.2=.local→scope.names.lookup y.1=some .local
 free:∀ y∈scope.names,y.2=.free→X.env.kindOf y.1=some .cell
 nd:(x :: N).Nodup
 sl:N.map some=sl.map (fun j=>X.N[j]?)
 frN:∀ n∈N,scope.names.lookup n=some .free
theorem Wh (S:Ei X scope x N sl) {pins:List (Addr × Obj)} {σ:St} {H:Hp} {s:Shared} {h₁:Heap} {tk:Nat} {fp:List Addr} {cl:List (Str × Addr)} {vs:List V} {o:Obj} (I:Inv X pins σ H s)
  (hfp:∀ b∈fp,LR X pins H b) (hob:∀ b∈fp,∃ o,s.heap.get? b=some o) (hns:h₁.Ns s.heap.objs.size (fun _=>none)) (hsb:Heap.SameBut s.heap.objs.size (s.heap.push o) h₁)
  (hcl:∀ n c,cl.lookup n=some c→X.env.cells.lookup n=some c) (hcl2:∀ n,(n,NameKind.free)∈scope.names→∃ c,cl.lookup n=some c)
  (hvs:sl.map (fun j=>σ[j]?)=vs.map (fun v=>some (some v))) :
  Inv (Bm X scope (x :: N) cl s.heap.objs.size s H fp) [] (none :: vs.map some) H { s with heap:=h₁,toks:=tk }:=by
 have hL:=I.lt
 have keep:∀ b o,s.heap.get? b=some o→h₁.get? b=some o:=fun b o e=>(hsb.2 b (Nat.ne_of_lt (Heap.lt_size e))).trans (Heap.get?_push_of_some _ e)
 have kf:X.env.scope.kind=.function:=I.ok.kind
 refine ⟨⟨I.ok.mod,?_,I.ok.glob,I.ok.blt,Nat.le_refl _,fun y z c h1 h2=>I.ok.inj y z c (hcl y c h1) (hcl z c h2),fun y hy=>?_,fun y c h=>(by cases h),I.ok.hd,I.ok.frames,.inl rfl,fun b hb=>⟨?_,fun y c e=>?_⟩,fun b o e=>I.bs b o e,
  Nat.le_trans I.ok.bsz I.sz,fun b o e hb=>?_,fun b hb hz=>?_,I.stack,I.stkFree⟩,rfl,I.bare,Un.kept keep,⟨_,hns,fun i y v e1 e2 e3=>?_⟩,fun y c e=>?_,I.hok.fresh (Nat.le_refl _),fun y c e=>I.freeC y c (hcl y c e),
  fun p hp=>absurd (show p∈([]:List (Addr × Obj)) from hp) (by simp),I.hok.kept keep,?_⟩
 ·exact S.kind
 ·exact hcl2 y (Lr (env:=X.env) (fun z hz=>S.cell z hz) hy)
 ·obtain ⟨o',e⟩:=hob b hb
  exact Nat.ne_of_lt (Heap.lt_size e)
 ·exact (hfp b hb).2.2.2.2.1 y c (hcl y c e)
 ·rcases (hfp b hb).2.2.2.1 with z | z
  ·exact I.ok.noex b o e z
  ·exact absurd (Nat.lt_of_lt_of_le (Heap.lt_size e) (Nat.le_trans I.ok.bsz z)) (Nat.lt_irrefl _)
 ·rcases List.mem_cons.mp (I.stkSub b hz) with q | q
  ·exact (hfp b hb).2.1 q
  ·exact (hfp b hb).2.2.1 q
 ·cases i with
  | zero=>simp at e2
  | succ j =>
   have e1':N[j]? = some y:=by simpa [Bm] using e1
   have e2':vs[j]? = some v:=by
    rw [List.getElem?_cons_succ,List.getElem?_map] at e2
    cases q:vs[j]? with
    | none=>rw [q] at e2;cases e2
    | some v'=>rw [q] at e2;cases e2;rfl
   have q1:=congrArg (fun l=>l[j]?) S.sl
   have q2:=congrArg (fun l=>l[j]?) hvs
   simp only [List.getElem?_map,e1',e2',Option.map_some] at q1 q2
   cases hk:sl[j]? with
   | none=>rw [hk] at q1;cases q1
   | some k =>
    rw [hk] at q1 q2
    have n1:X.N[k]? = some y:=(Option.some.inj q1).symm
    have n2:σ[k]? = some (some v):=Option.some.inj q2
    have hfr:=S.frN y (List.mem_of_getElem? e1')
    have hm:=PySem.mem_of_lookup hfr
    have hc:=S.free _ hm rfl
    obtain ⟨m,hn,hl⟩:=I.loc
    obtain ⟨u,r,lk⟩:=hl k y v n1 n2 (.inr (.inl hc))
    refine ⟨u,r,.inr ⟨.inl (GR hfr kf hc),?_⟩⟩
    rcases lk with ⟨kl,_⟩ | ⟨_,c,ec,⟨o',ho,hd⟩⟩
    ·rw [hc] at kl;cases kl
    ·obtain ⟨c',ec'⟩:=hcl2 y hm
     have:=hcl y c' ec'
     rw [ec] at this;cases this
     exact ⟨c,ec',o',keep _ _ ho,hd⟩
 ·obtain ⟨v,o',ho,hd⟩:=I.cell y c (hcl y c e)
  exact ⟨v,o',keep _ _ ho,hd⟩
 ·have l1:=congrArg List.length S.sl
  have l2:=congrArg List.length hvs
  simp only [List.length_map] at l1 l2
  simp [Bm];omega
theorem Acw (S:Ei X scope x N sl) (hc:X.calm=true) (hi:PI X (.Name x px) iter wi) (ht:∀ cl C s₀ H₀ ex,PTs (Bm X scope (x :: N) cl C s₀ H₀ ex) ifs tt) (he:∀ cl C s₀ H₀ ex,PE (Bm X scope (x :: N) cl C s₀ H₀ ex) elt te)
  (hs:∀ x,foldedSetIterable iter X.env x=pure x:=by intro _;rfl):PE X (.ListComp elt [⟨.Name x px,iter,ifs,0⟩] scope pos) (X3 sl wi tt te):=by
 intro pins s σ H Q I h
 obtain ⟨cl,hclos,hcl,hcl2⟩:=Pk (env:=X.env) (scope:=scope) fun y hy hf=>I.ok.has y.1 (.inl (S.free y hy hf))
 rw [eval_ListComp]
 refine wpAny_comprehension_free (use:=none) rfl hs hclos S.kind S.names (thn (hi pins s σ H _ I h) fun v s1 h1=>thn h1 fun itv s2 h2=>?_)
 obtain ⟨it,fp,tn,J,H2,e,I2,T,st2,f2,vs,hvs,hW⟩:=h2
 subst e
 refine wpAny_newObj_type (wpAny_newFunctionEnv S.cell (by intro y hy;simp at hy) (fun h₁ hns₁ hsb₁=>?_) S.kind)
 have hD:H2 s2.heap.objs.size=none:=I2.fresh
 have I3:Inv X pins σ (upd H2 s2.heap.objs.size (.lst [])) { s2 with heap:=s2.heap.push { cls:=.type "list",data:=.seq ([]:List Value).toArray },toks:=s2.toks }:=I2.lnew (its:=[]) (ys:=[]) .nil (Nat.zero_le _)
 have hbD:∀ b∈fp,b≠s2.heap.objs.size:=fun b hb z=>by
  obtain ⟨o',e',_⟩:=T.obj _ _ st2 b hb
  exact absurd (Heap.lt_size e') (by rw [z];exact Nat.lt_irrefl _)
 have f3:∀ b∈fp,LR X pins (upd H2 s2.heap.objs.size (.lst [])) b:=fun b hb=>⟨by rw [Aw (hbD b hb)];exact (f2 b hb).1,(f2 b hb).2⟩
 have ob3:∀ b∈fp,∃ o,(s2.heap.push { cls:=.type "list",data:=.seq ([]:List Value).toArray }).get? b=some o:=fun b hb=>by
  obtain ⟨o',e',_⟩:=T.obj _ _ st2 b hb
  exact ⟨o',Heap.get?_push_of_some _ e'⟩
 have IC:=Wh (tk:=s2.toks+([]:List (Str × Value)).length) S I3 f3 ob3 hns₁ hsb₁ hcl hcl2 hvs
 dsimp only at hsb₁ IC ⊢
 generalize hCC:(s2.heap.push { cls:=.type "list",data:=.seq ([]:List Value).toArray }).objs.size=C at hns₁ hsb₁ IC ⊢
 have old:∀ b o,s2.heap.get? b=some o→h₁.get? b=some o:=fun b o e=>by
  have e1:(s2.heap.push { cls:=.type "list",data:=.seq ([]:List Value).toArray }).get? b=some o:=Heap.get?_push_of_some _ e
  exact (hsb₁.2 b (by rw [←hCC];exact Nat.ne_of_lt (Heap.lt_size e1))).trans (Heap.get?_push_of_some _ e1)
 have st₁:tn 0 h₁:=T.keep _ _ _ st2 fun b hb o e=>old b o e
 obtain ⟨W,⟨m0,w0⟩,turn⟩:=hW s2.heap.objs.size hD
 have fpC:∀ {H':Hp} {pl:List (Addr × Obj)},(∀ b∈fp,H' b=none)→(∀ p∈pl,p.1∉fp)→∀ b∈fp,LR (Bm X scope (x :: N) cl C { s2 with heap:=s2.heap.push { cls:=.type "list",data:=.seq ([]:List Value).toArray },toks:=s2.toks } (upd H2 s2.heap.objs.size (.lst [])) fp) pl H' b:=fun {H' pl} hn hp b hb=>by
  refine ⟨hn b hb,(IC.ok.exf b hb).1,IC.ok.exfs b hb,.inl hb,(IC.ok.exf b hb).2,fun p hq z=>?_⟩
  have hq':p∈pl:=by simpa [Bm] using hq
  exact hp p hq' (by rw [z];exact hb)
 have done:∀ {σ':St} {H':Hp} {s':Shared},Inv (Bm X scope (x :: N) cl C { s2 with heap:=s2.heap.push { cls:=.type "list",data:=.seq ([]:List Value).toArray },toks:=s2.toks } (upd H2 s2.heap.objs.size (.lst [])) fp) [] σ' H' s'→Q (.ref s2.heap.objs.size) H' →
   ∃ m,s'.heap.Ns C m∧∀ h',Heap.SameBut C s'.heap h'→EP X pins σ Q (.ref s2.heap.objs.size) { s' with heap:=h' }:=fun {σ' H' s'} J q=>by
  obtain ⟨m,hn,_⟩:=id J.loc
  refine ⟨m,hn,fun h' hs'=>⟨.ref s2.heap.objs.size,H',?_,rfl,q⟩⟩
  have u:Un (frs X.stack) fp H2 H' s2.heap s'.heap:=(Un.laid (fun b u e=>Heap.get?_push_of_some _ e) (Nat.le_refl _) hD).trans J.base
  have nC:∀ b o,s2.heap.get? b=some o→b≠C:=fun b o e=>by
   have e1:(s2.heap.push { cls:=.type "list",data:=.seq ([]:List Value).toArray }).get? b=some o:=Heap.get?_push_of_some _ e
   rw [←hCC];exact Nat.ne_of_lt (Heap.lt_size e1)
  have u':Un (frs X.stack) fp H2 H' s2.heap h' :=
   ⟨fun b o e n hb hx=>(hs'.2 b (nC b o e)).trans (u.keep b o e n hb hx),fun b o e n hb hx=>let ⟨sl,q⟩:=u.slot b o e n hb hx;⟨sl,(hs'.2 b (nC b o e)).trans q⟩,u.free,fun b o e hx=>let ⟨o',q⟩:=u.there b o e hx;⟨o',(hs'.2 b (nC b o e)).trans q⟩,u.tups,u.frzs,u.tbls⟩
  have hok:HOk X.prog X.w H' h':=fun b ob e=>(J.hok b ob e).stay (fun c w' hc q=>(hs'.2 c (by
   rintro rfl
   have hf:H' c=none:=J.free
   rcases hc with rfl | hc
   ·rw [hf] at e;cases e
   ·rw [hf] at hc;cases hc)).trans q) (fun _ q=>q) fun _ _ q=>q
  have hos:s'.os=s2.os:=J.os
  exact I2.call' (s':={ s' with heap:=h' }) (ch:=fp) hos u' hok J.bare fun b hb=>⟨(f2 b hb).2.2.2.1,(f2 b hb).2.1,(f2 b hb).2.2.2.2.1,(f2 b hb).2.2.2.2.2⟩
 have loop:codeAny (model X.prog X.w) X.A (.compLoop (.ListComp elt [⟨.Name x px,iter,ifs,0⟩] scope pos) 0 (.ref it) (.ref s2.heap.objs.size) (compEnvC scope cl C X.env)) (compPost (model X.prog X.w) X.A X.xe none (EP X pins σ Q) (.ref s2.heap.objs.size) C)
   { s2 with heap:=h₁,toks:=s2.toks+([]:List (Str × Value)).length }:=by
  refine codeAny_compLoop_tests (fun n s'=>∃ i acc σ' H',Inv (Bm X scope (x :: N) cl C { s2 with heap:=s2.heap.push { cls:=.type "list",data:=.seq ([]:List Value).toArray },toks:=s2.toks } (upd H2 s2.heap.objs.size (.lst [])) fp) [] σ' H' s'∧(∃ y,σ'=y :: vs.map some) ∧
   tn i s'.heap∧(∀ b∈fp,H' b=none)∧W i n acc H') ?_ m0 ⟨0,[],_,_,IC,⟨none,rfl⟩,st₁,fun b hb=>(f3 b hb).1,w0⟩
  rintro n s3 ⟨i,acc,σ3,H3,I4,⟨y,rfl⟩,st3,fr3,w3⟩
  rcases turn i n acc H3 w3 with ⟨stop,qn⟩ | ⟨go,step⟩
  ·refine wpAny_mono (T.done (Bm X scope (x :: N) cl C { s2 with heap:=s2.heap.push { cls:=.type "list",data:=.seq ([]:List Value).toArray },toks:=s2.toks } (upd H2 s2.heap.objs.size (.lst [])) fp) rfl rfl rfl hc i [] s3 _ H3 (fun _ _=>False) I4 (fpC fr3 (by simp)) st3 stop) (fun r s4 ⟨hr,I5⟩=>?_) fun _ _ z=>False.elim z
   subst hr
   exact done I5 qn
  ·refine wpAny_mono (T.item (Bm X scope (x :: N) cl C { s2 with heap:=s2.heap.push { cls:=.type "list",data:=.seq ([]:List Value).toArray },toks:=s2.toks } (upd H2 s2.heap.objs.size (.lst [])) fp) rfl rfl rfl hc i [] s3 _ H3 (fun _ _=>False) I4 (fpC fr3 (by simp)) st3 go) (fun r s4 ⟨u,hr,h4⟩=>?_) fun _ _ z=>False.elim z
   subst hr
   have e0:∀ (k:Unit→Sem Unit),(letOwnedTupleGo (.Name x px) (.ref it) u >>= k)=k ():=fun k=>rfl
   have hg:PG (Bm X scope (x :: N) cl C { s2 with heap:=s2.heap.push { cls:=.type "list",data:=.seq ([]:List Value).toArray },toks:=s2.toks } (upd H2 s2.heap.objs.size (.lst [])) fp) (.Name x px) (Y6 0):=SN S.nd rfl (.inl (lookup_relabel_local S.hx)) (.inr (lookup_relabel_local S.hx))
   show wpAny (model X.prog X.w) X.A (assign (.Name x px) (compEnvC scope cl C X.env) u) _ _ s4
   rw [←e0 fun _=>assign (.Name x px) (compEnvC scope cl C X.env) u]
   refine wpAny_bind (wpAny_mono h4 (fun _ s5 ⟨z,H5,I5,r5,y5,st5,fr5⟩=>?_) fun _ _ z=>False.elim z)
   have I5':=I5.pinned (fpC fr5 (by simp)) (T.obj _ _ st5)
   have W5:=hg _ s5 _ H5 z u (fun σ' H'=>σ'=some z :: vs.map some∧H'=H5) I5' r5 ⟨rfl,rfl⟩
   refine wpAny_mono W5 (fun _ s6 ⟨σ6,H6,I6,e6,e7⟩=>?_) fun _ _ z=>False.elim z
   subst e6 e7
   refine wpAny_mono (ht _ _ _ _ _ _ s6 _ H6 _ I6 (step z H6 y5)) (fun b s7 ⟨H7,I7,q7⟩=>?_) fun _ _ z=>False.elim z
   have again:∀ {H8:Hp} {s8:Shared} {acc':List V},Inv (Bm X scope (x :: N) cl C { s2 with heap:=s2.heap.push { cls:=.type "list",data:=.seq ([]:List Value).toArray },toks:=s2.toks } (upd H2 s2.heap.objs.size (.lst [])) fp) ([] ++ M8 fp s5.heap) (some z :: vs.map some) H8 s8→(∃ m',m' < n∧W (i+1) m' acc' H8)→∃ m,m < n∧∃ i acc σ' H',Inv (Bm X scope (x :: N) cl C { s2 with heap:=s2.heap.push { cls:=.type "list",data:=.seq ([]:List Value).toArray },toks:=s2.toks } (upd H2 s2.heap.objs.size (.lst [])) fp) [] σ' H' s8∧(∃ y,σ'=y :: vs.map some)∧tn i s8.heap∧(∀ b∈fp,H' b=none)∧W i m acc H':=fun {H8 s8 acc'} I8 ⟨m',hm,w8⟩=>by
    refine ⟨m',hm,i+1,acc',_,H8,I8.unpinned,⟨_,rfl⟩,T.keep _ _ _ st5 fun b hb o e=>(I8.pin (b,o) (List.mem_append_right _ (List.mem_append_right _ (Gm hb e)))).1,fun b hb=>?_,w8⟩
    obtain ⟨o,e,d⟩:=T.obj _ _ st5 b hb
    exact (I8.pin (b,o) (List.mem_append_right _ (List.mem_append_right _ (Gm hb e)))).2.1
   cases b with
   | false=>exact again I7 q7
   | true =>
    rw [if_pos rfl]
    refine wpAny_mono (he _ _ _ _ _ _ s7 _ H7 _ I7 q7) (fun v8 s8 ⟨x8,H8,I8,r8,hD8,hz8,q8⟩=>?_) fun _ _ z=>False.elim z
    refine wpAny_mono (Ni (X:=(Bm X scope (x :: N) cl C { s2 with heap:=s2.heap.push { cls:=.type "list",data:=.seq ([]:List Value).toArray },toks:=s2.toks } (upd H2 s2.heap.objs.size (.lst [])) fp)) _ s8 _ H8 (.ref s2.heap.objs.size) [x8] (.ref s2.heap.objs.size) [v8] (fun _ H9=>H9=upd H8 s2.heap.objs.size (.lst (acc ++ [x8]))) I8 rfl (.cons r8 .nil) ⟨_,acc,x8,rfl,rfl,hD8,hz8,rfl⟩) (fun _ s9 ⟨_,H9,I9,_,e9⟩=>?_) fun _ _ z=>False.elim z
    subst e9
    exact again I9 q8
 exact codeAny_compStart_list loop (T.self _ 0 _ _ _ st₁ loop)
noncomputable def inner (sl:List Nat) (ρ:BX) (d:Dt):BX:=some (.is d) :: sl.map fun j=>(ρ[j]?).join
structure DTs (X:Cx) (ifs:List Expr) (t:DTT):Prop where
 mono:∀ {ρ Q Q'},(∀ d,Q d→Q' d)→t ρ Q→t ρ Q'
 pts:PTs X ifs (lT X.K t)
noncomputable def Lj:DTT:=fun _ Q=>Q true
theorem Tj:DTs X [] Lj:=⟨fun hq h=>hq _ h,fun pins s σ H Q I ⟨B,F,O,ρ,R,h⟩=>AcO pins s σ H Q I (h H (Same.refl H))⟩
theorem Ado {c:Expr} {t:DTT} (h:DT X c t):DTs X [c] t:=⟨h.mono,Aen h.pt⟩
noncomputable def caught (sl:List Nat) (ρ:BX):Prop:=∀ j∈sl,∃ d,ρ[j]? = some (some (.is d))
noncomputable def Jc (sl:List Nat) (ti:DTI) (tt:DTT) (te:DTE):DTE:=fun ρ Q=>ti ρ fun items=>items.length≤sizeLine∧caught sl ρ ∧
 ∃ W:Nat→List Dt→Prop,W 0 []∧(∀ (k:Nat) d acc,items[k]? = some d→W k acc→tt (inner sl ρ d) fun b=>if b=true then te (inner sl ρ d) fun e=>W (k+1) (acc ++ [e]) else W (k+1) acc) ∧
  ∀ acc,acc.length≤items.length→W items.length acc→Q (.lst acc)
theorem JM {K:PySem.W.Frag} {B:Hp} {F O:List Addr} {H:Hp} {σ:St} {ρ:BX} (R:Rep K B F O H σ ρ):∀ {sl:List Nat},caught sl ρ→∃ vs ds,sl.map (fun j=>σ[j]?)=vs.map (fun v=>some (some v))∧sl.map (fun j=>(ρ[j]?).join)=ds.map (fun d=>some (En.is d))∧RpL K (mask (F ++ O) H) ds vs
 | [],_=>⟨[],[],rfl,rfl,RpL.nil⟩
 | j :: sl,h=>by
  obtain ⟨d,e⟩:=h j List.mem_cons_self
  obtain ⟨v,e1,e2⟩:=R.is j d e
  obtain ⟨vs,ds,h1,h2,h3⟩:=JM R (sl:=sl) fun k hk=>h k (List.mem_cons_of_mem _ hk)
  exact ⟨v :: vs,d :: ds,by simp [e1,h1],by simp [e,h2],RpL.cons e2 h3⟩
theorem Rz {K:PySem.W.Frag} {F:List Addr} {H:Hp} {d:Dt} {v:V} {ds:List Dt} {vs:List V} (th:∀ a∈F,H a≠none) (r:Rp K (mask F H) d v) (rs:RpL K (mask F H) ds vs) :
  Rep K (fun _=>none) F [] H (some v :: vs.map some) (some (.is d) :: ds.map fun d=>some (En.is d)):=by
 have e:mask (F ++ []) H=mask F H:=by rw [List.append_nil]
 have noown:∀ (i:Nat) (es:En),(∀ z,es≠.is z)→(some (En.is d) :: ds.map fun d=>some (En.is d))[i]? = some (some es)→False:=fun i es nz q=>by
  cases i with
  | zero=>cases q;exact nz _ rfl
  | succ j =>
   rw [List.getElem?_cons_succ,List.getElem?_map] at q
   cases z:ds[j]? with
   | none=>rw [z] at q;cases q
   | some y=>rw [z] at q;cases q;exact nz _ rfl
 refine ⟨by simp [rs.len],fun a o q=>(nomatch q),fun a h=>(nomatch h),fun a h=>th a (by simpa using h),fun i y q=>?_,fun i es q=>(noown i _ (fun _ z=>by cases z) q).elim,fun i j es es' a h1=>(noown i _ (fun _ z=>by cases z) h1).elim,fun i es q=>(noown i _ (fun _ z=>by cases z) q).elim,fun i j es es' a h1=>(noown i _ (fun _ z=>by cases z) h1).elim⟩
 rw [e]
 cases i with
 | zero=>cases q;exact ⟨v,rfl,r⟩
 | succ j =>
  rw [List.getElem?_cons_succ,List.getElem?_map] at q
  cases z:ds[j]? with
  | none=>rw [z] at q;cases q
  | some y' =>
   rw [z] at q;cases q
   obtain ⟨u,h1,h2⟩:=rs.get z
   exact ⟨u,by rw [List.getElem?_cons_succ,List.getElem?_map,h1];rfl,h2⟩
theorem VF {K:PySem.W.Frag} {sl:List Nat} {ti:DTI} {dt:DTT} {de:DTE} (mi:∀ {ρ Q Q'},(∀ d,Q d→Q' d)→ti ρ Q→ti ρ Q') (mt:∀ {ρ Q Q'},(∀ d,Q d→Q' d)→dt ρ Q→dt ρ Q') (me:∀ {ρ Q Q'},(∀ d,Q d→Q' d)→de ρ Q→de ρ Q')
  (σ:St) (H:Hp) (Q:VK) (h:lE K (Jc sl ti dt de) σ H Q):X3 sl (lI K ti) (lT K dt) (lE K de) σ H Q:=by
 obtain ⟨B,F,O,ρ,R,h⟩:=h
 refine ⟨B,F,O,ρ,R,mi (fun items ⟨h1,h2,W,w0,st,fin⟩ J H1 s1 it=>?_) h⟩
 have R1:=R.same s1
 obtain ⟨vs,ds,ev,ed,rs⟩:=JM R1 h2
 refine ⟨vs,ev,fun D hD=>?_⟩
 have nD:D∉F ++ O:=fun z=>R1.th D z hD
 have sM:Same (mask (F ++ O) H1) (mask (F ++ O) (upd H1 D (.lst []))):=(Same.upd hD).mask
 refine ⟨fun i m acc H2=>m+i=items.length∧H2 D=some (.lst acc)∧acc.length≤i∧Same H1 H2∧∃ as,RpL K (mask (D :: (F ++ O)) H2) as acc∧W i as,⟨items.length,by omega,Bl,Nat.le_refl _,Same.upd hD,[],RpL.nil,w0⟩,?_⟩
 rintro i m acc H2 ⟨hm,e2,hl,s2,as,ra,w⟩
 have sb:Same (mask (F ++ O) H1) H2:=fun a o e=>s2 a o (CQ e).2
 have sD:Same (mask (F ++ O) H1) (mask (D :: (F ++ O)) H2):=fun a o e=>by
  obtain ⟨q,e⟩:=CQ e
  rw [Bd fun z=>by
   rcases List.mem_cons.mp z with z | z
   ·rw [z,hD] at e;cases e
   ·exact q z]
  exact s2 a o e
 obtain ⟨go,stop⟩:=it H2 sb
 by_cases hlt:i < items.length
 ·refine .inr ⟨(go i items[i] (by simp [hlt])).1,fun z H3 y=>?_⟩
  obtain ⟨e,r⟩:=(go i items[i] (by simp [hlt])).2 z H3 y
  subst e
  have th:∀ a∈D :: (F ++ O),H3 a≠none:=fun a ha q=>by
   rcases List.mem_cons.mp ha with z | z
   ·rw [z,e2] at q;cases q
   ·have:=R1.th a z
    cases q':H1 a with
    | none=>exact this q'
    | some o=>rw [s2 a o q'] at q;cases q
  have R3:=Rz th (r.mono sD) (rs.mono sD)
  have ei:some (En.is items[i]) :: ds.map (fun d=>some (En.is d))=inner sl ρ items[i]:=by unfold inner;rw [ed]
  rw [ei] at R3
  refine ⟨_,_,_,_,R3,mt (fun b q H4 s4=>?_) (st i _ as (by simp [hlt]) w)⟩
  cases b with
  | false =>
   refine ⟨m - 1,by omega,by omega,s4 _ _ e2,by omega,s2.trans s4,as,ra.mono s4.mask,q⟩
  | true =>
   refine ⟨_,_,_,_,R3.same s4,me (fun e q v5 H5 s5 r5=>?_) q⟩
   have e5:H5 D=some (.lst acc):=s5 _ _ (s4 _ _ e2)
   have hz:acc.length < sizeLine:=by omega
   have s6:Same (mask (D :: (F ++ O)) H5) (mask (D :: (F ++ O)) (upd H5 D (.lst (acc ++ [v5])))):=fun a o q=>by
    obtain ⟨n,q⟩:=CQ q
    rw [Bd n,Aw fun z=>n (by rw [z];exact List.mem_cons_self)];exact q
   have em:mask (D :: (F ++ O) ++ []) H5=mask (D :: (F ++ O)) H5:=by rw [List.append_nil]
   rw [em] at r5
   refine ⟨e5,hz,m - 1,by omega,by omega,Bl,by simp;omega,fun a o q=>?_,as ++ [e],(((ra.mono s4.mask).mono s5.mask).append (RpL.cons r5 RpL.nil)).mono s6,q⟩
   rw [Aw (Bv q hD)]
   exact s5 _ _ (s4 _ _ (s2 a o q))
 ·have e:i=items.length:=by omega
  subst e
  refine .inl ⟨stop,fin as (by rw [←ra.len];exact hl) w (.ref D) H2 (s1.trans s2) (Ka ⟨D,acc,rfl,(by rw [Bd nD];exact e2),ra.mono (Gz fun a h=>List.mem_cons_of_mem _ h)⟩)⟩
theorem VH {ti:DTI} {dt:DTT} {de:DTE} (S:Ei X scope x N sl) (hc:X.calm=true) (hi:DI X (.Name x px) iter ti) (ht:∀ cl C s₀ H₀ ex,DTs (Bm X scope (x :: N) cl C s₀ H₀ ex) ifs dt) (he:∀ cl C s₀ H₀ ex,DE (Bm X scope (x :: N) cl C s₀ H₀ ex) elt de)
  (hs:∀ x,foldedSetIterable iter X.env x=pure x:=by intro _;rfl):DE X (.ListComp elt [⟨.Name x px,iter,ifs,0⟩] scope pos) (Jc sl ti dt de):=by
 have mt:∀ {ρ Q Q'},(∀ d,Q d→Q' d)→dt ρ Q→dt ρ Q':=(ht [] 0 X.s₀ X.H₀ []).mono
 have me:∀ {ρ Q Q'},(∀ d,Q d→Q' d)→de ρ Q→de ρ Q':=(he [] 0 X.s₀ X.H₀ []).mono
 refine ⟨fun hq h=>hi.mono (fun items ⟨h1,h2,W,w0,st,fin⟩=>⟨h1,h2,W,w0,st,fun acc l w=>hq _ (fin acc l w)⟩) h,?_⟩
 refine (Acw (tt:=lT X.K dt) (te:=lE X.K de) S hc hi.pi (fun cl C s₀ H₀ ex=>(ht cl C s₀ H₀ ex).pts) (fun cl C s₀ H₀ ex=>(he cl C s₀ H₀ ex).pe) hs).imp (VF (ti:=ti) (dt:=dt) (de:=de) hi.mono mt me)
theorem Yj {ti:DTI} {de:DTE} (S:Ei X scope x N sl) (hc:X.calm=true) (hi:DI X (.Name x px) iter ti) (he:∀ cl C s₀ H₀ ex,DE (Bm X scope (x :: N) cl C s₀ H₀ ex) elt de)
  (hs:∀ x,foldedSetIterable iter X.env x=pure x:=by intro _;rfl):DE X (.ListComp elt [⟨.Name x px,iter,[],0⟩] scope pos) (Jc sl ti Lj de):=VH S hc hi (fun _ _ _ _ _=>Tj) he hs
theorem Ph {c:Expr} {ti:DTI} {dt:DTT} {de:DTE} (S:Ei X scope x N sl) (hc:X.calm=true) (hi:DI X (.Name x px) iter ti) (ht:∀ cl C s₀ H₀ ex,DT (Bm X scope (x :: N) cl C s₀ H₀ ex) c dt) (he:∀ cl C s₀ H₀ ex,DE (Bm X scope (x :: N) cl C s₀ H₀ ex) elt de)
  (hs:∀ x,foldedSetIterable iter X.env x=pure x:=by intro _;rfl):DE X (.ListComp elt [⟨.Name x px,iter,[c],0⟩] scope pos) (Jc sl ti dt de):=VH S hc hi (fun _ _ _ _ _=>Ado (ht _ _ _ _ _)) he hs
end
end L2
namespace L2
open PySem PySem.Spec PyProof.Rows PySem.SeqAt
noncomputable def AeX (sc scope:Scope) (NN:List Str) (x:Str) (N:List Str) (sl:List Nat):Bool :=
 decide (scope.names.lookup x=some .local) && decide (scope.kind=.function) && scope.names.all (fun y=>decide (y.2≠.cell)) && scope.names.all (fun y=>decide (y.2=.local→scope.names.lookup y.1=some .local)) &&
  scope.names.all (fun y=>decide (y.2=.free→sc.names.lookup y.1=some .cell)) && decide (x :: N).Nodup && decide (N.map some=sl.map (fun j=>NN[j]?)) && N.all (fun n=>decide (scope.names.lookup n=some .free))
theorem Gh {X:Cx} {sc scope:Scope} {NN:List Str} {x:Str} {N:List Str} {sl:List Nat} (h1:X.env.scope=sc) (h2:X.N=NN) (h:AeX sc scope NN x N sl=true):Ei X scope x N sl:=by
 subst h1 h2
 unfold AeX at h
 simp only [Bool.and_eq_true,decide_eq_true_eq,List.all_eq_true] at h
 obtain ⟨⟨⟨⟨⟨⟨⟨a,b⟩,c⟩,d⟩,e⟩,f⟩,g⟩,i⟩:=h
 exact ⟨a,b,c,d,e,f,g,i⟩
noncomputable def Bt (n:Nat) (x:Int):Prop:=x.natAbs < 2 ^ n
theorem Bt.le {n m:Nat} {x:Int} (h:Bt n x) (l:n≤m):Bt m x:=Nat.lt_of_lt_of_le h (Nat.pow_le_pow_right (by decide) l)
theorem Bt.mul {n m:Nat} {x y:Int} (a:Bt n x) (b:Bt m y):Bt (n+m) (x*y):=by
 unfold Bt at *
 rw [Int.natAbs_mul,Nat.pow_add]
 exact Nat.mul_lt_mul'' a b
theorem Bt.add {n m:Nat} {x y:Int} (a:Bt n x) (b:Bt m y):Bt (max n m+1) (x+y):=by
 have a':=a.le (Nat.le_max_left n m)
 have b':=b.le (Nat.le_max_right n m)
 unfold Bt at *
 rw [Nat.pow_succ]
 have:=Int.natAbs_add_le x y
 omega
theorem Bt.neg {n:Nat} {x:Int} (a:Bt n x):Bt n (-x):=by unfold Bt at *;rw [Int.natAbs_neg];exact a
theorem Bt.sub {n m:Nat} {x y:Int} (a:Bt n x) (b:Bt m y):Bt (max n m+1) (x - y):=by rw [Int.sub_eq_add_neg];exact a.add b.neg
theorem Bt.of_abs {n:Nat} {x:Int} (h:x.natAbs < 2 ^ n):Bt n x:=h
theorem Bt.of {n:Nat} {x:Int} (h1:-(2 ^ n) < x) (h2:x < 2 ^ n):Bt n x:=by
 unfold Bt
 have:((x.natAbs:Nat):Int) < ((2 ^ n:Nat):Int):=by push_cast;omega
 omega
theorem Bt.mulOk {n m:Nat} {x y:Int} (a:Bt n x) (b:Bt m y) (hn:n≤1048576:=by decide) (hm:m≤1048576:=by decide):IntMulOk x y :=
 IntMulOk.of_bits (intBits_le_iff.mpr (a.le hn)) (intBits_le_iff.mpr (b.le hm))
theorem Bt.divOk {n:Nat} {x y:Int} (a:Bt n y) (h:y≠0) (hn:n≤9000:=by decide):CDv x y:=⟨h,a.le hn⟩
theorem Bt.zero:Bt 0 0:=by unfold Bt;decide
theorem Bt.one:Bt 1 1:=by unfold Bt;decide
end L2
namespace L2
open PySem PySem.Spec PyProof.Rows PySem.SeqAt
section
variable {a b c d e f:Dt} {r s:List Dt} {i j:Int} {k l:Bool} {n:Nat} {x y:Str}
theorem Alz:ixD 0 (.tup (a :: r))=some a:=rfl
theorem Alv:ixD 1 (.tup (a :: b :: r))=some b:=rfl
theorem Anu:ixD 2 (.tup (a :: b :: c :: r))=some c:=rfl
theorem Al7:ixD 3 (.tup (a :: b :: c :: d :: r))=some d:=rfl
theorem AlH:ixD 0 (.lst (a :: r))=some a:=rfl
theorem AmE:ixD 1 (.lst (a :: b :: r))=some b:=rfl
theorem AlU:ixD 2 (.lst (a :: b :: c :: r))=some c:=rfl
theorem AmC:ixD 3 (.lst (a :: b :: c :: d :: r))=some d:=rfl
theorem Rw:Dt.eq (.int i) (.int j)=decide (i=j):=by rw [Dt.eq]
theorem Akk:Dt.eq (.bl k) (.bl l)=(k == l):=by rw [Dt.eq]
theorem V1:Dt.eq (.str x) (.str y)=(x == y):=by rw [Dt.eq]
theorem Ai4:Dt.eq .non .non=true:=by rw [Dt.eq]
theorem AhH:Dt.eq .non (.int i)=false:=by simp [Dt.eq]
theorem Ahw:Dt.eq .non (.tup r)=false:=by simp [Dt.eq]
theorem Ah6:Dt.eq (.tup r) .non=false:=by simp [Dt.eq]
theorem Afm:Dt.eq (.tup r) (.tup s)=Dt.eqs r s:=by rw [Dt.eq]
theorem Afv:Dt.eq (.lst r) (.lst s)=Dt.eqs r s:=by rw [Dt.eq]
theorem Agn:Dt.eqs [] []=true:=by rw [Dt.eqs]
theorem Af7:Dt.eqs (a :: r) (b :: s)=(Dt.eq a b && Dt.eqs r s):=by rw [Dt.eqs]
theorem AfF:Dt.eqs [] (b :: s)=false:=by simp [Dt.eqs]
theorem Abj:Dt.eqs (b :: s) []=false:=by simp [Dt.eqs]
theorem KD:Dt.flat n (.int i)=true:=by cases n <;> rw [Dt.flat] <;> simp
theorem AfG:Dt.flat n (.bl k)=true:=by cases n <;> rw [Dt.flat] <;> simp
theorem Ahe:Dt.flat n .non=true:=by cases n <;> rw [Dt.flat] <;> simp
theorem WT:Dt.flat (n+1) (.tup r)=Dt.flats n r:=by rw [Dt.flat]
theorem Ab8:Dt.flat (n+1) (.lst r)=Dt.flats n r:=by rw [Dt.flat]
theorem Acp:Dt.flat 8 (.tup r)=Dt.flats 7 r:=WT
theorem Yz:Dt.flat 8 (.lst r)=Dt.flats 7 r:=Ab8
theorem Ad8:Dt.flat 7 (.tup r)=Dt.flats 6 r:=WT
theorem AcR:Dt.flat 7 (.lst r)=Dt.flats 6 r:=Ab8
theorem Aet:Dt.flat 6 (.tup r)=Dt.flats 5 r:=WT
theorem Aeu:Dt.flats n []=true:=by rw [Dt.flats]
theorem AdY:Dt.flats n (a :: r)=(Dt.flat n a && Dt.flats n r):=by rw [Dt.flats]
theorem Ur {N:Str} {M:List Str}:Fx (N :: M) (a :: r)=some (.is a) :: Fx M r:=by
 unfold Fx
 simp only [List.map_cons,List.length_cons,List.cons_append,Nat.add_sub_add_right]
theorem Vi {N:Str} {M:List Str}:Fx (N :: M) []=none :: Fx M []:=by
 unfold Fx
 simp [List.replicate_succ]
theorem Vs:Fx [] []=[]:=rfl
theorem Ba (h:n≤1000):n≤sizeLine:=Nat.le_of_lt (Zc h)
theorem Af3:isT "tuple" (.tup r)=true:=rfl
theorem AgX:isT "list" (.lst r)=true:=rfl
theorem Ahd:isT "int" (.int i)=true:=rfl
theorem Agp:isT "bool" (.int i)=false:=rfl
theorem Ag8:isT "int" (.bl k)=true:=rfl
theorem AfT:isT "bool" (.bl k)=true:=rfl
theorem Ahr:isT "tuple" .non=false:=rfl
theorem Age:isT "int" .non=false:=rfl
theorem Ahm:isT "int" (.tup r)=false:=rfl
theorem AgC:isT "bool" (.tup r)=false:=rfl
theorem Amd:noFn (.int i)=true:=rfl
theorem Alo:noFn (.bl k)=true:=rfl
theorem AnI:noFn .non=true:=rfl
theorem AnJ:noFn (.tup r)=true:=rfl
theorem Ang:noFn (.lst r)=true:=rfl
theorem AlQ:noFn (.str x)=true:=rfl
theorem AkT:isB true (.bl k)=k:=by cases k <;> rfl
theorem Akw:isB false (.bl k) = !k:=by cases k <;> rfl
theorem AhP:isB k (.int i)=false:=rfl
theorem AkP:isB k .non=false:=rfl
theorem Agj:isB k (.tup r)=false:=rfl
theorem Ahz:isB k (.lst r)=false:=rfl
theorem AiM:isN .non=true:=rfl
theorem Air:isN (.int i)=false:=rfl
theorem Ahu:isN (.bl k)=false:=rfl
theorem Aj3:isN (.tup r)=false:=rfl
theorem Aii:isN (.lst r)=false:=rfl
end
end L2
namespace L2
open PySem PySem.Spec PyProof.Rows PySem.SeqAt
theorem ifn {c:Bool} {A B:Prop} (h:c=true) (b:B):if (!c)=true then A else B:=by subst h;exact b
theorem ift {c:Bool} {A B:Prop} (h:c=true) (a:A):if c=true then A else B:=by subst h;exact a
theorem Ft {c:Bool} {A B:Prop} (h:c=false) (b:B):if c=true then A else B:=by subst h;exact b
theorem Aj {τ:Type} {args:τ→List Dt} {pre:τ→Prop} {val:τ→Dt} {Q:Dt→Prop} (p:τ) (h:pre p) (k:Q (val p)):Ca args pre val (args p) Q:=⟨p,rfl,h,fun d e=>by rw [e];exact k⟩
theorem Av {τ:Type} {args:τ→List Dt} {pre:τ→Prop} {post:τ→Dt→Prop} {Q:Dt→Prop} (p:τ) (h:pre p) (k:∀ d,post p d→Q d):spec args pre post (args p) Q:=⟨p,rfl,h,k⟩
theorem NP {sl:List Nat} {tt:DTT} {te:DTE} {ρ:BX} {Q:Dt→Prop} {items:List Dt} (p:Dt→Bool) (f:Dt→Dt) (ht:∀ d∈items,∀ R:Bool→Prop,R (p d)→tt (inner sl ρ d) R) (he:∀ d∈items,p d=true→∀ R:Dt→Prop,R (f d)→te (inner sl ρ d) R)
  (hq:Q (.lst ((items.filter p).map f))):∃ W:Nat→List Dt→Prop,W 0 []∧(∀ (k:Nat) d acc,items[k]? = some d→W k acc→tt (inner sl ρ d) fun b=>if b=true then te (inner sl ρ d) fun e=>W (k+1) (acc ++ [e]) else W (k+1) acc) ∧
   ∀ acc,acc.length≤items.length→W items.length acc→Q (.lst acc):=by
 refine ⟨fun k acc=>acc=((items.take k).filter p).map f,by simp,fun k d acc e w=>?_,fun acc _ w=>by rw [w,List.take_length];exact hq⟩
 have hm:=List.mem_of_getElem? e
 refine ht d hm _ ?_
 have ht:=take_succ_filter p items k d e
 by_cases hp:p d=true
 ·rw [if_pos hp]
  refine he d hm hp _ ?_
  show acc ++ [f d]=_
  rw [w,ht,if_pos hp];simp
 ·rw [if_neg hp]
  show acc=_
  rw [w,ht,if_neg hp];simp
theorem comp_map {sl:List Nat} {te:DTE} {ρ:BX} {Q:Dt→Prop} {items:List Dt} (f:Dt→Dt) (he:∀ d∈items,∀ R:Dt→Prop,R (f d)→te (inner sl ρ d) R)
  (hq:Q (.lst (items.map f))):∃ W:Nat→List Dt→Prop,W 0 []∧(∀ (k:Nat) d acc,items[k]? = some d→W k acc→Lj (inner sl ρ d) fun b=>if b=true then te (inner sl ρ d) fun e=>W (k+1) (acc ++ [e]) else W (k+1) acc) ∧
   ∀ acc,acc.length≤items.length→W items.length acc→Q (.lst acc) :=
 NP (fun _=>true) f (fun _ _ _ h=>h) (fun d hm _ R h=>he d hm R h) (by rw [List.filter_eq_self.mpr (fun _ _=>rfl)];exact hq)
theorem Mg {sl:List Nat} {ti:DTI} {tt:DTT} {te:DTE} {ρ:BX} {Q:Dt→Prop} (items:List Dt) (p:Dt→Bool) (f:Dt→Dt) (hi:∀ R:List Dt→Prop,R items→ti ρ R) (hl:items.length≤sizeLine) (hc:caught sl ρ)
  (ht:∀ d∈items,∀ R:Bool→Prop,R (p d)→tt (inner sl ρ d) R) (he:∀ d∈items,p d=true→∀ R:Dt→Prop,R (f d)→te (inner sl ρ d) R) (hq:Q (.lst ((items.filter p).map f))):Jc sl ti tt te ρ Q :=
 hi _ ⟨hl,hc,NP p f ht he hq⟩
theorem Kf {sl:List Nat} {ti:DTI} {te:DTE} {ρ:BX} {Q:Dt→Prop} (items:List Dt) (f:Dt→Dt) (hi:∀ R:List Dt→Prop,R items→ti ρ R) (hl:items.length≤sizeLine) (hc:caught sl ρ)
  (he:∀ d∈items,∀ R:Dt→Prop,R (f d)→te (inner sl ρ d) R) (hq:Q (.lst (items.map f))):Jc sl ti Lj te ρ Q :=
 hi _ ⟨hl,hc,comp_map f he hq⟩
theorem Ia {ti:DTI} {g:DTG} {tb:DTS} {D:GQ} {ρ:BX} (items:List Dt) (hi:∀ R:List Dt→Prop,R items→ti ρ R) (W:Nat→BX→Prop) (h0:W 0 ρ)
  (hs:∀ (k:Nat) d ρ',items[k]? = some d→W k ρ'→g d ρ' fun ρ2=>tb { D with nx:=W (k+1),ct:=W (k+1),bk:=D.nx } ρ2) (he:∀ ρ',W items.length ρ'→D.nx ρ'):Aci ti g tb D ρ:=hi _ ⟨W,h0,hs,he⟩
theorem ints_get {ns:List Int} {k:Nat} {d:Dt} (h:(ns.map Dt.int)[k]? = some d):∃ n,ns[k]? = some n∧d=.int n:=by
 rw [List.getElem?_map] at h
 cases e:ns[k]? with
 | none=>rw [e] at h;cases h
 | some n=>rw [e] at h;cases h;exact ⟨n,rfl,rfl⟩
theorem Fj {ρ:BX}:caught [] ρ:=fun _ h=>(nomatch h)
theorem Vo {j:Nat} {sl:List Nat} {ρ:BX} {d:Dt} (h:ρ[j]? = some (some (.is d))) (r:caught sl ρ):caught (j :: sl) ρ:=fun k hk=>by
 rcases List.mem_cons.mp hk with e | e
 ·subst e;exact ⟨d,h⟩
 ·exact r k e
theorem AcH {ns:List Int} {k:Int} (h0:0≤k) (h1:k < ns.length):ixD k (.lst (ns.map Dt.int))=some (.int (ns.getD k.toNat 0)):=by
 obtain ⟨j,rfl⟩:=Int.eq_ofNat_of_zero_le h0
 have hj:j < ns.length:=by omega
 show (ns.map Dt.int)[j]? = _
 rw [List.getElem?_map]
 simp [hj]
end L2
namespace L2
theorem FZ {c:DTT} {tb:DTS} {D:GQ} {ρ:BX} (W:Nat→BX→Prop) (m:Nat) (h0:W m ρ) (h:∀ m ρ,W m ρ→c ρ fun k=>if k=true then tb { D with nx:=fun ρ'=>∃ m',m' < m∧W m' ρ',ct:=fun ρ'=>∃ m',m' < m∧W m' ρ',bk:=D.nx } ρ else D.nx ρ):Xz c tb D ρ:=⟨W,⟨m,h0⟩,h⟩
end L2
namespace L2
open PySem PySem.Spec PyProof.Rows PySem.SeqAt
noncomputable def Itd (lo:Int) (n:Nat):It:=⟨fun i _=>i < n,fun i H x H'=>H'=H∧x=.int (lo - i),fun i _=>n≤i⟩
theorem Wb {P:Program} {w:World} {K:PySem.W.Frag} {tg:Expr} (it:Addr) (lo:Int) (n:Nat):Turn P w K tg (Itd lo n) [it] it (fun i h=>IsRangeIter h it (lo+(i:Nat)*(-1)) ((n:Int) - (i:Nat)) (-1)) where
 mem:=by simp
 obj:=fun i h st b hb=>by
  have e:b=it:=by simpa using hb
  subst e
  exact ⟨_,st,fun v z=>by
   have z':Data.fields _=Data.cell v:=z
   cases z'⟩
 keep:=fun i h h' st k=>k it (by simp) _ st
 item:=by
  intro X hP hw hK hc i pins s σ H E I hf st hg
  subst hP hw hK
  obtain ⟨f0,f1,f2,f3,f4,f5⟩:=hf it (by simp)
  have W:=Walks.range (prog:=X.prog) (w:=X.w) (I.ok.hd hc) it lo (-1) n
  refine W.item i s _ _ hg st fun v h' tk hv st' kk=>?_
  obtain ⟨t,rfl⟩:=hv
  have I1:Inv X pins σ H { s with heap:=h',toks:=tk }:=I.turned (fun b o hb e=>kk b o (by simpa using hb) e) f0 f1 f3 f4 f5
  refine ⟨_,rfl,Yl (s:={ s with heap:=h',toks:=tk }) (n:="range_iterator") st' rfl rfl (by decide) ⟨.int (lo - i),H,I1,⟨t,?_⟩,⟨rfl,rfl⟩,st',fun b hb=>(hf b hb).1⟩⟩
  have e:lo+(i:Int)*(-1)=lo - i:=by omega
  rw [e]
 done:=by
  intro X hP hw hK hc i pins s σ H E I hf st hg
  subst hP hw hK
  obtain ⟨f0,f1,f2,f3,f4,f5⟩:=hf it (by simp)
  exact wpAny_pyNext_range_end (I.ok.hd hc) st (by have:n≤i:=hg;omega) fun h' eb=>⟨rfl,I.turned (t':=s.toks) (fun b o hb e=>eb b o hb e) f0 f1 f3 f4 f5⟩
 self:=fun _ _ _ _ _ st h=>wpAny_pyIter_rangeiter st h
section
variable {X:Cx} {a b c e:Expr} {es:List Expr} {ta tb te:DTE} {tl:DTA} {pos:Pos}
theorem rangeSize_down (a b:Int):Builtin.Range.rangeSize a b (-1)=if a > b then a - b else 0:=by
 unfold Builtin.Range.rangeSize
 simp only [show ¬ ((-1:Int) > 0) by decide,if_false,Int.neg_neg,Int.ediv_one]
 split <;> omega
theorem small_down {a b:Int} (ha:-(2 ^ 62)≤a) (ha':a < 2 ^ 62) (hb:-(2 ^ 62)≤b) (hb':b < 2 ^ 62):Builtin.Range.small a b (-1)=true:=by
 unfold Builtin.Range.small
 rw [rangeSize_down]
 simp only [Builtin.Range.rangeFitsLong,Bool.and_eq_true,Bool.or_eq_true,decide_eq_true_eq,beq_iff_eq,show ¬ ((-1:Int) > 0) by decide,if_false]
 split <;> omega
noncomputable def Ai6 (ta:TA):TI:=fun σ H R=>ta σ H fun vs H1=>∃ i j:Int,vs=[.int i,.int j,.int (-1)]∧(-(2 ^ 62)≤i∧i < 2 ^ 62∧-(2 ^ 62)≤j∧j < 2 ^ 62)∧R (Itd i (i - j).toNat) H1
theorem Z1 {tg:Expr} {ta:TA} {p:Pos} (hg:Gl X "range") (hm:X.mg "range"=none) (ha:PA X [a,b,c] ta) (hs:starEach [a,b,c] X.env=(false,eval a X.env) :: starEach [b,c] X.env:=by rfl) (hpl:(backTo pos (starEach [b,c] X.env)).any (·.1)=false:=by rfl) :
  PI X tg (.Call (.Name "range" p) [a,b,c] [] pos) (Ai6 ta):=by
 intro pins s σ H R I h
 refine Call_ (KZ I hg hm boot_range (PyProof.Rows.callWith_type1 (thn (ha pos pins s σ H _ I h) fun us s1 ⟨vs,H1,I1,r1,q1⟩=>?_) hs hpl))
 obtain ⟨i,j,e,⟨q1,q2,q3,q4⟩,q⟩:=q1
 subst e
 cases r1 with
 | cons r rr =>
  cases rr with
  | cons r' rr =>
   cases rr with
   | cons r'' rr =>
    cases rr
    obtain ⟨t,rfl⟩:=r
    obtain ⟨t',rfl⟩:=r'
    obtain ⟨t'',rfl⟩:=r''
    refine call_range_3 (by decide) ?_ (.inl (PyProof.noPylong_small (by decide)))
    refine wpAny_pyIter_range (IsRange.new ..) (small_down q1 q2 q3 q4) ?_
    have I2:Inv X pins σ H1 { s1 with heap:=s1.heap.push { cls:=.type "range",data:=.fields #[.int i t,.int j t',.int (-1) t''] },toks:=s1.toks }:=I1.kept fun b o e=>Heap.get?_push_of_some _ e
    refine ⟨(s1.heap.push { cls:=.type "range",data:=.fields #[.int i t,.int j t',.int (-1) t''] }).objs.size,[(s1.heap.push { cls:=.type "range",data:=.fields #[.int i t,.int j t',.int (-1) t''] }).objs.size],_,_,H1,rfl,
     I2.kept (t':=s1.toks) fun b o e=>Heap.get?_push_of_some _ e,Wb _ i (i - j).toNat,?_,fun b hb=>?_,q⟩
    ·have e1:i+((0:Nat):Int)*(-1)=i:=by simp
     have e2:(((i - j).toNat:Nat):Int) - ((0:Nat):Int)=Builtin.Range.rangeSize i j (-1):=by rw [rangeSize_down];split <;> omega
     show IsRangeIter _ _ (i+((0:Nat):Int)*(-1)) ((((i - j).toNat:Nat):Int) - ((0:Nat):Int)) (-1)
     rw [e1,e2]
     exact Heap.get?_push_size _ rfl
    ·have e:b=(s1.heap.push { cls:=.type "range",data:=.fields #[.int i t,.int j t',.int (-1) t''] }).objs.size:=by simpa using hb
     subst e
     exact I2.fpOk (Nat.le_refl _) (I2.hok.fresh (Nat.le_refl _))
noncomputable def downs (hi:Int) (n:Nat):List Dt:=(List.range n).map fun i=>.int (hi - (i:Nat))
theorem R5 {lo:Int} {n:Nat}:(downs lo n).length=n:=by simp [downs]
theorem RD {lo:Int} {n k:Nat} {d:Dt} (h:(downs lo n)[k]? = some d):k < n∧d=.int (lo - (k:Nat)):=by
 unfold downs at h
 rw [List.getElem?_map] at h
 by_cases hk:k < n
 ·rw [List.getElem?_range hk] at h
  exact ⟨hk,(Option.some.inj h).symm⟩
 ·rw [List.getElem?_eq_none (by simpa using hk)] at h;cases h
theorem Ach {K:PySem.W.Frag} {M:Hp} {lo:Int} {n:Nat}:ItD K M (Itd lo n) (downs lo n):=fun H _=>by
 refine ⟨fun k d e=>?_,?_⟩
 ·obtain ⟨hk,rfl⟩:=RD e
  exact ⟨hk,fun x H' y=>⟨y.1,Bc.mpr y.2⟩⟩
 ·rw [R5];exact Nat.le_refl n
noncomputable def Aax (tl:DTA):DTI:=fun ρ Q=>tl ρ fun ds=>match ds with
 | [.int i,.int j,.int k]=>k=-1∧(-(2 ^ 62)≤i∧i < 2 ^ 62∧-(2 ^ 62)≤j∧j < 2 ^ 62)∧Q (downs i (i - j).toNat)
 | _=>False
theorem Aeb {tg:Expr} {p:Pos} (hg:Gl X "range") (hm:X.mg "range"=none) (ha:DA X [a,b,c] tl) (hs:starEach [a,b,c] X.env=(false,eval a X.env) :: starEach [b,c] X.env:=by rfl) (hpl:(backTo pos (starEach [b,c] X.env)).any (·.1)=false:=by rfl) :
  DI X tg (.Call (.Name "range" p) [a,b,c] [] pos) (Aax tl) where
 mono:=fun hq z=>ha.mono (fun d z=>by
  split at z
  ·exact ⟨z.1,z.2.1,hq _ z.2.2⟩
  ·exact z.elim) z
 pi:=(Z1 hg hm ha.pa hs hpl).imp fun σ H Q ⟨B,F,O,ρ,R,z⟩=>⟨B,F,O,ρ,R,ha.mono (fun d z vs H1 s1 r1=>by
  split at z
  ·obtain ⟨e,z1,z2⟩:=z
   subst e
   obtain ⟨v,r,rfl,r2,r3⟩:=Ay.mp r1
   rw [AjP r3,Bc.mp r2]
   exact ⟨_,_,rfl,z1,z2 _ H1 s1 Ach⟩
  ·exact z.elim) z⟩
theorem AcX:MtR X "int.bit_length" (fun x xs H Q=>∃ i,x=.int i∧xs=[]∧Q (.int (Builtin.Int.intBits i)) H):=by
 intro pins s σ H x xs v us Q I rx rs ⟨i,e,e2,q⟩
 subst e e2
 cases rs
 obtain ⟨t,rfl⟩:=rx
 exact call_int_bit_length ⟨.int _,H,I.tok _,⟨_,rfl⟩,q⟩
noncomputable def Aey (ta:DTE):DTE:=fun ρ Q=>ta ρ fun d=>match d with
 | .int i=>Q (.int (Builtin.Int.intBits i))
 | _=>False
theorem S9 {apos:Pos} (ha:DE X a ta) (hbase:attributeBase a "bit_length" X.env (eval a X.env)=eval a X.env:=by rfl) (hline:(apos.endLine == pos.line)=true:=by rfl):DE X (.Call (.Attribute a "bit_length" apos) [] [] pos) (Aey ta) where
 mono:=fun hq h=>ha.mono (fun d h=>by
  split at h
  ·exact hq _ h
  ·exact h.elim) h
 pe:=(AgZ PySem.F.plainAttrs_int PySem.F.slot_int_bit_length PySem.F.type_int_bit_length AcX ha.pe hbase hline).imp fun σ H Q ⟨B,F,O,ρ,R,h⟩=>⟨B,F,O,ρ,R,ha.mono (fun d h v H1 s1 r1=>by
  split at h
  ·rw [Bc.mp r1]
   exact ⟨rfl,_,rfl,rfl,h _ H1 s1 (Bc.mpr rfl)⟩
  ·exact h.elim) h⟩
noncomputable def VJ (P:Program) (w:World) (K:PySem.W.Frag) (mg:Str→Option Value) (base:Heap) (k:Nat) (a:Addr) (sp:DSp):Prop :=
 ∃ fd ps,HN P w K mg base CX0 k a fd ps (lSp K sp)∧Binds K fd ps []∧PySem.W.keepIn K (.ref a)=true
theorem Pm.val {P:Program} {w:World} {K:PySem.W.Frag} {mg:Str→Option Value} {base:Heap} {k:Nat} {x:Str} {st:Stmt} {ps:List Str} {sp:DSp} (h:Pm P w K mg base k x st ps sp):∃ a,mg x=some (.ref a)∧VJ P w K mg base k a sp:=by
 obtain ⟨f,fd,F,G⟩:=h
 exact ⟨f,F.mg,fd,ps,G,F.bd,F.fn.kp⟩
theorem Afw {x:Str} {f:Addr} {pos:Pos} (hm:X.mg x=some (.ref f)) (hg:Gl X x:=by rfl) (hd:(x == ("__debug__":Str))=false:=by decide):DE X (.Name x pos) (dC (.fn f)):=Jp (v:=.ref f) hg hm rfl (fun _=>Ae1.mpr rfl) hd
noncomputable def AbP (P:Program) (w:World) (K:PySem.W.Frag) (mg:Str→Option Value) (base:Heap) (k:Nat) (tf:DTE) (tl:DTA):DTE:=fun ρ Q=>tf ρ fun d=>match d with
 | .fn a=>PySem.W.keepIn K (.ref a)=true∧tl ρ fun ds=>∃ sp,Hy sp∧VJ P w K mg base k a sp∧sp ds Q
 | _=>False
theorem Vq {k:Nat} {x:Str} {p:Pos} {tf:DTE} (hr:Ez k X.A) (hf:DE X (.Name x p) tf) (ha:DA X (e :: es) tl)
  (he:starEach (e :: es) X.env=(false,eval e X.env) :: starEach es X.env:=by rfl) (hpl:(backTo pos (starEach es X.env)).any (·.1)=false:=by rfl) :
  DE X (.Call (.Name x p) (e :: es) [] pos) (AbP X.prog X.w X.K X.mg X.base k tf tl) where
 mono:=fun hq h=>hf.mono (fun d h=>by
  split at h
  ·exact ⟨h.1,ha.mono (fun ds ⟨sp,m,v,z⟩=>⟨sp,m,v,m _ _ _ hq z⟩) h.2⟩
  ·exact h.elim) h
 pe:=by
  intro pins s σ H Q I h
  obtain ⟨B,F,O,ρ,R,h⟩:=h
  refine wpAny_Call_Name_kw (thn (hf.pe pins s σ H (fun v H1=>∃ f,v=.ref f∧Same H H1∧PySem.W.keepIn X.K (.ref f)=true∧tl ρ fun ds=>∃ sp,Hy sp∧VJ X.prog X.w X.K X.mg X.base k f sp∧sp ds fun d=>∀ v H',Same H H'→Rp X.K (mask (F ++ O) H') d v→Q v H') I ?_) ?_)
  ·refine ⟨B,F,O,ρ,R,hf.mono (fun d h v H1 s1 r1=>?_) h⟩
   split at h
   ·rename_i f
    exact ⟨f,Ae1.mp r1,s1,h.1,h.2⟩
   ·exact h.elim
  ·rintro u s1 ⟨v,H1,I1,r1,f,rfl,s1',hk,z⟩
   cases (show u=Value.ref f from r1)
   refine PySem.W.callWith_K (h₀:=X.base) I.ok.mod.kin hk (thn (ha.pa pos pins s1 σ H1 (fun vs H2=>∃ sp,VJ X.prog X.w X.K X.mg X.base k f sp∧lSp X.K sp vs H2 Q E0) I1 ⟨B,F,O,ρ,R.same s1',ha.mono (fun ds ⟨sp,m,fv,z⟩ vs H2 s2 r2=>⟨sp,fv,F ++ O,ds,((R.same s1').same s2).th,r2,m _ _ _ (fun d q v H3 s3 r3=>q v H3 ((s1'.trans s2).trans s3) r3) z⟩) z⟩) fun us s2 ⟨vs,H2,I2,r,q⟩=>⟨I2.kIn,?_⟩) he hpl
   obtain ⟨sp,⟨fd,ps,G,hb,_⟩,q⟩:=q
   exact TQ (dvs:=[]) G hr hb .nil U8 I2 r (by rw [List.append_nil];exact q)
noncomputable def lF (K:PySem.W.Frag) (t:DTA):TE:=fun σ H Q=>∃ B F O ρ,Rep K B F O H σ ρ∧t ρ fun ds=>∀ p H' vs,Same H H'→H' p=some (.lst vs)→p∉F ++ O→RpL K (mask (F ++ O) H') ds vs→Q (.ref p) H'
structure DF (X:Cx) (e:Expr) (t:DTA):Prop where
 mono:∀ {ρ Q Q'},(∀ d,Q d→Q' d)→t ρ Q→t ρ Q'
 pe:PE X e (lF X.K t)
noncomputable def dOf (t:DTA):DTE:=fun ρ Q=>t ρ fun ds=>Q (.lst ds)
theorem DF.de {t:DTA} (h:DF X e t):DE X e (dOf t) where
 mono:=fun hq z=>h.mono (fun _ z=>hq _ z) z
 pe:=h.pe.imp fun σ H Q ⟨B,F,O,ρ,R,z⟩=>⟨B,F,O,ρ,R,h.mono (fun ds z p H' vs s e n r=>z (.ref p) H' s (Ka ⟨p,vs,rfl,(by rw [Bd n];exact e),r⟩)) z⟩
noncomputable def Ai3 (tl:DTA):DTA:=fun ρ Q=>tl ρ fun ds=>ds.length≤sizeLine∧Q ds
noncomputable def YX (te:DTE) (tl th:DTO):DTA:=fun ρ Q=>te ρ fun d=>tl ρ fun lo=>th ρ fun hi=>match d with
 | .lst ds=>Q (cutD ds lo hi)
 | _=>False
theorem Uv {lo hi:Option Expr} {t1 t2:DTO} {p2:Pos} (he:DE X e te) (hl:DO X lo t1) (hh:DO X hi t2):DF X (.Subscript e (.Slice lo hi none p2) pos) (YX te t1 t2) where
 mono:=fun hq z=>he.mono (fun d z=>hl.mono (fun l z=>hh.mono (fun h z=>by
  split at z
  ·exact hq _ z
  ·exact z.elim) z) z) z
 pe:=(Vd Y7 he.pe hl.po hh.po).imp fun σ H Q ⟨B,F,O,ρ,R,z⟩=>⟨B,F,O,ρ,R,he.mono (fun d z v H1 s1 r1=>⟨B,F,O,ρ,R.same s1,hl.mono (fun l z H2 s2=>⟨B,F,O,ρ,(R.same s1).same s2,hh.mono (fun h z H3 s3=>by
  split at z
  ·obtain ⟨a,xs,rfl,hs,hr⟩:=FP ((r1.mono s2.mask).mono s3.mask)
   refine ⟨a,xs,rfl,Bf.seq hs,fun p hp=>?_⟩
   have R3:=((R.same s1).same s2).same s3
   have np:p∉F ++ O:=fun m=>R3.th p m hp
   exact z p _ _ (((s1.trans s2).trans s3).trans (Same.upd hp)) Bl np (hr.cut.mono (Same.upd hp).mask)
  ·exact z.elim) z⟩) z⟩) z⟩
noncomputable def AeG (t u:DTA):DTA:=fun ρ Q=>t ρ fun xs=>u ρ fun ys=>xs.length+ys.length≤sizeLine∧Q (xs ++ ys)
theorem AgA {t u:DTA} (ha:DF X a t) (hb:DF X b u):DF X (.BinOp a .Add b pos) (AeG t u) where
 mono:=fun hq z=>ha.mono (fun _ z=>hb.mono (fun _ z=>⟨z.1,hq _ z.2⟩) z) z
 pe:=(Afh AfR ha.pe hb.pe).imp fun σ H Q ⟨B,F,O,ρ,R,z⟩=>⟨B,F,O,ρ,R,ha.mono (fun xs z p H1 vs s1 e1 n1 r1=>⟨B,F,O,ρ,R.same s1,hb.mono (fun ys z p2 H2 ws s2 e2 n2 r2=>by
  refine ⟨p,p2,vs,ws,rfl,rfl,s2 _ _ e1,e2,by rw [r1.len,r2.len];exact z.1,fun l hl=>?_⟩
  have np:l∉F ++ O:=fun m=>((R.same s1).same s2).th l m hl
  exact z.2 l _ _ ((s1.trans s2).trans (Same.upd hl)) Bl np (((r1.mono s2.mask).append r2).mono (Same.upd hl).mask)) z⟩) z⟩
end
end L2
namespace L2
open PySem PySem.Spec PyProof.Rows PySem.SeqAt
section
variable {X:Cx} {elt iter:Expr} {x:Str} {px:Pos} {ifs:List Expr} {scope:Scope} {pos:Pos} {N:List Str} {sl:List Nat} {wi:TI} {tt:TT} {te:TE}
theorem Wv {pins:List (Addr × Obj)} {σ:St} {H2:Hp} {s2:Shared} {cl:List (Str × Addr)} {it:Addr} {fp:List Addr} {tn:Nat→Heap→Prop} {J:It} {vs:List V} {PP:Value→Addr→Result→Shared→Prop} {E:Value→Shared→Prop} {QD:Hp→Prop} (S:Ei X scope x N sl) (hc:X.calm=true)
  (ht:∀ cl C s₀ H₀ ex,PTs (Bm X scope (x :: N) cl C s₀ H₀ ex) ifs tt) (he:∀ cl C s₀ H₀ ex,PE (Bm X scope (x :: N) cl C s₀ H₀ ex) elt te)
  (hcl:∀ n c,cl.lookup n=some c→X.env.cells.lookup n=some c) (hcl2:∀ n,(n,NameKind.free)∈scope.names→∃ c,cl.lookup n=some c)
  (I2:Inv X pins σ H2 s2) (T:Turn X.prog X.w X.K (.Name x px) J fp it tn) (st2:tn 0 s2.heap) (f2:∀ b∈fp,LR X pins H2 b) (hvs:sl.map (fun j=>σ[j]?)=vs.map (fun v=>some (some v)))
  (hW:∃ W:Nat→Nat→List V→Hp→Prop,(∃ m,W 0 m [] (upd H2 s2.heap.objs.size (.lst [])))∧∀ i m acc H,W i m acc H →
   (J.stop i H∧QD H)∨(J.go i H∧∀ x H',J.yld i H x H'→tt (some x :: vs.map some) H' fun b H2' =>
    if b=true then te (some x :: vs.map some) H2' fun y H3=>H3 s2.heap.objs.size=some (.lst acc)∧acc.length < sizeLine∧∃ m',m' < m∧W (i+1) m' (acc ++ [y]) (upd H3 s2.heap.objs.size (.lst (acc ++ [y])))
    else ∃ m',m' < m∧W (i+1) m' acc H2'))
  (fin:∀ (C:Addr),(s2.heap.push { cls:=.type "list",data:=.seq ([]:List Value).toArray }).objs.size=C→∀ {σ':St} {H':Hp} {s':Shared},Inv (Bm X scope (x :: N) cl C { s2 with heap:=s2.heap.push { cls:=.type "list",data:=.seq ([]:List Value).toArray },toks:=s2.toks } (upd H2 s2.heap.objs.size (.lst [])) fp) [] σ' H' s'→QD H'→PP (.ref s2.heap.objs.size) C (.ok .next) s') :
  wpAny (model X.prog X.w) X.A (newList []) (fun acc s₃=>wpAny (model X.prog X.w) X.A (newFunctionEnv scope X.env.globals cl [] X.env.qual none .none (some X.env)) (fun cenv s₄ =>
   codeAny (model X.prog X.w) X.A (.compStart (.ListComp elt [⟨.Name x px,iter,ifs,0⟩] scope pos) 0 (.ref it) acc { cenv with scope:=relabel scope X.env }) (PP acc cenv.locals) s₄) E s₃) E s2:=by
 refine wpAny_newObj_type (wpAny_newFunctionEnv S.cell (by intro y hy;simp at hy) (fun h₁ hns₁ hsb₁=>?_) S.kind)
 have hD:H2 s2.heap.objs.size=none:=I2.fresh
 have I3:Inv X pins σ (upd H2 s2.heap.objs.size (.lst [])) { s2 with heap:=s2.heap.push { cls:=.type "list",data:=.seq ([]:List Value).toArray },toks:=s2.toks }:=I2.lnew (its:=[]) (ys:=[]) .nil (Nat.zero_le _)
 have hbD:∀ b∈fp,b≠s2.heap.objs.size:=fun b hb z=>by
  obtain ⟨o',e',_⟩:=T.obj _ _ st2 b hb
  exact absurd (Heap.lt_size e') (by rw [z];exact Nat.lt_irrefl _)
 have f3:∀ b∈fp,LR X pins (upd H2 s2.heap.objs.size (.lst [])) b:=fun b hb=>⟨by rw [Aw (hbD b hb)];exact (f2 b hb).1,(f2 b hb).2⟩
 have ob3:∀ b∈fp,∃ o,(s2.heap.push { cls:=.type "list",data:=.seq ([]:List Value).toArray }).get? b=some o:=fun b hb=>by
  obtain ⟨o',e',_⟩:=T.obj _ _ st2 b hb
  exact ⟨o',Heap.get?_push_of_some _ e'⟩
 have IC:=Wh (tk:=s2.toks+([]:List (Str × Value)).length) S I3 f3 ob3 hns₁ hsb₁ hcl hcl2 hvs
 dsimp only at hsb₁ IC ⊢
 generalize hCC:(s2.heap.push { cls:=.type "list",data:=.seq ([]:List Value).toArray }).objs.size=C at hns₁ hsb₁ IC ⊢
 have old:∀ b o,s2.heap.get? b=some o→h₁.get? b=some o:=fun b o e=>by
  have e1:(s2.heap.push { cls:=.type "list",data:=.seq ([]:List Value).toArray }).get? b=some o:=Heap.get?_push_of_some _ e
  exact (hsb₁.2 b (by rw [←hCC];exact Nat.ne_of_lt (Heap.lt_size e1))).trans (Heap.get?_push_of_some _ e1)
 have st₁:tn 0 h₁:=T.keep _ _ _ st2 fun b hb o e=>old b o e
 obtain ⟨W,⟨m0,w0⟩,turn⟩:=hW
 have fpC:∀ {H':Hp} {pl:List (Addr × Obj)},(∀ b∈fp,H' b=none)→(∀ p∈pl,p.1∉fp)→∀ b∈fp,LR (Bm X scope (x :: N) cl C { s2 with heap:=s2.heap.push { cls:=.type "list",data:=.seq ([]:List Value).toArray },toks:=s2.toks } (upd H2 s2.heap.objs.size (.lst [])) fp) pl H' b:=fun {H' pl} hn hp b hb=>by
  refine ⟨hn b hb,(IC.ok.exf b hb).1,IC.ok.exfs b hb,.inl hb,(IC.ok.exf b hb).2,fun p hq z=>?_⟩
  have hq':p∈pl:=by simpa [Bm] using hq
  exact hp p hq' (by rw [z];exact hb)
 have loop:codeAny (model X.prog X.w) X.A (.compLoop (.ListComp elt [⟨.Name x px,iter,ifs,0⟩] scope pos) 0 (.ref it) (.ref s2.heap.objs.size) (compEnvC scope cl C X.env)) (PP (.ref s2.heap.objs.size) C)
   { s2 with heap:=h₁,toks:=s2.toks+([]:List (Str × Value)).length }:=by
  refine codeAny_compLoop_tests (fun n s'=>∃ i acc σ' H',Inv (Bm X scope (x :: N) cl C { s2 with heap:=s2.heap.push { cls:=.type "list",data:=.seq ([]:List Value).toArray },toks:=s2.toks } (upd H2 s2.heap.objs.size (.lst [])) fp) [] σ' H' s'∧(∃ y,σ'=y :: vs.map some) ∧
   tn i s'.heap∧(∀ b∈fp,H' b=none)∧W i n acc H') ?_ m0 ⟨0,[],_,_,IC,⟨none,rfl⟩,st₁,fun b hb=>(f3 b hb).1,w0⟩
  rintro n s3 ⟨i,acc,σ3,H3,I4,⟨y,rfl⟩,st3,fr3,w3⟩
  rcases turn i n acc H3 w3 with ⟨stop,qn⟩ | ⟨go,step⟩
  ·refine wpAny_mono (T.done (Bm X scope (x :: N) cl C { s2 with heap:=s2.heap.push { cls:=.type "list",data:=.seq ([]:List Value).toArray },toks:=s2.toks } (upd H2 s2.heap.objs.size (.lst [])) fp) rfl rfl rfl hc i [] s3 _ H3 (fun _ _=>False) I4 (fpC fr3 (by simp)) st3 stop) (fun r s4 ⟨hr,I5⟩=>?_) fun _ _ z=>False.elim z
   subst hr
   exact fin C hCC I5 qn
  ·refine wpAny_mono (T.item (Bm X scope (x :: N) cl C { s2 with heap:=s2.heap.push { cls:=.type "list",data:=.seq ([]:List Value).toArray },toks:=s2.toks } (upd H2 s2.heap.objs.size (.lst [])) fp) rfl rfl rfl hc i [] s3 _ H3 (fun _ _=>False) I4 (fpC fr3 (by simp)) st3 go) (fun r s4 ⟨u,hr,h4⟩=>?_) fun _ _ z=>False.elim z
   subst hr
   have e0:∀ (k:Unit→Sem Unit),(letOwnedTupleGo (.Name x px) (.ref it) u >>= k)=k ():=fun k=>rfl
   have hg:PG (Bm X scope (x :: N) cl C { s2 with heap:=s2.heap.push { cls:=.type "list",data:=.seq ([]:List Value).toArray },toks:=s2.toks } (upd H2 s2.heap.objs.size (.lst [])) fp) (.Name x px) (Y6 0):=SN S.nd rfl (.inl (lookup_relabel_local S.hx)) (.inr (lookup_relabel_local S.hx))
   show wpAny (model X.prog X.w) X.A (assign (.Name x px) (compEnvC scope cl C X.env) u) _ _ s4
   rw [←e0 fun _=>assign (.Name x px) (compEnvC scope cl C X.env) u]
   refine wpAny_bind (wpAny_mono h4 (fun _ s5 ⟨z,H5,I5,r5,y5,st5,fr5⟩=>?_) fun _ _ z=>False.elim z)
   have I5':=I5.pinned (fpC fr5 (by simp)) (T.obj _ _ st5)
   have W5:=hg _ s5 _ H5 z u (fun σ' H'=>σ'=some z :: vs.map some∧H'=H5) I5' r5 ⟨rfl,rfl⟩
   refine wpAny_mono W5 (fun _ s6 ⟨σ6,H6,I6,e6,e7⟩=>?_) fun _ _ z=>False.elim z
   subst e6 e7
   refine wpAny_mono (ht _ _ _ _ _ _ s6 _ H6 _ I6 (step z H6 y5)) (fun b s7 ⟨H7,I7,q7⟩=>?_) fun _ _ z=>False.elim z
   have again:∀ {H8:Hp} {s8:Shared} {acc':List V},Inv (Bm X scope (x :: N) cl C { s2 with heap:=s2.heap.push { cls:=.type "list",data:=.seq ([]:List Value).toArray },toks:=s2.toks } (upd H2 s2.heap.objs.size (.lst [])) fp) ([] ++ M8 fp s5.heap) (some z :: vs.map some) H8 s8→(∃ m',m' < n∧W (i+1) m' acc' H8)→∃ m,m < n∧∃ i acc σ' H',Inv (Bm X scope (x :: N) cl C { s2 with heap:=s2.heap.push { cls:=.type "list",data:=.seq ([]:List Value).toArray },toks:=s2.toks } (upd H2 s2.heap.objs.size (.lst [])) fp) [] σ' H' s8∧(∃ y,σ'=y :: vs.map some)∧tn i s8.heap∧(∀ b∈fp,H' b=none)∧W i m acc H':=fun {H8 s8 acc'} I8 ⟨m',hm,w8⟩=>by
    refine ⟨m',hm,i+1,acc',_,H8,I8.unpinned,⟨_,rfl⟩,T.keep _ _ _ st5 fun b hb o e=>(I8.pin (b,o) (List.mem_append_right _ (List.mem_append_right _ (Gm hb e)))).1,fun b hb=>?_,w8⟩
    obtain ⟨o,e,d⟩:=T.obj _ _ st5 b hb
    exact (I8.pin (b,o) (List.mem_append_right _ (List.mem_append_right _ (Gm hb e)))).2.1
   cases b with
   | false=>exact again I7 q7
   | true =>
    rw [if_pos rfl]
    refine wpAny_mono (he _ _ _ _ _ _ s7 _ H7 _ I7 q7) (fun v8 s8 ⟨x8,H8,I8,r8,hD8,hz8,q8⟩=>?_) fun _ _ z=>False.elim z
    refine wpAny_mono (Ni (X:=(Bm X scope (x :: N) cl C { s2 with heap:=s2.heap.push { cls:=.type "list",data:=.seq ([]:List Value).toArray },toks:=s2.toks } (upd H2 s2.heap.objs.size (.lst [])) fp)) _ s8 _ H8 (.ref s2.heap.objs.size) [x8] (.ref s2.heap.objs.size) [v8] (fun _ H9=>H9=upd H8 s2.heap.objs.size (.lst (acc ++ [x8]))) I8 rfl (.cons r8 .nil) ⟨_,acc,x8,rfl,rfl,hD8,hz8,rfl⟩) (fun _ s9 ⟨_,H9,I9,_,e9⟩=>?_) fun _ _ z=>False.elim z
    subst e9
    exact again I9 q8
 exact codeAny_compStart_list loop (T.self _ 0 _ _ _ st₁ loop)
noncomputable def AiF (i:Nat) (sl:List Nat) (wi:TI) (tt:TT) (te:TE):TS:=fun D σ H=>X3 sl wi tt te σ H fun v H'=>D.nx (σ.set i (some v)) H'
theorem Yw {i:Nat} {y:Str} {py spos:Pos} (S:Ei X scope x N sl) (hc:X.calm=true) (hN:X.N.Nodup) (hyi:X.N[i]? = some y) (hy:X.env.scope.names.lookup y=some .local) (hi:PI X (.Name x px) iter wi)
  (ht:∀ cl C s₀ H₀ ex,PTs (Bm X scope (x :: N) cl C s₀ H₀ ex) ifs tt) (he:∀ cl C s₀ H₀ ex,PE (Bm X scope (x :: N) cl C s₀ H₀ ex) elt te)
  (hsw:swapsWith (.ListComp elt [⟨.Name x px,iter,ifs,0⟩] scope pos) (some (.Name y py)) spos.line X.env=pure true) (hs:∀ x,foldedSetIterable iter X.env x=pure x:=by intro _;rfl) :
  PS X (.Assign [.Name y py] (.ListComp elt [⟨.Name x px,iter,ifs,0⟩] scope pos) spos) (AiF i sl wi tt te):=by
 intro pins s σ H DD I h
 obtain ⟨cl,hclos,hcl,hcl2⟩:=Pk (env:=X.env) (scope:=scope) fun y hy hf=>I.ok.has y.1 (.inl (S.free y hy hf))
 rw [exec_Assign_Name_used _ _ _ _ hsw]
 refine wpAny_bind (wpAny_standAt (wpAny_bind ?_))
 show wpAny _ X.A (do let _ ←comprehension (.ListComp elt [⟨.Name x px,iter,ifs,0⟩] scope pos) scope X.env _ (newList []) false (eval iter X.env) (some (assign (.Name y py) X.env))) _ _ s
 refine wpAny_bind (wpAny_mono (wpAny_comprehension_free (use:=some (assign (.Name y py) X.env)) (Q:=fun _ s'=>SP X pins DD .next s') rfl hs hclos S.kind S.names
  (thn (hi pins s σ H _ I h) fun v s1 h1=>thn h1 fun itv s2 h2=>?_)) (fun _ s' hq=>wpAny_pure (wpAny_pure hq)) fun _ _ e=>e)
 obtain ⟨it,fp,tn,J,H2,e,I2,T,st2,f2,vs,hvs,hW⟩:=h2
 subst e
 refine Wv (QD:=fun H'=>DD.nx (σ.set i (some (.ref s2.heap.objs.size))) H') (PP:=fun acc C=>compPost (model X.prog X.w) X.A X.xe (some (assign (.Name y py) X.env)) (fun _ s'=>SP X pins DD .next s') acc C) S hc ht he hcl hcl2 I2 T st2 f2 hvs (hW s2.heap.objs.size I2.fresh) fun C hCC {σ' H' s'} J q=>?_
 have hD:H2 s2.heap.objs.size=none:=I2.fresh
 have nC:∀ b o,s2.heap.get? b=some o→b≠C:=fun b o e=>by
  have e1:(s2.heap.push { cls:=.type "list",data:=.seq ([]:List Value).toArray }).get? b=some o:=Heap.get?_push_of_some _ e
  rw [←hCC];exact Nat.ne_of_lt (Heap.lt_size e1)
 have u:Un (frs X.stack) fp H2 H' s2.heap s'.heap:=(Un.laid (fun b u e=>Heap.get?_push_of_some _ e) (Nat.le_refl _) hD).trans J.base
 have hos:s'.os=s2.os:=J.os
 have IX:Inv X pins σ H' s':=I2.call' (ch:=fp) hos u J.hok J.bare fun b hb=>⟨(f2 b hb).2.2.2.1,(f2 b hb).2.1,(f2 b hb).2.2.2.2.1,(f2 b hb).2.2.2.2.2⟩
 have hLC:X.env.locals≠C:=by
  obtain ⟨m,⟨o,_,_,ho,_⟩,_⟩:=I2.loc
  exact nC _ o ho
 have hcC:∀ y c,X.env.cells.lookup y=some c→c≠C:=fun y c e=>by
  obtain ⟨v,o,ho,_⟩:=I2.cell y c e
  exact nC _ o ho
 show wpAny _ X.A (assign (.Name y py) X.env (.ref s2.heap.objs.size)) _ _ _
 refine wpAny_assign_Name (RJ IX hN hyi (.inl hy) (v:=.ref s2.heap.objs.size) rfl (fun s'' I'' ⟨a,hs2,ha⟩=>?_) (.inr hy))
 obtain ⟨m,hn,_⟩:=id J.loc
 have haC:C≠a:=by
  rcases ha with z | z
  ·rw [z];exact Ne.symm hLC
  ·exact Ne.symm (hcC y a z)
 refine ⟨m,hn.sameBut hs2 haC,fun h' hs'=>⟨_,H',?_,q⟩⟩
 refine I''.turned (t':=s''.toks) (it:=C) (fun b o hb e=>(hs'.2 b hb).trans e) J.free (Ne.symm hLC) (.inr ?_) hcC (fun p hp z=>?_)
 ·rw [←hCC]
  exact Nat.le_trans I2.sz (by rw [Heap.size_push];exact Nat.le_succ _)
 ·obtain ⟨e,_⟩:=I2.pin p hp
  exact nC _ _ e z
theorem J6 {sl:List Nat} {ti:DTI} {dt:DTT} {de:DTE} (mi:∀ {ρ Q Q'},(∀ d,Q d→Q' d)→ti ρ Q→ti ρ Q'):∀ {ρ Q Q'},(∀ d,Q d→Q' d)→Jc sl ti dt de ρ Q→Jc sl ti dt de ρ Q' :=
 fun hq h=>mi (fun items ⟨h1,h2,W,w0,st,fin⟩=>⟨h1,h2,W,w0,st,fun acc l w=>hq _ (fin acc l w)⟩) h
noncomputable def Yi (i:Nat) (sl:List Nat) (ti:DTI) (tt:DTT) (te:DTE):DTS:=fun D ρ=>Jc sl ti tt te ρ fun d=>D.nx (ρ.set i (some (.is d)))
theorem AbG {ti:DTI} {dt:DTT} {de:DTE} {y:Str} {py spos:Pos} (i:Nat) (S:Ei X scope x N sl) (hc:X.calm=true) (hN:X.N.Nodup) (hyi:X.N[i]? = some y) (hy:X.env.scope.names.lookup y=some .local) (hi:DI X (.Name x px) iter ti)
  (ht:∀ cl C s₀ H₀ ex,DTs (Bm X scope (x :: N) cl C s₀ H₀ ex) ifs dt) (he:∀ cl C s₀ H₀ ex,DE (Bm X scope (x :: N) cl C s₀ H₀ ex) elt de)
  (hsw:swapsWith (.ListComp elt [⟨.Name x px,iter,ifs,0⟩] scope pos) (some (.Name y py)) spos.line X.env=pure true) (hs:∀ x,foldedSetIterable iter X.env x=pure x:=by intro _;rfl) :
  DS X (.Assign [.Name y py] (.ListComp elt [⟨.Name x px,iter,ifs,0⟩] scope pos) spos) (Yi i sl ti dt de) where
 mono:=fun hd h=>J6 (ti:=ti) hi.mono (fun d q=>hd.nx _ q) h
 ps:=(Yw (tt:=lT X.K dt) (te:=lE X.K de) S hc hN hyi hy hi.pi (fun cl C s₀ H₀ ex=>(ht cl C s₀ H₀ ex).pts) (fun cl C s₀ H₀ ex=>(he cl C s₀ H₀ ex).pe) hsw hs).imp fun D σ H ⟨B,F,O,ρ,R,h⟩ =>
  VF (ti:=ti) (dt:=dt) (de:=de) hi.mono (ht [] 0 X.s₀ X.H₀ []).mono (he [] 0 X.s₀ X.H₀ []).mono σ H _ ⟨B,F,O,ρ,R,J6 (ti:=ti) hi.mono (fun d q v H' s r=>q O _ H' ((R.same s).set i r)) h⟩
theorem AcV {ti:DTI} {de:DTE} {y:Str} {py spos:Pos} (i:Nat) (hN:X.N.Nodup) (S:Ei X scope x N sl) (hc:X.calm=true) (hi:DI X (.Name x px) iter ti) (he:∀ cl C s₀ H₀ ex,DE (Bm X scope (x :: N) cl C s₀ H₀ ex) elt de)
  (hyi:X.N[i]? = some y:=by rfl) (hy:X.env.scope.names.lookup y=some .local:=by rfl) (hsw:swapsWith (.ListComp elt [⟨.Name x px,iter,[],0⟩] scope pos) (some (.Name y py)) spos.line X.env=pure true:=by rfl) (hs:∀ x,foldedSetIterable iter X.env x=pure x:=by intro _;rfl) :
  DS X (.Assign [.Name y py] (.ListComp elt [⟨.Name x px,iter,[],0⟩] scope pos) spos) (Yi i sl ti Lj de):=AbG i S hc hN hyi hy hi (fun _ _ _ _ _=>Tj) he hsw hs
end
section
variable {prog:Program} {w:World} {A:Around} {E:Value→Shared→Prop} {s:Shared}
end
section
variable {X:Cx} {es:List Expr} {pos:Pos}
noncomputable def Akh (n:Nat) (gs:Tc):DTG:=fun d ρ Q=>match d with
 | .lst ds=>ds.length=n∧gs ds ρ Q
 | _=>False
end
end L2
namespace L2
end L2
namespace L2
theorem T5 {n:Nat} {x:PySem.Str}:Dt.flat n (.str x)=(PySem.PyData.str x).canLay0:=by cases n <;> rw [Dt.flat]
end L2
namespace L2
open PySem PySem.Spec PyProof.Rows PySem.SeqAt
section
variable {X:Cx} {pins:List (Addr × Obj)} {σ:St} {H:Hp} {s:Shared} {h':Heap} {a dx C U f fI:Addr} {φ ψ:Heap→Prop}
end
end L2
namespace L2
open PySem PySem.Spec PyProof.Rows PySem.SeqAt
structure AfY where
 d:GQ
 ex:BX→Dt→Prop
noncomputable abbrev KY:=AfY→BX→Prop
noncomputable abbrev Vg:=BX→(Dt→Prop)→(Dt→Prop)→Prop
section
variable {X:Cx} {a b c e:Expr} {es:List Expr} {st:Stmt} {sts sa sb:List Stmt} {t u:KY} {ts us:DTS} {te:Vg} {tA:DTT} {tl:DTA} {pos:Pos}
noncomputable def AgS (t:DTS):KY:=fun D ρ=>t D.d ρ
noncomputable def Aho:KY:=fun D ρ=>D.d.nx ρ
noncomputable def AiD (t u:KY):KY:=fun D ρ=>t ⟨{ D.d with nx:=u D },D.ex⟩ ρ
noncomputable def Am9 (c:DTT) (t u:KY):KY:=fun D ρ=>c ρ fun k=>if k=true then t D ρ else u D ρ
noncomputable def AfH (te:Vg):KY:=fun D ρ=>te ρ (fun _=>D.d.nx ρ) (D.ex ρ)
noncomputable def Ak3 (te:Vg):KY:=fun D ρ=>te ρ D.d.rt (D.ex ρ)
noncomputable def AiI (te:Vg) (g:DTG):KY:=fun D ρ=>te ρ (fun d=>g d ρ D.d.nx) (D.ex ρ)
noncomputable abbrev Anf:=List Dt→(Dt→Prop)→(Dt→Prop)→Prop
noncomputable def AfZ (sp:Anf) (tl:DTA):Vg:=fun ρ Q E=>tl ρ fun ds=>sp ds Q E
noncomputable def Ag5 (c:Str) (ns:List Str) (tl:DTA):KY:=fun D ρ=>tl ρ fun ds=>ds.length=ns.length∧ds.length≤1000∧D.ex ρ (.exc c ns ds)
end
section
variable {P:Program} {w:World} {K:PySem.W.Frag} {mg:Str→Option Value} {base:Heap}
end
end L2
namespace L2
open PySem PySem.Spec PyProof.Rows PySem.SeqAt
section
variable {X:Cx} {pins:List (Addr × Obj)} {σ:St} {H:Hp} {s:Shared}
end
noncomputable def Under (K:PySem.W.Frag) (mg:Str→Option Value) (c T:Str):Prop:=∀ C U,PySem.W.nsIn K mainGlobals c=some (some (.ref C))→XC K C U→mg T=some (.ref U)
section
variable {X:Cx} {tb:KY} {ts:DTS} {pos tp hp:Pos} {T n:Str} {U:Addr} {body suite:List Stmt} {b₀:Stmt}
noncomputable def Ab4 (K:PySem.W.Frag) (mg:Str→Option Value) (T:Str) (j:Nat) (ts:DTS) (D:GQ) (ρ:BX) (x:Dt):Prop:=match x with
 | .exc c ns ds=>Under K mg c T∧ts { nx:=fun ρ2=>D.nx (ρ2.set j none),rt:=fun _=>False } (ρ.set j (some (.is (.exc c ns ds))))
 | _=>False
noncomputable def AlE (K:PySem.W.Frag) (mg:Str→Option Value) (T:Str) (j:Nat) (tb:KY) (ts:DTS):KY:=fun D ρ=>tb ⟨D.d,Ab4 K mg T j ts D.d⟩ ρ
end
end L2
namespace L2
open PySem PySem.Spec PyProof.Rows PySem.SeqAt
noncomputable def Aht (K:PySem.W.Frag) (c:Str) (A:Addr) (b:Bool):Prop:=∀ C,PySem.W.nsIn K mainGlobals c=some (some (.ref C))→PySem.W.kitOne K (.ref C) (.ref A)=some b
noncomputable def Akj (K:PySem.W.Frag) (c:Str) (As:List Addr) (b:Bool):Prop:=∀ C,PySem.W.nsIn K mainGlobals c=some (some (.ref C))→PySem.W.kitAny K (.ref C) (As.map .ref)=some b
noncomputable def Rf (K:PySem.W.Frag) (c f:Str):Prop:=∀ C,PySem.W.nsIn K mainGlobals c=some (some (.ref C))→PySem.W.findIn K (.ref C) f=some none
section
variable {X:Cx} {a b c e:Expr} {es:List Expr} {ta tb te:DTE} {tl:DTA} {pos:Pos}
noncomputable def Anv (K:PySem.W.Frag):DL:=fun ds Q=>match ds with
 | [.exc c _ _,.fn A]=>∃ v,Aht K c A v∧Q (.bl v)
 | _=>False
noncomputable def Aix (K:PySem.W.Frag):DL:=fun ds Q=>match ds with
 | [.exc c _ _,.tup es]=>∃ As v,es=As.map .fn∧Akj K c As v∧Q (.bl v)
 | _=>False
noncomputable def AmD (ta:DTE):DTE:=fun ρ Q=>ta ρ fun d=>match d with
 | .exc _ _ _=>Q (.bl true)
 | _=>False
theorem zip_get {K:PySem.W.Frag} {H:Hp} {f:Str} {d:Dt}:∀ {ns:List Str} {ds:List Dt} {vs:List V},RpL K H ds vs→(ns.zip ds).lookup f=some d→∃ v,(ns.zip vs).lookup f=some v∧Rp K H d v
 | [],_,_,_,h=>by simp at h
 | _ :: _,[],_,_,h=>by simp at h
 | n :: ns,x :: ds,_,r,h=>by
  obtain ⟨v,vr,rfl,r1,r2⟩:=Ay.mp r
  rw [List.zip_cons_cons] at h ⊢
  by_cases q:f=n
  ·have hb:(f == n)=true:=beq_iff_eq.mpr q
   simp only [List.lookup,hb] at h ⊢
   cases h;exact ⟨v,rfl,r1⟩
  ·have hb:(f == n)=false:=beq_eq_false_iff_ne.mpr q
   simp only [List.lookup,hb] at h ⊢
   exact zip_get r2 h
noncomputable def AjV (K:PySem.W.Frag) (te:DTE) (f:Str):DTE:=fun ρ Q=>te ρ fun d=>match d with
 | .exc c ns ds=>Rf K c f∧∃ v,(ns.zip ds).lookup f=some v∧Q v
 | _=>False
noncomputable def Aiq (t:KY):DTS:=fun D ρ=>t ⟨D,fun _ _=>False⟩ ρ
end
end L2
namespace L2
open PySem PySem.Spec PyProof.Rows PySem.SeqAt
section
variable {K:PySem.W.Frag} {mg:Str→Option Value} {c T f:Str} {C U A:Addr} {cd:ClassData}
end
end L2
namespace L2
open PySem PySem.Spec PyProof.Rows PySem.SeqAt
theorem Jk {O:List Addr} {H:Hp} {a:Addr} {o:HO} (h:a∈O):mask O (upd H a o)=mask O H:=by
 funext b
 by_cases q:b∈O
 ·rw [Dw q,Dw q]
 ·rw [Bd q,Bd q,Aw (a:=a) (fun z=>q (by rw [z];exact h))]
theorem U7 {F O:List Addr} {H:Hp} {p:Addr} {o:HO} (h:H p=none):mask (F ++ (p :: O)) (upd H p o)=mask (F ++ O) H:=by
 funext b
 by_cases e:b=p
 ·subst e
  rw [Dw (List.mem_append_right _ List.mem_cons_self)]
  by_cases q:b∈F ++ O
  ·rw [Dw q]
  ·rw [Bd q,h]
 ·by_cases q:b∈F ++ O
  ·rw [Dw q,Dw]
   rcases List.mem_append.mp q with q | q
   ·exact List.mem_append_left _ q
   ·exact List.mem_append_right _ (List.mem_cons_of_mem _ q)
  ·rw [Bd q,Bd,Aw e]
   intro z
   rcases List.mem_append.mp z with z | z
   ·exact q (List.mem_append_left _ z)
   ·rcases List.mem_cons.mp z with z | z
    ·exact e z
    ·exact q (List.mem_append_right _ z)
section
variable {K:PySem.W.Frag} {B:Hp} {F O:List Addr} {H:Hp} {σ:St} {ρ:BX}
theorem Rep.newOwn (r:Rep K B F O H σ ρ) (i:Nat) {p:Addr} {ds:List Dt} {xs:List V} (hp:H p=none) (h:RpL K (mask (F ++ O) H) ds xs):Rep K B F (p :: O) (upd H p (.lst xs)) (σ.set i (some (.ref p))) (ρ.set i (some (.own ds))):=by
 have hl:=r.len
 have nF:p∉F:=fun z=>r.th p (List.mem_append_left _ z) hp
 have nO:p∉O:=fun z=>r.th p (List.mem_append_right _ z) hp
 have em:=U7 (F:=F) (O:=O) (o:=.lst xs) hp
 refine ⟨by simpa using hl,r.base.trans (Same.upd hp),fun a h=>?_,fun a h e=>?_,fun j d q=>?_,fun j es q=>?_,fun j k es es' a h1 h2 h3 h4=>?_,fun j ks q=>?_,fun j k es es' a h1 h2 h3 h4=>?_⟩
 ·rcases List.mem_cons.mp h with rfl | h
  ·cases q:B a with
   | none=>rfl
   | some o=>rw [r.base a o q] at hp;cases hp
  ·exact r.fr a h
 ·by_cases z:a=p
  ·rw [z,Bl] at e;cases e
  ·rw [Aw z] at e
   refine r.th a ?_ e
   rcases List.mem_append.mp h with h | h
   ·exact List.mem_append_left _ h
   ·exact List.mem_append_right _ ((List.mem_cons.mp h).resolve_left z)
 ·by_cases hj:j=i
  ·subst hj
   by_cases hk:j < ρ.length
   ·rw [List.getElem?_set_self hk] at q;cases q
   ·rw [List.getElem?_eq_none (by simpa using hk)] at q;cases q
  ·rw [List.getElem?_set_ne (Ne.symm hj)] at q ⊢
   rw [em];exact r.is j d q
 ·by_cases hj:j=i
  ·subst hj
   by_cases hk:j < ρ.length
   ·rw [List.getElem?_set_self hk] at q;cases q
    exact ⟨p,xs,List.getElem?_set_self (by omega),List.mem_cons_self,nF,Bl,by rw [em];exact h⟩
   ·rw [List.getElem?_eq_none (by simpa using hk)] at q;cases q
  ·rw [List.getElem?_set_ne (Ne.symm hj)] at q ⊢
   obtain ⟨a,ys,h1,h2,h3,h4,h5⟩:=r.own j es q
   exact ⟨a,ys,h1,List.mem_cons_of_mem _ h2,h3,by rw [Aw (a:=p) (fun z=>nO (by rw [←z];exact h2))];exact h4,by rw [em];exact h5⟩
 ·have other:∀ (m:Nat) es,m≠i→(ρ.set i (some (.own ds)))[m]? = some (some (.own es))→(σ.set i (some (.ref p)))[m]? = some (some (.ref p))→False:=fun m es hm q1 q2=>by
   rw [List.getElem?_set_ne (Ne.symm hm)] at q1 q2
   obtain ⟨b,_,e1,e2,_⟩:=r.own m es q1
   rw [e1] at q2
   cases q2
   exact nO e2
  by_cases hj:j=i
  ·by_cases hk:k=i
   ·rw [hj,hk]
   ·subst hj
    have:a=p:=by
     rw [List.getElem?_set_self (by
      have:=(List.getElem?_eq_some_iff.mp h1).1
      simp at this;omega)] at h3
     cases h3;rfl
    subst this
    exact (other k es' hk h2 h4).elim
  ·by_cases hk:k=i
   ·subst hk
    have:a=p:=by
     rw [List.getElem?_set_self (by
      have:=(List.getElem?_eq_some_iff.mp h2).1
      simp at this;omega)] at h4
     cases h4;rfl
    subst this
    exact (other j es hj h1 h3).elim
   ·rw [List.getElem?_set_ne (Ne.symm hj)] at h1 h3
    rw [List.getElem?_set_ne (Ne.symm hk)] at h2 h4
    exact r.inj j k es es' a h1 h2 h3 h4
 ·have hj:j≠i:=fun z=>by
   subst z
   by_cases hk:j < ρ.length
   ·rw [List.getElem?_set_self hk] at q;cases q
   ·rw [List.getElem?_eq_none (by simpa using hk)] at q;cases q
  rw [List.getElem?_set_ne (Ne.symm hj)] at q ⊢
  obtain ⟨a,ys,h1,h2,h3,h4,h5⟩:=r.tab j ks q
  exact ⟨a,ys,h1,List.mem_cons_of_mem _ h2,h3,by rw [Aw (a:=p) (fun z=>nO (by rw [←z];exact h2))];exact h4,by rw [em];exact h5⟩
 ·have back:∀ (m:Nat) ks,(ρ.set i (some (.own ds)))[m]? = some (some (.tab ks))→m≠i∧ρ[m]? = some (some (.tab ks)):=fun m ks q=>by
   have hm:m≠i:=fun z=>by
    subst z
    by_cases hk:m < ρ.length
    ·rw [List.getElem?_set_self hk] at q;cases q
    ·rw [List.getElem?_eq_none (by simpa using hk)] at q;cases q
   rw [List.getElem?_set_ne (Ne.symm hm)] at q;exact ⟨hm,q⟩
  obtain ⟨n1,q1⟩:=back j _ h1
  obtain ⟨n2,q2⟩:=back k _ h2
  rw [List.getElem?_set_ne (Ne.symm n1)] at h3
  rw [List.getElem?_set_ne (Ne.symm n2)] at h4
  exact r.tinj j k es es' a q1 q2 h3 h4
theorem Rep.putOwn (r:Rep K B F O H σ ρ) {i:Nat} {a:Addr} {ds es:List Dt} {xs ys:List V} (hi:ρ[i]? = some (some (.own ds))) (hs:σ[i]? = some (some (.ref a))) (ha:a∈O) (hH:H a=some (.lst xs)) (h:RpL K (mask (F ++ O) H) es ys) :
  Rep K B F O (upd H a (.lst ys)) σ (ρ.set i (some (.own es))):=by
 have em:mask (F ++ O) (upd H a (.lst ys))=mask (F ++ O) H:=Jk (List.mem_append_right _ ha)
 have hk:i < ρ.length:=(List.getElem?_eq_some_iff.mp hi).1
 refine ⟨by simpa using r.len,fun b o e=>?_,r.fr,fun b hb e=>?_,fun j d q=>?_,fun j ks q=>?_,fun j k es' es'' b h1 h2 h3 h4=>?_,fun j ks q=>?_,fun j k es' es'' b h1 h2 h3 h4=>?_⟩
 ·rw [Aw fun z=>by rw [z,r.fr a ha] at e;cases e];exact r.base b o e
 ·by_cases z:b=a
  ·rw [z,Bl] at e;cases e
  ·rw [Aw z] at e;exact r.th b hb e
 ·have hj:j≠i:=fun z=>by subst z;rw [List.getElem?_set_self hk] at q;cases q
  rw [List.getElem?_set_ne (Ne.symm hj)] at q
  rw [em];exact r.is j d q
 ·by_cases hj:j=i
  ·subst hj
   rw [List.getElem?_set_self hk] at q;cases q
   obtain ⟨b,_,e1,e2,e3,_⟩:=r.own j ds hi
   rw [hs] at e1;cases e1
   exact ⟨a,ys,hs,ha,e3,Bl,by rw [em];exact h⟩
  ·rw [List.getElem?_set_ne (Ne.symm hj)] at q
   obtain ⟨b,zs,e1,e2,e3,e4,e5⟩:=r.own j ks q
   have nb:b≠a:=fun z=>by subst z;exact hj (r.inj j i ks ds b q hi e1 hs)
   exact ⟨b,zs,e1,e2,e3,by rw [Aw nb];exact e4,by rw [em];exact e5⟩
 ·have back:∀ (m:Nat) ks,(ρ.set i (some (.own es)))[m]? = some (some (.own ks))→∃ ks',ρ[m]? = some (some (.own ks')):=fun m ks q=>by
   by_cases hm:m=i
   ·subst hm;exact ⟨ds,hi⟩
   ·rw [List.getElem?_set_ne (Ne.symm hm)] at q;exact ⟨ks,q⟩
  obtain ⟨_,q1⟩:=back j es' h1
  obtain ⟨_,q2⟩:=back k es'' h2
  exact r.inj j k _ _ b q1 q2 h3 h4
 ·have hj:j≠i:=fun z=>by subst z;rw [List.getElem?_set_self hk] at q;cases q
  rw [List.getElem?_set_ne (Ne.symm hj)] at q
  obtain ⟨b,zs,e1,e2,e3,e4,e5⟩:=r.tab j ks q
  have nb:b≠a:=fun z=>by rw [z,hH] at e4;cases e4
  exact ⟨b,zs,e1,e2,e3,by rw [Aw nb];exact e4,by rw [em];exact e5⟩
 ·have back:∀ (m:Nat) ks,(ρ.set i (some (.own es)))[m]? = some (some (.tab ks))→ρ[m]? = some (some (.tab ks)):=fun m ks q=>by
   have hm:m≠i:=fun z=>by subst z;rw [List.getElem?_set_self hk] at q;cases q
   rw [List.getElem?_set_ne (Ne.symm hm)] at q;exact q
  exact r.tinj j k _ _ b (back j _ h1) (back k _ h2) h3 h4
theorem Rep.freeze (r:Rep K B F O H σ ρ) {i:Nat} {ds:List Dt} (hi:ρ[i]? = some (some (.own ds))):∃ O',Rep K B F O' H σ (ρ.set i (some (.is (.lst ds)))):=by
 obtain ⟨a,xs,h1,h2,h3,h4,h5⟩:=r.own i ds hi
 have hk:i < ρ.length:=(List.getElem?_eq_some_iff.mp hi).1
 have sub:∀ b∈F ++ O.filter (fun b=>decide (b≠a)),b∈F ++ O:=fun b hb=>by
  rcases List.mem_append.mp hb with hb | hb
  ·exact List.mem_append_left _ hb
  ·exact List.mem_append_right _ (List.mem_filter.mp hb).1
 have na:a∉F ++ O.filter (fun b=>decide (b≠a)):=fun z=>by
  rcases List.mem_append.mp z with z | z
  ·exact h3 z
  ·exact of_decide_eq_true (List.mem_filter.mp z).2 rfl
 refine ⟨O.filter fun b=>decide (b≠a),by simpa using r.len,r.base,fun b hb=>r.fr b (List.mem_filter.mp hb).1,fun b hb=>r.th b (sub b hb),fun j d q=>?_,fun j es q=>?_,fun j k es es' b q1 q2 q3 q4=>?_,fun j ks q=>?_,fun j k es es' b q1 q2 q3 q4=>?_⟩
 ·by_cases hj:j=i
  ·subst hj
   rw [List.getElem?_set_self hk] at q;cases q
   exact ⟨.ref a,h1,Ka ⟨a,xs,rfl,(by rw [Bd na];exact h4),h5.mono (Gz sub)⟩⟩
  ·rw [List.getElem?_set_ne (Ne.symm hj)] at q
   obtain ⟨v,e1,e2⟩:=r.is j d q
   exact ⟨v,e1,e2.mono (Gz sub)⟩
 ·have hj:j≠i:=fun z=>by subst z;rw [List.getElem?_set_self hk] at q;cases q
  rw [List.getElem?_set_ne (Ne.symm hj)] at q
  obtain ⟨b,ys,e1,e2,e3,e4,e5⟩:=r.own j es q
  have nb:b≠a:=fun z=>by subst z;exact hj (r.inj j i es ds b q hi e1 h1)
  exact ⟨b,ys,e1,List.mem_filter.mpr ⟨e2,decide_eq_true nb⟩,e3,e4,e5.mono (Gz sub)⟩
 ·have nj:∀ (m:Nat) ks,(ρ.set i (some (.is (.lst ds))))[m]? = some (some (.own ks))→ρ[m]? = some (some (.own ks)):=fun m ks q=>by
   have hm:m≠i:=fun z=>by subst z;rw [List.getElem?_set_self hk] at q;cases q
   rw [List.getElem?_set_ne (Ne.symm hm)] at q;exact q
  exact r.inj j k es es' b (nj j es q1) (nj k es' q2) q3 q4
 ·have hj:j≠i:=fun z=>by subst z;rw [List.getElem?_set_self hk] at q;cases q
  rw [List.getElem?_set_ne (Ne.symm hj)] at q
  obtain ⟨b,ys,e1,e2,e3,e4,e5⟩:=r.tab j ks q
  have nb:b≠a:=fun z=>by rw [z,h4] at e4;cases e4
  exact ⟨b,ys,e1,List.mem_filter.mpr ⟨e2,decide_eq_true nb⟩,e3,e4,e5.mono (Gz sub)⟩
 ·have nj:∀ (m:Nat) ks,(ρ.set i (some (.is (.lst ds))))[m]? = some (some (.tab ks))→ρ[m]? = some (some (.tab ks)):=fun m ks q=>by
   have hm:m≠i:=fun z=>by subst z;rw [List.getElem?_set_self hk] at q;cases q
   rw [List.getElem?_set_ne (Ne.symm hm)] at q;exact q
  exact r.tinj j k es es' b (nj j es q1) (nj k es' q2) q3 q4
end
section
variable {X:Cx} {a b c e:Expr} {es:List Expr} {st:Stmt} {ta tb te:DTE} {tl:DTA} {t:DTS} {pos:Pos}
noncomputable def AiJ (i:Nat) (tl:DTA):DTS:=fun D ρ=>tl ρ fun ds=>ds.length≤sizeLine∧D.nx (ρ.set i (some (.own ds)))
theorem Sx (i:Nat) {x:Str} {pos' lp:Pos} (hN:X.N.Nodup) (ha:DA X es tl) (hi:X.N[i]? = some x:=by rfl) (hx:Loc X.env.scope x:=by first | exact Or.inl rfl | exact Or.inr rfl) (hs:swapsWith (.List es lp) (some (.Name x pos')) pos.line X.env=pure false:=by rfl)
  (hf:X.fn x=true∨X.env.scope.names.lookup x=some .local:=by first | exact .inl rfl | exact .inr rfl | assumption):DS X (.Assign [.Name x pos'] (.List es lp) pos) (AiJ i tl) where
 mono:=fun hd h=>ha.mono (fun ds ⟨h1,h2⟩=>⟨h1,hd.nx _ h2⟩) h
 ps:=(WK hN hi hx (AbV ha.pa) hs hf).imp fun D σ H ⟨B,F,O,ρ,R,h⟩=>⟨B,F,O,ρ,R,ha.mono (fun ds ⟨h1,h2⟩ vs H1 s1 r1=>⟨by rw [r1.len];exact h1,fun p hp=>h2 (p :: O) _ _ ((R.same s1).newOwn i hp r1)⟩) h⟩
noncomputable def ownAt (ρ:BX) (j:Nat) (k:List Dt→Prop):Prop:=match ρ[j]? with
 | some (some (.own ds))=>k ds
 | _=>False
theorem ownAt.mono {ρ:BX} {j:Nat} {k k':List Dt→Prop} (hk:∀ ds,k ds→k' ds) (h:ownAt ρ j k):ownAt ρ j k':=by
 unfold ownAt at h ⊢
 split at h
 ·exact hk _ h
 ·exact h.elim
theorem ownAt.get {ρ:BX} {j:Nat} {k:List Dt→Prop} (h:ownAt ρ j k):∃ ds,ρ[j]? = some (some (.own ds))∧k ds:=by
 unfold ownAt at h
 split at h
 ·rename_i ds e;exact ⟨ds,e,h⟩
 ·exact h.elim
noncomputable def Ah2 (j:Nat) (tb:DTE):DTE:=fun ρ Q=>ownAt ρ j fun ds=>tb ρ fun k=>match k with
 | .int i=>match ixL i ds with
  | some v=>Q v
  | none=>False
 | _=>False
theorem Aa8 (j:Nat) {x:Str} {px:Pos} (hb:DE X b tb) (hN:X.N[j]? = some x:=by rfl) (hv:Vis X.env.scope x:=by first | exact Or.inl rfl | exact Or.inr (Or.inl rfl) | exact Or.inr (Or.inr rfl)) (hd:(x == ("__debug__":Str))=false:=by decide)
  (hcd:(x == ("__classdict__":Str))=false:=by decide) (hs:Ou b:=by exact fun _ _=>rfl):DE X (.Subscript (.Name x px) b pos) (Ah2 j tb) where
 mono:=fun hq h=>h.mono fun ds h=>hb.mono (fun d h=>by
  split at h
  ·split at h
   ·exact hq _ h
   ·exact h.elim
  ·exact h.elim) h
 pe:=(Afj YD (HD hN hv hd hcd) hb.pe hs).imp fun σ H Q ⟨B,F,O,ρ,R,h⟩=>by
  obtain ⟨ds,e1,h⟩:=h.get
  obtain ⟨a,xs,h1,h2,h3,h4,h5⟩:=R.own j ds e1
  refine ⟨_,h1,B,F,O,ρ,R,hb.mono (fun d h v H1 s1 r1=>?_) h⟩
  split at h
  ·split at h
   ·rename_i i _ w e2
    obtain ⟨z,e3,e4⟩:∃ z,atI xs i=some z∧Rp X.K (mask (F ++ O) H) w z:=by
     have e5:=Wr e2
     unfold atI at e5 ⊢
     obtain ⟨m,e6,e7⟩:=Option.bind_eq_some_iff.mp e5
     obtain ⟨z,e8,e9⟩:=h5.get e7
     exact ⟨z,by rw [h5.len,e6];exact e8,e9⟩
    exact ⟨a,xs,i,z,rfl,Bc.mp r1,SqL.of (s1 _ _ h4),e3,h z H1 s1 (e4.mono s1.mask)⟩
   ·exact h.elim
  ·exact h.elim
noncomputable def AiL (j:Nat) (te tb:DTE):DTS:=fun D ρ=>te ρ fun d=>ownAt ρ j fun ds=>tb ρ fun k=>match k with
 | .int i=>(0≤i∧i < ds.length)∧D.nx (ρ.set j (some (.own (ds.set i.toNat d))))
 | _=>False
noncomputable def Afy (j:Nat) (te:DTE):DTS:=fun D ρ=>ownAt ρ j fun ds=>te ρ fun d=>ds.length < sizeLine∧D.nx (ρ.set j (some (.own (ds ++ [d]))))
theorem Pq (j:Nat) {x:Str} {px ap cp:Pos} (he:DE X e te) (hN:X.N[j]? = some x:=by rfl) (hv:Vis X.env.scope x:=by first | exact Or.inl rfl | exact Or.inr (Or.inl rfl) | exact Or.inr (Or.inr rfl)) (hd:(x == ("__debug__":Str))=false:=by decide)
  (hcd:(x == ("__classdict__":Str))=false:=by decide) (hbase:attributeBase (.Name x px) "append" X.env (eval (.Name x px) X.env)=eval (.Name x px) X.env:=by rfl)
  (hfew:((backTo cp (starEach [e] X.env)).all (fun x=>!x.1) && (backToKw cp (keywordEach [] X.env)).all (fun x=>x.1.isSome) && decide ([e].length+([]:List Keyword).length+(if ([]:List Keyword).isEmpty then 0 else 1) < 30))=true:=by rfl)
  (hline:(ap.endLine == cp.line)=true:=by rfl) (hst:starEach [e] X.env=(false,eval e X.env) :: starEach [] X.env:=by rfl) (hplain:(backTo cp (starEach [] X.env)).any (·.1)=false:=by rfl)
  (hs:swapsWith (.Call (.Attribute (.Name x px) "append" ap) [e] [] cp) none pos.line X.env=pure false:=by rfl):DS X (.Expr (.Call (.Attribute (.Name x px) "append" ap) [e] [] cp) pos) (Afy j te) where
 mono:=fun hd h=>h.mono fun ds h=>he.mono (fun d h=>⟨h.1,hd.nx _ h.2⟩) h
 ps:=(Um (Ae6 PySem.F.plainAttrs_list PySem.F.slot_list_append PySem.F.type_list_append Ni (HD hN hv hd hcd) (Kh he.pe S7 hst) hbase hfew hline hst hplain) hs).imp fun D σ H ⟨B,F,O,ρ,R,h⟩=>by
  obtain ⟨ds,e1,h⟩:=h.get
  obtain ⟨a,xs,h1,h2,h3,h4,h5⟩:=R.own j ds e1
  refine ⟨_,h1,.inl ⟨rfl,_,SqL.of h4⟩,B,F,O,ρ,R,he.mono (fun d h v H1 s1 r1=>?_) h⟩
  exact ⟨a,xs,v,rfl,rfl,s1 _ _ h4,by rw [h5.len];exact h.1,h.2 O σ _ ((R.same s1).putOwn e1 h1 h2 (s1 _ _ h4) ((h5.mono s1.mask).append (.cons r1 .nil)))⟩
noncomputable def Aiv (j:Nat) (t:DTS):DTS:=fun D ρ=>ownAt ρ j fun ds=>t D (ρ.set j (some (.is (.lst ds))))
theorem Uc (j:Nat) (h:DS X st t):DS X st (Aiv j t) where
 mono:=fun hd z=>z.mono fun ds z=>h.mono hd z
 ps:=h.ps.imp fun D σ H ⟨B,F,O,ρ,R,z⟩=>by
  obtain ⟨ds,e1,z⟩:=z.get
  obtain ⟨O',R'⟩:=R.freeze e1
  exact ⟨B,F,O',_,R',z⟩
noncomputable def Ah0 (j:Nat):DTE:=fun ρ Q=>ownAt ρ j fun ds=>Q (.int ds.length)
noncomputable def AkC:D2:=fun a b Q=>match a with
 | .tup xs=>match b with
  | .tup ys=>(xs≠[]∧xs.length+ys.length≤sizeLine)∧Q (.tup (xs ++ ys))
  | _=>False
 | _=>False
end
end L2
namespace L2
open PySem PySem.Spec PyProof.Rows
section chain3
variable {X:Cx} {a b c e:Expr} {ta tb tc te:TE} {pos:Pos}
theorem ZP {op op' op2:CmpOp} {r r' r2:R2} (ho:OpR X (compareOp op) r) (ho':OpR X (compareOp op') r') (ho2:OpR X (compareOp op2) r2) (ha:PE X a ta) (hb:PE X b tb) (hc:PE X c tc) (he:PE X e te)
  (hm:lastMarks [op,op',op2] [b,c,e]=false:=by with_unfolding_all rfl):PT X (.Compare a [op,op',op2] [b,c,e] pos) (fun σ H Q=>ta σ H fun x H1=>tb σ H1 fun y H2=>r x y H2 fun z H3=>∃ k,z=.bl k ∧
   (if k=true then tc σ H3 fun w' H4=>r' y w' H4 fun z H5=>∃ k,z=.bl k∧(if k=true then te σ H5 fun y' H6=>r2 w' y' H6 fun z H7=>∃ k,z=.bl k∧Q k H7 else Q false H5) else Q false H3)):=by
 intro pins s σ H Q I h
 refine isTrue_chain (thn (ha pins s σ H _ I h) fun v s1 ⟨x,H1,I1,r1,q1⟩=>test_link (thn (hb pins s1 σ H1 _ I1 q1) fun u s2 ⟨y,H2,I2,r2,q2⟩ =>
  thn (ho pins s2 σ H2 x y v u _ I2 r1 r2 q2) fun d s3 ⟨z,H3,I3,r3,k,e,q3⟩=>?_)) hm
 subst e
 cases r3
 refine wpAny_truthy_bool ?_
 cases k with
 | false=>exact ite_ff ⟨H3,I3,q3⟩
 | true =>
  refine ite_tt (test_link (thn (hc pins s3 σ H3 _ I3 q3) fun w' s4 ⟨z',H4,I4,r4,q4⟩=>thn (ho' pins s4 σ H4 y z' u w' _ I4 r2 r4 q4) fun d' s5 ⟨z2,H5,I5,r5,k2,e2,q5⟩=>?_))
  subst e2
  cases r5
  refine wpAny_truthy_bool ?_
  cases k2 with
  | false=>exact ite_ff ⟨H5,I5,q5⟩
  | true =>
   refine ite_tt (test_last (thn (he pins s5 σ H5 _ I5 q5) fun w2 s6 ⟨z3,H6,I6,r6,q6⟩=>thn (ho2 pins s6 σ H6 z' z3 w' w2 _ I6 r4 r6 q6) fun d' s7 ⟨z4,H7,I7,r7,k3,e3,q7⟩=>?_))
   subst e3
   cases r7
   exact wpAny_truthy_bool ⟨H7,I7,q7⟩
end chain3
noncomputable def YS (t t' t2:D2) (ta tb tc te:DTE):DTT:=fun ρ Q=>ta ρ fun a=>tb ρ fun b=>t a b fun z=>match z with
 | .bl k=>if k=true then tc ρ fun c=>t' b c fun z=>match z with
  | .bl k=>if k=true then te ρ fun e=>t2 c e fun z=>match z with
   | .bl k=>Q k
   | _=>False
   else Q false
  | _=>False
  else Q false
 | _=>False
section
variable {X:Cx} {a b c e:Expr} {ta tb tc te:DTE} {pos:Pos}
theorem ZX {op op' op2:CmpOp} {r r' r2:R2} {t t' t2:D2} (ho:OpR X (compareOp op) r) (ho':OpR X (compareOp op') r') (ho2:OpR X (compareOp op2) r2) (S:Jw X.K r t) (S':Jw X.K r' t') (S2:Jw X.K r2 t2) (ha:DE X a ta) (hb:DE X b tb) (hc:DE X c tc) (he:DE X e te)
  (hm:lastMarks [op,op',op2] [b,c,e]=false:=by with_unfolding_all rfl):DT X (.Compare a [op,op',op2] [b,c,e] pos) (YS t t' t2 ta tb tc te) where
 mono:=fun hq h=>ha.mono (fun _ h=>hb.mono (fun _ h=>S.mono (fun z h=>by
  split at h
  ·rename_i k
   cases k with
   | true =>
    refine hc.mono (fun _ h=>S'.mono (fun z h=>?_) h) h
    split at h
    ·rename_i k
     cases k with
     | true =>
      refine he.mono (fun _ h=>S2.mono (fun z h=>?_) h) h
      split at h
      ·exact hq _ h
      ·exact h.elim
     | false=>exact hq _ h
    ·exact h.elim
   | false=>exact hq _ h
  ·exact h.elim) h) h) h
 pt:=(ZP ho ho' ho2 ha.pe hb.pe hc.pe he.pe hm).imp fun σ H Q ⟨B,F,O,ρ,R,h⟩=>by
  refine ⟨B,F,O,ρ,R,ha.mono (fun a h v H1 s1 r1=>⟨B,F,O,ρ,R.same s1,hb.mono (fun b h u H2 s2 r2=>?_) h⟩) h⟩
  refine S.ok _ H2 a b v u _ ((R.same s1).same s2).th (r1.mono s2.mask) r2 (S.mono (fun z h w H3 s3 r3=>?_) h)
  split at h
  ·rename_i k
   refine ⟨k,Eb.mp r3,?_⟩
   have s123:=(s1.trans s2).trans s3
   cases k with
   | false=>exact h H3 s123
   | true =>
    refine ⟨B,F,O,ρ,R.same s123,hc.mono (fun c h y H4 s4 r4=>?_) h⟩
    refine S'.ok _ H4 b c u y _ ((R.same s123).same s4).th ((r2.mono s3.mask).mono s4.mask) r4 (S'.mono (fun z h w H5 s5 r5=>?_) h)
    split at h
    ·rename_i k
     refine ⟨k,Eb.mp r5,?_⟩
     have s5':=(s123.trans s4).trans s5
     cases k with
     | false=>exact h H5 s5'
     | true =>
      refine ⟨B,F,O,ρ,R.same s5',he.mono (fun e h y2 H6 s6 r6=>?_) h⟩
      refine S2.ok _ H6 c e y y2 _ ((R.same s5').same s6).th ((r4.mono s5.mask).mono s6.mask) r6 (S2.mono (fun z h w H7 s7 r7=>?_) h)
      split at h
      ·exact ⟨_,Eb.mp r7,h H7 ((s5'.trans s6).trans s7)⟩
      ·exact h.elim
    ·exact h.elim
  ·exact h.elim
end
end L2
namespace L2
open PySem PySem.Spec PyProof.Rows PySem.W
end L2
namespace L2
open PySem PySem.Spec PyProof.Rows
variable {X:Cx} {a b:Expr} {ta tb:DTE} {pos:Pos}
theorem Lp {K:PySem.W.Frag} {H:Hp}:∀ {ns:List Int} {xs:List V},RpL K H (ns.map Dt.int) xs→xs=ns.map V.int
 | [],_,h=>by
  obtain rfl:=BP.mp h
  rfl
 | n :: ns,_,h=>by
  obtain ⟨v,r,rfl,r2,r3⟩:=Ay.mp h
  rw [Bc] at r2
  subst r2
  rw [Lp r3]
  rfl
noncomputable def dIn:D2:=fun a b Q=>∃ (i:Int) (ns:List Int),a=.int i∧b=.lst (ns.map Dt.int)∧Q (.bl (decide (i∈ns)))
noncomputable def Yq (i:Nat) (te:DTE):DTS:=fun D ρ=>match ρ[i]? with
 | some (some (.is (.int a)))=>te ρ fun d=>match d with
  | .int b=>D.nx (ρ.set i (some (.is (.int (a+b)))))
  | _=>False
 | _=>False
theorem AdL (i:Nat) {e:Expr} {te:DTE} {x:Str} {pos':Pos} (hN:X.N.Nodup) (he:DE X e te) (hi:X.N[i]? = some x:=by rfl) (hx:Loc X.env.scope x:=by first | exact Or.inl rfl | exact Or.inr rfl)
  (hf:X.fn x=true∨X.env.scope.names.lookup x=some .local:=by first | exact .inl rfl | exact .inr rfl | assumption):DS X (.AugAssign (.Name x pos') .Add e pos) (Yq i te) where
 mono:=fun {ρ D D'} hd h=>by
  unfold Yq at *
  match hq:ρ[i]?,h with
  | some (some (.is (.int a))),h =>
   refine he.mono (fun d q=>?_) h
   match d,q with
   | .int b,q=>exact hd.nx _ q
 ps:=(AfN hN hi hx he.pe Agm hf).imp fun D σ H ⟨B,F,O,ρ,R,h⟩=>by
  unfold Yq at h
  match hq:ρ[i]?,h with
  | some (some (.is (.int a))),h =>
   obtain ⟨v,e1,r⟩:=R.is i _ hq
   rw [Bc] at r
   subst r
   refine ⟨_,e1,B,F,O,ρ,R,he.mono (fun d q v H1 s1 r1=>?_) h⟩
   match d,q,r1 with
   | .int b,q,r1 =>
    rw [Bc] at r1
    subst r1
    exact ⟨a,b,rfl,rfl,q O _ H1 ((R.same s1).set i (Bc.mpr rfl))⟩
noncomputable def AhR (i j k:Nat) (tl:DTA):DTS:=fun D ρ=>tl ρ fun ds=>match ds with
 | [d,e,f]=>D.nx (((ρ.set i (some (.is d))).set j (some (.is e))).set k (some (.is f)))
 | _=>False
theorem M7 {ti:DTI} {g:DTG} {tb:DTS} {D:GQ} {ρ:BX} (h:ti ρ fun items=>Aci (fun _ R=>R items) g tb D ρ):Aci ti g tb D ρ:=h
end L2
namespace L2
open PySem PySem.Spec PyProof.Rows PySem.SeqAt
mutual
noncomputable def Dt.noL:Nat→Dt→Bool
 | _,.non=>true
 | _,.bl _=>true
 | _,.int _=>true
 | _,.str _=>true
 | 0,_=>false
 | n+1,.tup ds=>Dt.noLs n ds
 | _,_=>false
noncomputable def Dt.noLs:Nat→List Dt→Bool
 | _,[]=>true
 | n,d :: ds=>Dt.noL n d && Dt.noLs n ds
end
theorem AgL {n:Nat} {d:Dt} {r:List Dt}:Dt.noLs n (d :: r)=(Dt.noL n d && Dt.noLs n r):=by rw [Dt.noLs]
theorem AiY {n:Nat} {r:List Dt}:Dt.noL (n+1) (.tup r)=Dt.noLs n r:=by rw [Dt.noL]
noncomputable def Keep (M M':Hp):Prop:=∀ b o,M b=some o→(∀ xs,o≠.lst xs)→M' b=some o
mutual
theorem AfJ {K:PySem.W.Frag} {M M':Hp} (k:Keep M M'):∀ (n:Nat) (d:Dt) (v:V),d.noL n=true→Rp K M d v→Rp K M' d v
 | _,.non,_,_,r=>by rw [Tq] at r ⊢;exact r
 | _,.bl _,_,_,r=>by rw [Eb] at r ⊢;exact r
 | _,.int _,_,_,r=>by rw [Bc] at r ⊢;exact r
 | _,.str _,_,_,r=>by rw [Tg] at r ⊢;exact r
 | 0,.tup _,_,h,_=>by simp [Dt.noL] at h
 | n+1,.tup ds,_,h,r=>by
  rw [AiY] at h
  obtain ⟨a,xs,e,q,r⟩:=CP.mp r
  refine CP.mpr ⟨a,xs,e,?_,Y4 k n ds xs h r⟩
  rcases q with (q | ⟨o,q⟩) | q
  ·exact .inl (.inl (k _ _ q fun _=>by simp))
  ·exact .inl (.inr ⟨o,k _ _ q fun _=>by simp⟩)
  ·exact .inr q
 | 0,.lst _,_,h,_=>by simp [Dt.noL] at h
 | _+1,.lst _,_,h,_=>by simp [Dt.noL] at h
 | 0,.fn _,_,h,_=>by simp [Dt.noL] at h
 | _+1,.fn _,_,h,_=>by simp [Dt.noL] at h
 | 0,.exc _ _ _,_,h,_=>by simp [Dt.noL] at h
 | _+1,.exc _ _ _,_,h,_=>by simp [Dt.noL] at h
 | 0,.obj _ _ _,_,h,_=>by simp [Dt.noL] at h
 | _+1,.obj _ _ _,_,h,_=>by simp [Dt.noL] at h
theorem Y4 {K:PySem.W.Frag} {M M':Hp} (k:Keep M M'):∀ (n:Nat) (ds:List Dt) (vs:List V),Dt.noLs n ds=true→RpL K M ds vs→RpL K M' ds vs
 | _,[],_,_,r=>by rw [BP] at r ⊢;exact r
 | n,d :: ds,_,h,r=>by
  rw [AgL,Bool.and_eq_true] at h
  obtain ⟨v,w,rfl,r1,r2⟩:=Ay.mp r
  exact Ay.mpr ⟨v,w,rfl,AfJ k n d v h.1 r1,Y4 k n ds w h.2 r2⟩
end
noncomputable def AkM:Option HO→Bool
 | some (.lst _)=>true
 | _=>false
noncomputable def lists (H:Hp) (n:Nat):List Addr:=(List.range n).filter fun a=>AkM (H a)
section
variable {X:Cx} {a b c e:Expr} {es:List Expr} {st:Stmt} {ta tb te:DTE} {tl:DTA} {tA:DTT} {t:DTS} {pos:Pos}
noncomputable def Ahg (i:Nat) (sp:DSp) (tl:DTA):DTS:=fun D ρ=>tl ρ fun ds=>Dt.noLs 4 ds=true∧sp ds fun d=>∃ ks,d=.lst ks∧(∃ r,Dt.tup r∈ks)∧Dt.noLs 4 ks=true∧D.nx (ρ.set i (some (.own ks)))
noncomputable def AgJ (j:Nat) (t:DTT):DTT:=fun ρ Q=>ownAt ρ j fun ds=>t (ρ.set j (some (.is (.lst ds)))) Q
noncomputable def Ags (j:Nat):DTE:=fun ρ Q=>ownAt ρ j fun ds=>Q (.lst ds)
end
end L2
namespace L2
open PySem PySem.Spec PyProof.Rows PySem.W PySem.Builtin PySem.Builtin.ObjectAttr
section
variable {prog:Program} {w:World} {A:Around} {E:Value→Shared→Prop} {s:Shared} {K:PySem.W.Frag} {C U x dx:Addr} {name:Str} {v:Value}
end
section
variable {X:Cx} {pins:List (Addr × Obj)} {σ:St} {H:Hp} {s:Shared} {h':Heap} {a dx C U f fI:Addr}
end
end L2
namespace L2
open PySem PySem.Spec PyProof.Rows PySem.SeqAt
noncomputable abbrev AgR:=BX→(List Dt→Prop)→(Dt→Prop)→Prop
section
variable {X:Cx} {e:Expr} {es:List Expr} {te:Vg} {tl:DTA} {tx:AgR} {pos:Pos}
noncomputable def Ag2 (te:Vg) (tl:DTA):AgR:=fun ρ Q E=>te ρ (fun d=>tl ρ fun ds=>Q (d :: ds)) E
noncomputable def Aha (sp:DSp) (tx:AgR):Vg:=fun ρ Q E=>tx ρ (fun ds=>sp ds Q) E
end
end L2
namespace L2
open PySem PySem.Spec PyProof.Rows
section
variable {prog:Program} {w:World} {A:Around} {I S:Addr} {fp wr:List Addr} {n:Nat} {P:Nat→Value→Prop} {St:Nat→Heap→Prop} {bt:Nat→Nat→Bool} {R:Result→Shared→Prop}
noncomputable def Lx (wr:List Addr) (S:Addr) (h h':Heap):Prop:=∀ b o,b∉wr→b≠S→h.get? b=some o→h'.get? b=some o
noncomputable def Wz (prog:Program) (w:World) (A:Around) (wr:List Addr) (S:Addr) (h:Heap) (P:Nat→Value→Prop) (bt:Nat→Nat→Bool):Prop :=
 ∀ (i j:Nat) (x y:Value) (s:Shared) (Q:Value→Shared→Prop) (E:Value→Shared→Prop),Lx wr S h s.heap→P i x→P j y→Q (.bool (bt i j)) s→wpAny (model prog w) A (richCompare .Lt x y) Q E s
theorem XF:(toString "min" ++ toString ".loop":String)="min.loop":=by decide
theorem WX {h0:Heap} (W:Walks prog w A.in1 I fp wr n P St) (less:Wz prog w A.in1 wr S h0 P bt) (off:S∉fp) :
  ∀ (left at':Nat) (s:Shared) (best:Value) (c:Nat),n=at'+1+left→St (at'+1) s.heap→P (argBest bt at') best→Lx wr S h0 s.heap →
   s.heap.get? S=some ⟨.type "list",none,.seq #[best,best] c,#[]⟩ →
   (∀ v h' tk,P (argBest bt (n - 1)) v→Lx wr S s.heap h'→R (.ok (.ret v)) { s with heap:=h',toks:=tk }) →
   codeAny (model prog w) A (.builtin "min.loop" ⟨[.ref I,.none,.ref S],[]⟩) R s:=by
 have off':S∉wr:=fun z=>off (W.sub _ z)
 have nm:=XF
 intro left
 induction left with
 | zero =>
  intro at' s best c hn st hb hk hS fin
  have e:at'+1=n:=by omega
  refine codeAny_builtin F.entry_min_loop ?_;rw [Around.under_plainId F.plain_min_loop _];show wpAny _ A.in1 (seqItems? (.ref S) >>= _) _ _ s
  refine wpAny_bind (wpAny_seqItems hS rfl ?_);show wpAny _ A.in1 (tryCatch (pyNext (.ref I)) _ >>= _) _ _ s
  refine wpAny_bind (wpAny_tryCatch (W.done s _ _ (e ▸ st) fun h1 tk k1=>?_))
  show wpAny _ A.in1 (updateSeq S (fun _=>#[]) >>= _) _ _ _;refine wpAny_bind (wpAny_updateSeq (k1 S _ off' hS) rfl (wpAny_bind (wpAny_letGo (wpAny_pure ?_))))
  exact fin best _ tk (by rw [←e];exact hb) fun b o nb ns eo=>(Heap.get?_update_other _ _ (Ne.symm ns)).trans (k1 b o nb eo)
 | succ left ih =>
  intro at' s best c hn st hb hk hS fin
  refine codeAny_builtin F.entry_min_loop ?_;rw [Around.under_plainId F.plain_min_loop _];show wpAny _ A.in1 (seqItems? (.ref S) >>= _) _ _ s
  refine wpAny_bind (wpAny_seqItems hS rfl ?_);show wpAny _ A.in1 (tryCatch (pyNext (.ref I)) _ >>= _) _ _ s
  refine wpAny_bind (wpAny_tryCatch (W.item (at'+1) s _ _ (by omega) st fun v h1 tk hv st1 k1=>?_))
  have hS1:=k1 S _ off' hS
  have hk1:Lx wr S h0 h1:=fun b o nb ns eo=>k1 b o nb (hk b o nb ns eo)
  show wpAny _ A.in1 (tryCatch (holding [v,v] (richCompare .Lt v best >>= _)) _ >>= _) _ _ _
  refine wpAny_bind (wpAny_tryCatch (wpAny_holding (wpAny_bind (less (at'+1) (argBest bt at') v best _ _ _ hk1 hv hb ?_))))
  refine wpAny_bind (wpAny_holding (wpAny_truthy_bool ?_));refine wpAny_bind (wpAny_letGo (wpAny_pure ?_))
  cases hbt:bt (at'+1) (argBest bt at') with
  | true =>
   simp only [if_true]
   refine wpAny_bind (wpAny_updateSeq hS1 rfl (wpAny_bind (wpAny_letGo ?_)))
   rw [nm]
   refine wpAny_pure ⟨plainId_quiet F.plain_min_loop _,ih (at'+1) _ v _ (by omega) (W.frame _ _ _ st1 fun b hbf o eo=>(Heap.get?_update_other _ _ (fun z:S=b=>off (z ▸ hbf))).trans eo) (by simp only [argBest,hbt,if_true];exact hv) (fun b o nb ns eo=>(Heap.get?_update_other _ _ (Ne.symm ns)).trans (hk1 b o nb ns eo)) (Heap.get?_update_self _ hS1 rfl) fun v' h2 tk2 hv' k2=>?_⟩
   exact fin v' h2 tk2 hv' fun b o nb ns eo=>k2 b o nb ns ((Heap.get?_update_other _ _ (Ne.symm ns)).trans (k1 b o nb eo))
  | false =>
   simp only [Bool.false_eq_true,if_false]
   refine wpAny_bind (wpAny_letGo ?_)
   rw [nm]
   refine wpAny_pure ⟨plainId_quiet F.plain_min_loop _,ih (at'+1) _ best c (by omega) st1 (by simp only [argBest,hbt,Bool.false_eq_true,if_false];exact hb) hk1 hS1 fun v' h2 tk2 hv' k2=>?_⟩
   exact fin v' h2 tk2 hv' fun b o nb ns eo=>k2 b o nb ns (k1 b o nb eo)
theorem Vc {s:Shared} {c:Nat} (W:Walks prog w A.in1 I fp wr n P St) (less:Wz prog w A.in1 wr S s.heap P bt) (off:S∉fp) (n0:0 < n) (st:St 0 s.heap) (hS:s.heap.get? S=some ⟨.type "list",none,.seq #[] c,#[]⟩)
  (fin:∀ v h' tk,P (argBest bt (n - 1)) v→Lx wr S s.heap h'→R (.ok (.ret v)) { s with heap:=h',toks:=tk }):codeAny (model prog w) A (.builtin "min.loop" ⟨[.ref I,.none,.ref S],[]⟩) R s:=by
 have off':S∉wr:=fun z=>off (W.sub _ z)
 refine codeAny_builtin F.entry_min_loop ?_;rw [Around.under_plainId F.plain_min_loop _];show wpAny _ A.in1 (seqItems? (.ref S) >>= _) _ _ s
 refine wpAny_bind (wpAny_seqItems hS rfl ?_);show wpAny _ A.in1 (tryCatch (pyNext (.ref I)) _ >>= _) _ _ s
 refine wpAny_bind (wpAny_tryCatch (W.item 0 s _ _ n0 st fun v h1 tk hv st1 k1=>?_))
 have hS1:=k1 S _ off' hS
 show wpAny _ A.in1 (updateSeq S (fun _=>#[v,v]) >>= _) _ _ _;refine wpAny_bind (wpAny_updateSeq hS1 rfl ?_);rw [XF]
 refine wpAny_pure ⟨plainId_quiet F.plain_min_loop _,WX (h0:=s.heap) W less off (n - 1) 0 _ v _ (by omega) (W.frame _ _ _ st1 fun b hbf o eo=>(Heap.get?_update_other _ _ (fun z:S=b=>off (z ▸ hbf))).trans eo) hv (fun b o nb ns eo=>(Heap.get?_update_other _ _ (Ne.symm ns)).trans (k1 b o nb eo)) (Heap.get?_update_self _ hS1 rfl) fun v' h2 tk2 hv' k2=>?_⟩
 exact fin v' h2 tk2 hv' fun b o nb ns eo=>k2 b o nb ns ((Heap.get?_update_other _ _ (Ne.symm ns)).trans (k1 b o nb eo))
theorem N6 {E:Value→Shared→Prop} {s:Shared} {x:Value} {Q:Value→Shared→Prop}
  (h:wpAny (model prog w) A.in1 (pyIter x) (fun it s2=>∃ I fp wr n P St bt,it=.ref I∧Walks prog w A.in1 I fp wr n P St∧St 0 s2.heap∧(∀ b∈fp,b < s2.heap.objs.size)∧0 < n ∧
   (∀ h1:Heap,(∀ b o,s2.heap.get? b=some o→h1.get? b=some o)→Wz prog w A.in1 wr s2.heap.objs.size h1 P bt) ∧
   ∀ v h' tk,P (argBest bt (n - 1)) v→(∀ b o,b∉wr→s2.heap.get? b=some o→h'.get? b=some o)→Q v { s2 with heap:=h',toks:=tk }) E s) :
  wpAny (model prog w) A (call (.builtin "min") [x]) Q E s:=by
 refine call_function_tree F.kind_min F.plain_min F.entry_min (F.args_min1 _) ?_;show wpAny _ A.in1 (Builtin.Builtins.bindParams "min" ["key","default"] 0 ⟨[],[]⟩ >>= _) _ _ s
 refine wpAny_bind (wpAny_of_eq (show Builtin.Builtins.bindParams "min" ["key","default"] 0 ⟨[],[]⟩=pure [none,none] from rfl) ?_);refine wpAny_bind (wpAny_pure ?_)
 refine wpAny_bind (wpAny_mono h (fun it s2 h2=>?_) fun _ _ z=>z);obtain ⟨I,fp,wr,n,P,St,bt,rfl,W,st,low,n0,less,fin⟩:=h2
 refine wpAny_bind (wpAny_newObj_type ?_);rw [XF]
 have off:s2.heap.objs.size∉fp:=fun z=>Nat.lt_irrefl _ (low _ z)
 refine wpAny_pure ⟨plainId_quiet F.plain_min_loop _,Vc W (less _ fun b o e=>Heap.get?_push_of_some _ e) off n0 (W.frame _ _ _ st fun b _ o e=>Heap.get?_push_of_some _ e) (Heap.get?_push_size _ rfl) fun v h' tk hv k=>?_⟩
 exact fin v h' tk hv fun b o nb e=>k b o nb (Nat.ne_of_lt (Heap.lt_size e)) (Heap.get?_push_of_some _ e)
end
variable {X:Cx}
noncomputable def Aez (K:PySem.W.Frag):List V→Hp→VK→Prop:=fun xs H Q=>∃ p vs,∃ nss:Nat→List Int,xs=[.ref p]∧SqL K H p vs∧0 < vs.length∧(∀ (i:Nat) (v:V),vs[i]? = some v→∃ a,v=.ref a∧SqT K H a ((nss i).map V.int)) ∧
 ∀ v,vs[argBest (fun i j=>HT.lexLt (nss i) (nss j)) (vs.length - 1)]? = some v→Q v H
theorem Vals.at {xs:List V} {us:List Value} (r:Vals xs us):∀ (i:Nat) (u:Value),us[i]? = some u→∃ x,xs[i]? = some x∧RelV x u:=by
 induction r with
 | nil=>intro i u h;cases h
 | cons h t ih =>
  intro i u e
  cases i with
  | zero=>exact ⟨_,rfl,by cases e;exact h⟩
  | succ i=>exact ih i u e
theorem ZS (hc:X.calm=true) (hu:X.A.in1.units < cLine):Kw X (.builtin "min") (Aez X.K):=by
 intro pins s σ H xs us Q I r h
 obtain ⟨p,vs,nss,rfl,hl,ne,each,q⟩:=h
 obtain ⟨u,rfl,r1⟩:=vals1 r
 cases r1
 obtain ⟨its,rv,pl,_⟩:=I.list hl
 have hlen:its.length=vs.length:=rv.length.symm
 have lt:p < s.heap.objs.size:=by obtain ⟨_,e,_⟩:=pl.isList;exact Heap.lt_size e
 refine N6 (wpAny_pyIter_list pl.isList ?_)
 refine ⟨s.heap.objs.size,[s.heap.objs.size,p],[s.heap.objs.size],its.toArray.size,fun i v=>its.toArray[i]? = some v,_,fun i j=>HT.lexLt (nss i) (nss j),rfl,Walks.list (A:=X.A.in1) (I.ok.hd hc) _ p (Nat.ne_of_lt lt) its.toArray,⟨⟨_,Heap.get?_push_size _ rfl,rfl,rfl⟩,pl.isList.push _⟩,?_,?_,?_,?_⟩
 ·intro b hb
  show b < (s.heap.push _).objs.size
  rw [Heap.size_push]
  rcases List.mem_cons.mp hb with rfl | hb
  ·exact Nat.lt_succ_self _
  ·have e:b=p:=by simpa using hb
   rw [e]
   exact Nat.lt_succ_of_lt lt
 ·rw [List.size_toArray];omega
 ·intro h1 k1 i j x y s' Q' E' kept hx hy q'
  have fact:∀ (i:Nat) (x:Value),its.toArray[i]? = some x→∃ a its2,x=.ref a∧IsTup s'.heap a its2∧IntsAre its2.toList (nss i):=fun i x hx=>by
   obtain ⟨v,e1,r2⟩:=Vals.at rv i x (by simpa using hx)
   obtain ⟨a,rfl,ht⟩:=each i v e1
   cases r2
   obtain ⟨its2,r3,tp,_⟩:=I.tuple ht
   refine ⟨a,its2.toArray,rfl,?_,intsAre_of r3⟩
   have go:∀ o,s.heap.get? a=some o→s'.heap.get? a=some o:=fun o eo=>by
    have la:=Heap.lt_size eo
    refine kept a o (fun z=>?_) (fun z=>?_) (k1 a o (Heap.get?_push_of_some _ eo))
    ·have e2:a=s.heap.objs.size:=by simpa using z
     rw [e2] at la
     exact Nat.lt_irrefl _ la
    ·have e2:a=(s.heap.push _).objs.size:=z
     rw [Heap.size_push] at e2
     rw [e2] at la
     exact Nat.lt_irrefl _ (Nat.lt_of_succ_lt la)
   obtain ⟨o,eo,rest⟩:=tp
   exact ⟨o,go o eo,rest⟩
  obtain ⟨a,i1,rfl,t1,n1⟩:=fact i x hx
  obtain ⟨b,i2,rfl,t2,n2⟩:=fact j y hy
  exact HT.KN t1 t2 n1 n2 hu q'
 ·intro v h' tk hv k
  obtain ⟨x,e1,r2⟩:=Vals.at rv _ v (by simpa using hv)
  rw [hlen] at e1
  exact ⟨x, H, I.kept fun b o e => k b o (fun z => by have e2 : b = s.heap.objs.size := by simpa using z
                                                      have e3:=Heap.lt_size e
                                                      rw [e2] at e3
                                                      exact Nat.lt_irrefl _ e3) (Heap.get?_push_of_some _ e),r2,q x e1⟩
theorem RpL.at' {K:PySem.W.Frag} {H:Hp}:∀ {ds:List Dt} {vs:List V} (i:Nat) (v:V),RpL K H ds vs→vs[i]? = some v→∃ d,ds[i]? = some d∧Rp K H d v
 | [],vs,i,v,h,e=>by
  obtain rfl:=BP.mp h
  cases e
 | d :: ds,vs,i,v,h,e=>by
  obtain ⟨v',r,rfl,r2,r3⟩:=Ay.mp h
  cases i with
  | zero=>exact ⟨d,rfl,by cases e;exact r2⟩
  | succ i=>exact RpL.at' i v r3 e
theorem RpL.len' {K:PySem.W.Frag} {H:Hp}:∀ {ds:List Dt} {vs:List V},RpL K H ds vs→vs.length=ds.length
 | [],vs,h=>by
  obtain rfl:=BP.mp h
  rfl
 | d :: ds,vs,h=>by
  obtain ⟨v',r,rfl,r2,r3⟩:=Ay.mp h
  rw [List.length_cons,List.length_cons,RpL.len' r3]
noncomputable def Jg (nss:List (List Int)):Nat:=argBest (fun i j=>HT.lexLt (nss.getD i []) (nss.getD j [])) (nss.length - 1)
noncomputable abbrev Dn (ns:List Int):Dt:=.tup (ns.map Dt.int)
noncomputable def AeC:DL:=fun ds Q=>∃ nss:List (List Int),ds=[.lst (nss.map Dn)]∧0 < nss.length∧Jg nss < nss.length∧Q (Dn (nss.getD (Jg nss) []))
theorem AbX {K:PySem.W.Frag}:Xb K (Aez K) AeC where
 mono:=fun hq ⟨nss,e,n0,lt,h⟩=>⟨nss,e,n0,lt,hq _ h⟩
 ok:=fun O H ds xs Q _ r ⟨nss,e,n0,lt,h⟩=>by
  subst e
  obtain ⟨x,r',rfl,r2,r3⟩:=Ay.mp r
  obtain rfl:=BP.mp r3
  obtain ⟨p,vs,rfl,hs,hl⟩:=FP r2
  have hs':=(Bf (O:=O) (H:=H)).seq hs
  have hl':=hl.mono (Bf (O:=O) (H:=H))
  have hlen:=RpL.len' hl'
  rw [List.length_map] at hlen
  have row:∀ (i:Nat) (d:Dt),(nss.map Dn)[i]? = some d→d=Dn (nss.getD i []):=fun i d e=>by
   rw [List.getElem?_map] at e
   cases q:nss[i]? with
   | none=>rw [q] at e;cases e
   | some ns =>
    rw [q] at e
    cases e
    have:nss.getD i []=ns:=by simp [List.getD,q]
    rw [this]
  refine ⟨p,vs,fun i=>nss.getD i [],rfl,hs',by omega,fun i v e=>?_,fun v e=>?_⟩
  ·obtain ⟨d,e1,r4⟩:=RpL.at' i v hl' e
   rw [row i d e1] at r4
   obtain ⟨a,ys,rfl,ht,hy⟩:=CP.mp r4
   obtain rfl:=Lp hy
   exact ⟨a,rfl,ht⟩
  ·rw [hlen] at e
   obtain ⟨d,e1,r4⟩:=RpL.at' _ v hl e
   rw [row _ d e1] at r4
   exact h v H (Same.refl H) r4
theorem Acy {a:Expr} {tl:DTA} {p pos:Pos} (hm:X.mg "min"=none) (hu:X.A.in1.units < cLine) (ha:DA X [a] tl) (hc:X.calm=true:=by rfl) (hg:Gl X "min":=by rfl) (hv:bootBuiltins "min"=some (.builtin "min"):=by rfl) (he:starEach [a] X.env=(false,eval a X.env) :: starEach [] X.env:=by rfl)
  (hpl:(backTo pos (starEach [] X.env)).any (·.1)=false:=by rfl):DE X (.Call (.Name "min" p) [a] [] pos) (dCB AeC tl):=V2 (ZS hc hu) AbX hg hm hv ha (he:=he) (hpl:=hpl)
end L2
namespace L2
open PySem PySem.Spec PyProof.Rows
variable {X:Cx}
theorem Ace {h:Heap} {a:Addr} {i1 i2:Array Value} (t1:IsTup h a i1) (t2:IsTup h a i2):i1=i2:=by
 obtain ⟨o,e1,_,n1,d1⟩:=t1
 obtain ⟨o',e2,_,n2,d2⟩:=t2
 rw [e1] at e2
 cases e2
 rw [d1] at d2
 cases d2
 rfl
noncomputable def Acl (K:PySem.W.Frag):V→List V→Hp→VK→Prop:=fun x ys H Q=>∃ p vs,∃ nss:Nat→List Int,∃ b ns j,x=.ref p∧ys=[.ref b]∧SqL K H p vs∧SqT K H b (List.map V.int ns)∧(∀ (i:Nat) (v:V),vs[i]? = some v→∃ a,v=.ref a∧SqT K H a ((nss i).map V.int)) ∧
 j < vs.length∧nss j=ns∧(∀ m,m < j→nss m≠ns)∧Q (.int (j:Nat)) H
theorem AbU {K:PySem.W.Frag} {H:Hp} {a:Addr} {ns:List Int} (h:SqT K H a (ns.map V.int)):Rp K H (Dn ns) (.ref a):=CP.mpr ⟨a,_,rfl,h,RpL.ints ns⟩
theorem Ul:∀ (ns ms:List Int),Dt.eqs (ns.map Dt.int) (ms.map Dt.int)=decide (ns=ms)
 | [],[]=>by simp [Dt.eqs]
 | [],m :: ms=>by simp [Dt.eqs]
 | n :: ns,[]=>by simp [Dt.eqs]
 | n :: ns,m :: ms=>by
  rw [List.map_cons,List.map_cons,Dt.eqs,Ul ns ms,Rw,←Bool.decide_and]
  exact decide_eq_decide.mpr (by simp)
theorem OD:∀ (ns:List Int),Dt.flats 7 (ns.map Dt.int)=true
 | []=>rfl
 | n :: ns=>by rw [List.map_cons,Dt.flats,OD ns];rfl
theorem ZJ (hu:X.A.units+64 < cLine) (hu1:X.A.in1.units+8 < cLine):MtR X "list.index" (Acl X.K):=by
 classical
 intro pins s σ H x ys v us Q I rx ry h
 obtain ⟨p,vs,nss,b,ns,j,rfl,rfl,hl,hb,each,jl,ej,before,q⟩:=h
 cases rx
 obtain ⟨u,rfl,r1⟩:=vals1 ry
 cases r1
 obtain ⟨its,rv,pl,hz⟩:=I.list hl
 have hlen:its.length=vs.length:=rv.length.symm
 have fl:∀ ns:List Int,(Dn ns).flat 8=true:=fun ns=>OD ns
 have rowAt':∀ (i:Nat) (y:Value),its[i]? = some y→∃ a,y=.ref a∧SqT X.K H a ((nss i).map V.int):=fun i y e=>by
  obtain ⟨v,e1,r2⟩:=Vals.at rv i y e
  obtain ⟨a,rfl,ht⟩:=each i v e1
  cases r2
  exact ⟨a,rfl,ht⟩
 have uniq:∀ (i i':Nat) (y:Value),its[i]? = some y→its[i']? = some y→nss i=nss i':=fun i i' y e e'=>by
  obtain ⟨a,rfl,h1⟩:=rowAt' i y e
  obtain ⟨a',ea,h2⟩:=rowAt' i' _ e'
  cases ea
  obtain ⟨i1,v1,t1,_⟩:=I.tuple h1
  obtain ⟨i2,v2,t2,_⟩:=I.tuple h2
  have es:=Ace t1 t2
  have n1:IntsAre i1.toArray.toList (nss i):=intsAre_of v1
  have n2:IntsAre i2.toArray.toList (nss i'):=intsAre_of v2
  rw [←es] at n2
  rw [←n1.numsOf,←n2.numsOf]
 obtain ⟨o,n,eo,ec,ed,dd⟩:=pl
 obtain ⟨cl,di,da,sl⟩:=o
 dsimp only at ec ed dd
 subst ec ed dd
 have jl':j < its.toArray.size:=by rw [List.size_toArray];omega
 have at':∀ (i:Nat) (hi:i < its.toArray.size),its[i]? = some its.toArray[i]:=fun i hi=>by
  rw [List.getElem_toArray]
  exact List.getElem?_eq_getElem _
 refine call_meets F.slot_list_index ⟨_,eo,rfl⟩ F.entry_list_index (F.args_list_index_2 _ _) (SeqAt.list_indexAt p its.toArray n none sl (.ref b) (fun y=>decide (∃ i,its[i]? = some y∧nss i=ns)) j jl' ?_ ?_ ?_) ⟨eo,?_,?_⟩
 ·have:sizeLine < 2 ^ 63 - 1:=by unfold sizeLine;decide
  omega
 ·exact decide_eq_true ⟨j,at' j jl',ej⟩
 ·intro m hm lt
  refine decide_eq_false ?_
  rintro ⟨i,e1,e2⟩
  exact before m lt ((uniq m i _ (at' m hm) e1).trans e2)
 ·intro y hy
  obtain ⟨i,hi,e⟩:=List.getElem_of_mem (show y∈its by simpa using hy)
  have e1:its[i]? = some y:=by rw [←e];exact List.getElem?_eq_getElem hi
  obtain ⟨a,rfl,ht⟩:=rowAt' i y e1
  obtain ⟨ca,da⟩:=Ge _ 8 (fl (nss i))
  obtain ⟨cb,db⟩:=Ge _ 8 (fl ns)
  obtain ⟨as,q1⟩:=Hz I ca (AbU ht) (rfl:RelV (.ref a) (.ref a))
  obtain ⟨bs,q2⟩:=Hz I cb (AbU hb) (rfl:RelV (.ref b) (.ref b))
  have:=SeqAt.eqAt_reads _ _ X.A.in1 s _ _ as bs q1 q2 ca cb (by omega)
  rw [Qk _ _ ca cb] at this
  have ee:(Dn (nss i)).eq (Dn ns)=decide (∃ i,its[i]? = some (Value.ref a)∧nss i=ns):=by
   show Dt.eqs _ _=_
   rw [Ul]
   refine decide_eq_decide.mpr ⟨fun z=>⟨i,e1,z⟩,?_⟩
   rintro ⟨i',e2,e3⟩
   exact (uniq i i' _ e1 e2).trans e3
  rw [ee] at this
  exact this
 ·exact ⟨.int _,H,I.tok _,⟨_,rfl⟩,q⟩
noncomputable def AdG (j:Nat) (te:DTE):DTE:=fun ρ Q=>∃ nss:List (List Int),ρ[j]? = some (some (.is (.lst (nss.map Dn))))∧te ρ fun d=>∃ ns k,d=Dn ns∧k < nss.length∧nss.getD k []=ns∧(∀ m,m < k→nss.getD m []≠ns)∧Q (.int (k:Nat))
theorem Ac8 {K:PySem.W.Frag} {H:Hp} {nss:List (List Int)} {vs:List V} (h:RpL K H (nss.map Dn) vs):vs.length=nss.length∧∀ (i:Nat) (v:V),vs[i]? = some v→∃ a,v=.ref a∧SqT K H a ((nss.getD i []).map V.int):=by
 refine ⟨by rw [RpL.len' h,List.length_map],fun i v e=>?_⟩
 obtain ⟨d,e1,r⟩:=RpL.at' i v h e
 rw [List.getElem?_map] at e1
 cases q:nss[i]? with
 | none=>rw [q] at e1;cases e1
 | some ns =>
  rw [q] at e1
  cases e1
  have:nss.getD i []=ns:=by simp [List.getD,q]
  rw [this]
  obtain ⟨a,ys,rfl,ht,hy⟩:=CP.mp r
  obtain rfl:=Lp hy
  exact ⟨a,rfl,ht⟩
theorem ZW (j:Nat) {e:Expr} {te:DTE} {x:Str} {px ap cp:Pos} (hu:X.A.units+64 < cLine) (hu1:X.A.in1.units+8 < cLine) (he:DE X e te) (hN:X.N[j]? = some x:=by rfl) (hv:Vis X.env.scope x:=by first | exact Or.inl rfl | exact Or.inr (Or.inl rfl) | exact Or.inr (Or.inr rfl)) (hd:(x == ("__debug__":Str))=false:=by decide)
  (hcd:(x == ("__classdict__":Str))=false:=by decide) (hbase:attributeBase (.Name x px) "index" X.env (eval (.Name x px) X.env)=eval (.Name x px) X.env:=by rfl)
  (hfew:((backTo cp (starEach [e] X.env)).all (fun x=>!x.1) && (backToKw cp (keywordEach [] X.env)).all (fun x=>x.1.isSome) && decide ([e].length+([]:List Keyword).length+(if ([]:List Keyword).isEmpty then 0 else 1) < 30))=true:=by rfl)
  (hline:(ap.endLine == cp.line)=true:=by rfl) (hst:starEach [e] X.env=(false,eval e X.env) :: starEach [] X.env:=by rfl) (hplain:(backTo cp (starEach [] X.env)).any (·.1)=false:=by rfl) :
  DE X (.Call (.Attribute (.Name x px) "index" ap) [e] [] cp) (AdG j te) where
 mono:=fun hq ⟨nss,e1,h⟩=>⟨nss,e1,he.mono (fun d ⟨ns,k,a,b,c,d',h⟩=>⟨ns,k,a,b,c,d',hq _ h⟩) h⟩
 pe:=(Ae6 PySem.F.plainAttrs_list PySem.F.slot_list_index PySem.F.type_list_index (ZJ hu hu1) (HD hN hv hd hcd) (Kh he.pe S7 hst) hbase hfew hline hst hplain).imp fun σ H Q ⟨B,F,O,ρ,R,nss,e1,h⟩=>by
  obtain ⟨v,h1,r⟩:=R.is j _ e1
  obtain ⟨p,vs,rfl,hs,hl⟩:=FP r
  refine ⟨_,h1,.inl ⟨rfl,_,(Bf (O:=F ++ O) (H:=H)).seq hs⟩,B,F,O,ρ,R,he.mono (fun d h v H1 s1 r1=>?_) h⟩
  obtain ⟨ns,k,rfl,kl,ek,before,q⟩:=h
  obtain ⟨b,ys,rfl,hb,hy⟩:=CP.mp r1
  obtain rfl:=Lp hy
  obtain ⟨ll,each⟩:=Ac8 (hl.mono s1.mask)
  refine ⟨p,vs,fun i=>nss.getD i [],b,ns,k,rfl,rfl,(Bf (O:=F ++ O) (H:=H1)).seq (s1.mask.seq hs),(Bf (O:=F ++ O) (H:=H1)).seqT hb,fun i v e=>?_,by omega,ek,before,q _ H1 (Same.refl H1 |> fun _=>s1) (Bc.mpr rfl)⟩
  obtain ⟨a,ea,ht⟩:=each i v e
  exact ⟨a,ea,(Bf (O:=F ++ O) (H:=H1)).seqT ht⟩
theorem AgF {A:Around} (h:A.units+64 < cLine):A.in1.units < cLine:=by show A.units+1 < cLine;omega
theorem AhF {A:Around} (h:A.units+64 < cLine):A.in1.units+8 < cLine:=by show A.units+1+8 < cLine;omega
end L2
namespace L2
open PySem PySem.Spec PyProof.Rows PySem.SeqAt
section
variable {X:Cx} {a b c e o:Expr} {es:List Expr} {ta tb te:DTE} {tl:DTA} {pos apos:Pos}
noncomputable def Afr (K:PySem.W.Frag) (te:DTE) (f:Str):DTE:=fun ρ Q=>te ρ fun d=>match d with
 | .obj c ns ds=>Rf K c f∧∃ v,(ns.zip ds).lookup f=some v∧Q v
 | _=>False
theorem HY {f:Str} (h:DE X e te) (hb:attributeBase e f X.env (eval e X.env)=eval e X.env:=by rfl):DE X (.Attribute e f pos) (Afr X.K te f) where
 mono:=fun hq z=>h.mono (fun d z=>by
  split at z
  ·exact let ⟨a,v,b,c⟩:=z;⟨a,v,b,hq _ c⟩
  ·exact z.elim) z
 pe:=(Ahp h.pe hb).imp fun σ H Q ⟨B,F,O,ρ,R,z⟩=>⟨B,F,O,ρ,R,h.mono (fun d z v H1 s1 r1=>by
  split at z
  ·obtain ⟨na,y,ly,q⟩:=z
   obtain ⟨a,C,dx,vs,rfl,h1,cl,h2,_,h5⟩:=W3.mp r1
   obtain ⟨v,lv,rv⟩:=zip_get h5 ly
   exact ⟨a,C,dx,_,v,rfl,Bf _ _ h2,cl,na C h1,lv,q v H1 s1 rv⟩
  ·exact z.elim) z⟩
structure IsC (K:PySem.W.Frag) (c:Str):Prop where
 ha:∀ C,PySem.W.nsIn K mainGlobals c=some (some (.ref C))→PySem.W.findIn K (.ref C) "__class__"=some (some (.builtin "object.__class__"))
 hn:PySem.W.specialIn K (.builtin "object.__class__") "__get__"=some (some (.builtin "getset_descriptor.__get__"))
 ht:PySem.W.takesIn K (.builtin "object.__class__")=some true
 hm:∀ C,PySem.W.nsIn K mainGlobals c=some (some (.ref C))→PySem.W.mroIn K C (.type "object")=some true
noncomputable def Al0 (K:PySem.W.Frag):DL:=fun ds Q=>match ds with
 | [.obj c _ _,.fn A]=>∃ v,IsC K c∧Aht K c A v∧Q (.bl v)
 | _=>False
noncomputable def Yc (K:PySem.W.Frag) (c m:Str) (g:Addr):Prop:=∀ C,PySem.W.nsIn K mainGlobals c=some (some (.ref C))→Meth K C m g
noncomputable def AbO (K:PySem.W.Frag) (m:Str) (g:Addr) (sp:Sp) (ta:TE) (t:TA):TE:=fun σ H Q=>ta σ H fun x H1=>∃ a C dx fs,x=.ref a∧H1 a=some (.ins C dx fs)∧Cls K C∧Meth K C m g∧fs.lookup m=none∧t σ H1 fun vs H2=>sp (x :: vs) H2 Q E0
theorem Z0 {pl:Sem Bool} {k:Nat} {m:Str} {g:Addr} {fd:FuncData} {ps:List Str} {sp:Sp} {ta:TE} (he:PE X o ta) (F:HN X.prog X.w X.K X.mg X.base CX0 k g fd ps sp) (hr:Ez k X.A) (hb:Binds X.K fd ps [])
  (ht:eval (.Call (.Attribute o m apos) [] [] pos) X.env=(do
   let ov ←eval o X.env
   standAt apos.atName
   let (f,first) ←holding [ov] (getMethod ov m pl)
   callWith pos f first (backTo pos (starEach [] X.env)) (backToKw pos (keywordEach [] X.env))):=by rfl) :
  PE X (.Call (.Attribute o m apos) [] [] pos) (AbO X.K m g sp ta AiW):=by
 intro pins s σ H Q I h
 refine PySem.W.methodCall_KW (pl:=pl) (thn (he pins s σ H _ I h) fun u s1 ⟨x,H1,I1,rx,a,C,dx,fs,ex,ea,c,hm,l,q⟩=>?_) ht
 subst ex
 obtain rfl:u=Value.ref a:=rx
 refine Xv I1 ea c hm l ?_
 exact PySem.W.callWith_K0 (first:=[.ref a]) I1.kIn hm.kp (TQ (us:=[.ref a]) (vs:=[.ref a]) F hr hb .nil U8 I1 (.cons rfl .nil) q)
noncomputable def Qw (K:PySem.W.Frag) (m:Str) (g:Addr) (sp:DSp) (te:DTE) (tl:DTA):DTE:=fun ρ Q=>te ρ fun d=>match d with
 | .obj c ns ds=>Yc K c m g∧m∉ns∧tl ρ fun es=>sp (.obj c ns ds :: es) Q
 | _=>False
theorem Us {f:Str}:∀ {ns:List Str} {vs:List V},f∉ns→(ns.zip vs).lookup f=none
 | [],_,_=>by simp
 | _ :: _,[],_=>by simp
 | n :: ns,v :: vs,h=>by
  have hb:(f == n)=false:=beq_eq_false_iff_ne.mpr fun e=>h (by rw [e];exact List.mem_cons_self)
  rw [List.zip_cons_cons]
  simp only [List.lookup,hb]
  exact Us fun z=>h (List.mem_cons_of_mem _ z)
theorem Acd {m:Str} {g:Addr} {sp:DSp} (M:Hy sp) (h:DE X o te) (ha:DA X es tl) (σ:St) (H:Hp) (Q:VK) (z:lE X.K (Qw X.K m g sp te tl) σ H Q):AbO X.K m g (lSp X.K sp) (lE X.K te) (lA X.K tl) σ H Q:=by
 obtain ⟨B,F,O,ρ,R,z⟩:=z
 refine ⟨B,F,O,ρ,R,h.mono (fun d z v H1 s1 r1=>?_) z⟩
 split at z
 ·obtain ⟨mo,nm,z⟩:=z
  obtain ⟨a,C,dx,vs,e0,h1,cl,h2,_,h5⟩:=W3.mp r1
  subst e0
  refine ⟨a,C,dx,_,rfl,Bf _ _ h2,cl,mo C h1,Us nm,B,F,O,ρ,R.same s1,ha.mono (fun es z ws H2 s2 r2=>?_) z⟩
  exact ⟨F ++ O,_,((R.same s1).same s2).th,RpL.cons (r1.mono s2.mask) r2,M _ _ _ (fun d q w H3 s3 r3=>q w H3 ((s1.trans s2).trans s3) r3) z⟩
 ·exact z.elim
theorem ZM {m:Str} {g:Addr} {sp:DSp} (M:Hy sp) (h:DE X o te) (ha:DA X es tl) {ρ:BX} {Q Q':Dt→Prop} (hq:∀ d,Q d→Q' d) (z:Qw X.K m g sp te tl ρ Q):Qw X.K m g sp te tl ρ Q':=h.mono (fun d z=>by
 split at z
 ·exact ⟨z.1,z.2.1,ha.mono (fun es z=>M _ _ _ hq z) z.2.2⟩
 ·exact z.elim) z
theorem AbE {pl:Sem Bool} {k:Nat} {m:Str} {g:Addr} {fd:FuncData} {ps:List Str} {sp:DSp} (M:Hy sp) (F:HN X.prog X.w X.K X.mg X.base CX0 k g fd ps (lSp X.K sp)) (hb:Binds X.K fd ps []) (hr:Ez k X.A) (h:DE X o te)
  (ht:eval (.Call (.Attribute o m apos) [] [] pos) X.env=(do
   let ov ←eval o X.env
   standAt apos.atName
   let (f,first) ←holding [ov] (getMethod ov m pl)
   callWith pos f first (backTo pos (starEach [] X.env)) (backToKw pos (keywordEach [] X.env))):=by rfl):DE X (.Call (.Attribute o m apos) [] [] pos) (Qw X.K m g sp te Aab) where
 mono:=ZM (X:=X) M h Af
 pe:=(Z0 h.pe F hr hb ht).imp fun σ H Q z=>by
  have:=Acd M h Af σ H Q z
  obtain ⟨B,F,O,ρ,R,z⟩:=this
  refine ⟨B,F,O,ρ,R,h.mono (fun d z v H1 s1 r1=>?_) z⟩
  obtain ⟨a,C,dx,fs,e1,e2,e3,e4,e5,z⟩:=z v H1 s1 r1
  obtain ⟨B',F',O',ρ',R',z⟩:=z
  exact ⟨a,C,dx,fs,e1,e2,e3,e4,e5,z [] H1 (Same.refl H1) RpL.nil⟩
noncomputable abbrev DIn:=List Dt→(List Dt→Prop)→Prop
noncomputable def AbW (K:PySem.W.Frag) (ns:List Str) (sp:DIn):Sp:=fun vs H Q _=>∃ x C dx ys F ds,vs=.ref x :: ys∧H x=some (.ins C dx [])∧Cls K C∧(∀ f∈ns,Im K C f)∧x∈F∧(∀ a∈F,H a≠none)∧RpL K (mask F H) ds ys ∧
 sp ds fun fds=>∀ ws H',Same (mask [x] H) H'→H' x=some (.ins C dx (ns.zip ws))→ns.length=fds.length→RpL K (mask F H') fds ws→Q .non H'
noncomputable def Tz (sp:DIn):Prop:=∀ ds Q Q',(∀ d,Q d→Q' d)→sp ds Q→sp ds Q'
structure MkC (K:PySem.W.Frag) (mg:Str→Option Value) (c:Str) (ns:List Str) (C f:Addr):Prop where
 mm:Mk K C f
 at_:PySem.W.nsIn K mainGlobals c=some (some (.ref C))
 gl:mg c=some (.ref C)
 cl:Cls K C
 no:∀ f∈ns,Im K C f
noncomputable def Aat (c:Str) (ns:List Str) (sp:DIn) (tl:DTA):DTE:=fun ρ Q=>tl ρ fun ds=>sp ds fun fds=>Q (.obj c ns fds)
theorem AcU {k:Nat} {c:Str} {ns ps:List Str} {C f:Addr} {fd:FuncData} {sp:DIn} {p:Pos} (m:Tz sp) (M:MkC X.K X.mg c ns C f) (G:HN X.prog X.w X.K X.mg X.base CX0 k f fd ps (AbW X.K ns sp)) (hb:Binds X.K fd ps []) (hr:Ez (k+1) X.A) (hg:Gl X c) (ha:DA X (e :: es) tl)
  (hdb:(c == ("__debug__":Str))=false:=by decide) (he:starEach (e :: es) X.env=(false,eval e X.env) :: starEach es X.env:=by rfl) (hpl:(backTo pos (starEach es X.env)).any (·.1)=false:=by rfl):DE X (.Call (.Name c p) (e :: es) [] pos) (Aat c ns sp tl) where
 mono:=fun hq z=>ha.mono (fun ds z=>m _ _ _ (fun fds q=>hq _ q) z) z
 pe:=(Adh M.mm G hr hg M.gl hb .nil U8 ha.pa hdb he hpl).imp fun σ H Q ⟨B,F,O,ρ,R,z⟩=>⟨B,F,O,ρ,R,ha.mono (fun ds z vs H1 s1 r1 x dx nx ndx ne=>by
  have R1:=R.same s1
  have ox:x∉F ++ O:=fun w=>R1.th x w nx
  have s2:Same H1 (upd (upd H1 dx (.own x)) x (.ins C dx [])):=fun b o q=>by rw [Aw (Bv q nx),Aw (Bv q ndx)];exact q
  refine ⟨x,C,dx,vs,x :: (F ++ O),ds,by rw [List.append_nil],Bl,M.cl,M.no,List.mem_cons_self,fun b hb'=>?_,?_,m _ _ _ (fun fds q ws H' s' h1 h2 h3=>⟨rfl,?_⟩) z⟩
  ·rcases List.mem_cons.mp hb' with e | w
   ·rw [e,Bl];simp
   ·intro q
    cases e:H1 b with
    | none=>exact R1.th b w e
    | some u=>rw [s2 _ _ e] at q;cases q
  ·refine r1.mono fun b o q=>?_
   obtain ⟨n1,q⟩:=CQ q
   rw [Bd fun w=>(List.mem_cons.mp w).elim (fun e=>by rw [e,nx] at q;cases q) n1]
   exact s2 _ _ q
  ·have s3:Same H1 H':=fun b o q=>s' b o (by rw [Bd fun w=>by rw [List.mem_singleton.mp w,nx] at q;cases q];exact s2 _ _ q)
   refine q (.ref x) H' (s1.trans s3) (W3.mpr ⟨x,C,dx,ws,rfl,M.at_,M.cl,by rw [Bd ox];exact h1,h2,h3.mono (Gz fun b hb'=>List.mem_cons_of_mem _ hb')⟩)) z⟩
end
end L2
namespace L2
open PySem PySem.Spec PyProof.Rows PySem.SeqAt
section
variable {K:PySem.W.Frag} {B:Hp} {F O:List Addr} {H:Hp} {σ:St} {ρ:BX} {x:Addr}
theorem Rep.updF (r:Rep K B F O H σ ρ) (hx:x∈F) (hB:B x=none) (o:HO):Rep K B F O (upd H x o) σ ρ:=by
 have em:mask (F ++ O) (upd H x o)=mask (F ++ O) H:=Jk (List.mem_append_left _ hx)
 refine ⟨r.len,fun b u e=>?_,r.fr,fun b hb e=>?_,fun j d q=>?_,fun j ks q=>?_,r.inj,fun j ks q=>?_,r.tinj⟩
 ·rw [Aw fun z=>by rw [z,hB] at e;cases e];exact r.base b u e
 ·by_cases z:b=x
  ·rw [z,Bl] at e;cases e
  ·rw [Aw z] at e;exact r.th b hb e
 ·rw [em];exact r.is j d q
 ·obtain ⟨b,zs,e1,e2,e3,e4,e5⟩:=r.own j ks q
  exact ⟨b,zs,e1,e2,e3,by rw [Aw fun z=>e3 (by rw [z];exact hx)];exact e4,by rw [em];exact e5⟩
 ·obtain ⟨b,zs,e1,e2,e3,e4,e5⟩:=r.tab j ks q
  exact ⟨b,zs,e1,e2,e3,by rw [Aw fun z=>e3 (by rw [z];exact hx)];exact e4,by rw [em];exact e5⟩
noncomputable def Jl (N:List Str) (ds:List Dt):BX:=none :: (ds.map (fun d=>some (.is d)) ++ List.replicate (N.length - (ds.length+1)) none)
theorem Ld {N:List Str} {ds:List Dt} {ys:List V} (hx:x∈F) (hF:∀ a∈F,H a≠none) (r:RpL K (mask F H) ds ys):Rep K (mask [x] H) F [] H (start N (.ref x :: ys)) (Jl N ds):=by
 have hl:=r.len
 have get:∀ (i:Nat) (e:En),(Jl N ds)[i]? = some (some e)→∃ j d,i=j+1∧ds[j]? = some d∧e=.is d:=fun i e q=>by
  cases i with
  | zero=>cases q
  | succ j =>
   have q:(ds.map (fun d=>some (En.is d)) ++ List.replicate (N.length - (ds.length+1)) none)[j]? = some (some e):=q
   by_cases hi:j < ds.length
   ·rw [List.getElem?_append_left (by simpa using hi),List.getElem?_map] at q
    cases w:ds[j]? with
    | none=>rw [w] at q;cases q
    | some d=>rw [w] at q;cases q;exact ⟨j,d,rfl,w,rfl⟩
   ·rw [List.getElem?_append_right (by simpa using hi),List.getElem?_replicate] at q
    split at q <;> cases q
 refine ⟨?_,Bf,fun a h=>(nomatch h),fun a h=>hF a (by simpa using h),fun i d e=>?_,fun i es e=>?_,fun i j es es' a h1=>?_,fun i es e=>?_,fun i j es es' a h1=>?_⟩
 ·unfold start Jl;simp [hl]
 ·obtain ⟨j,d',rfl,e1,e2⟩:=get i _ e
  cases e2
  obtain ⟨v,w1,w2⟩:=r.get e1
  have hj:j < ys.length:=by rw [hl];exact (List.getElem?_eq_some_iff.mp e1).1
  refine ⟨v,?_,by rw [List.append_nil];exact w2⟩
  unfold start
  rw [List.getElem?_append_left (by simp;omega),List.getElem?_map,List.getElem?_cons_succ,w1];rfl
 ·obtain ⟨_,_,_,_,z⟩:=get i _ e;cases z
 ·obtain ⟨_,_,_,_,z⟩:=get i _ h1;cases z
 ·obtain ⟨_,_,_,_,z⟩:=get i _ e;cases z
 ·obtain ⟨_,_,_,_,z⟩:=get i _ h1;cases z
end
section
variable {X:Cx} {e e1 e2 e3:Expr} {es:List Expr} {te1 te2 te3:DTE} {tl:DTA} {pos apos:Pos}
noncomputable def Ak5 (K:PySem.W.Frag) (f1 f2 f3:Str) (te1 te2 te3:DTE):TS:=fun D σ H=>∃ B F ρ x C dx,∃ S:List Dt→Prop,Rep K B F [] H σ ρ∧x∈F∧B x=none∧σ[0]? = some (some (.ref x))∧H x=some (.ins C dx [])∧Cls K C∧(∀ f∈[f1,f2,f3],Im K C f) ∧
 (te1 ρ fun d1=>te2 ρ fun d2=>te3 ρ fun d3=>S [d1,d2,d3])∧∀ fds,S fds→∀ ws H',Same B H'→H' x=some (.ins C dx ([f1,f2,f3].zip ws))→[f1,f2,f3].length=fds.length→RpL K (mask F H') fds ws→D.nx σ H'
theorem AbA {f1 f2 f3:Str} {y:Str} {q1 q2 q3 p1 p2 p3 s1 s2 s3:Pos} (h1:DE X e1 te1) (h2:DE X e2 te2) (h3:DE X e3 te3) (n12:f1≠f2) (n13:f1≠f3) (n23:f2≠f3) (hN:X.N[0]? = some y:=by rfl) (hv:Vis X.env.scope y:=by first | exact Or.inl rfl | exact Or.inr (Or.inl rfl) | exact Or.inr (Or.inr rfl))
  (hd:(y == ("__debug__":Str))=false:=by decide) (hcd:(y == ("__classdict__":Str))=false:=by decide)
  (w1:swapsWith e1 (some (.Attribute (.Name y q1) f1 p1)) s1.line X.env=pure false:=by rfl) (w2:swapsWith e2 (some (.Attribute (.Name y q2) f2 p2)) s2.line X.env=pure false:=by rfl) (w3:swapsWith e3 (some (.Attribute (.Name y q3) f3 p3)) s3.line X.env=pure false:=by rfl) :
  PSs X [.Assign [.Attribute (.Name y q1) f1 p1] e1 s1,.Assign [.Attribute (.Name y q2) f2 p2] e2 s2,.Assign [.Attribute (.Name y q3) f3 p3] e3 s3] (Ak5 X.K f1 f2 f3 te1 te2 te3) :=
 (Pn (W4 (HD hN hv hd hcd) h1.pe w1) (Pn (W4 (HD hN hv hd hcd) h2.pe w2) (Sy (W4 (HD hN hv hd hcd) h3.pe w3)))).imp fun D σ H ⟨B,F,ρ,x,C,dx,S,R,xF,Bx,σ0,Hx,cl,no,z,fin⟩=>by
  have em:∀ (H:Hp) (o:HO),mask (F ++ []) (upd H x o)=mask (F ++ []) H:=fun H o=>Jk (List.mem_append_left _ xF)
  refine ⟨B,F,[],ρ,R,h1.mono (fun d1 z y1 H1 t1 r1=>?_) z⟩
  refine ⟨.ref x,σ0,x,C,dx,[],rfl,t1 _ _ Hx,cl,no f1 (by simp),by decide,?_⟩
  have R1:=(R.same t1).updF xF Bx (.ins C dx (Hu f1 y1 []))
  refine ⟨B,F,[],ρ,R1,h2.mono (fun d2 z y2 H2 t2 r2=>?_) z⟩
  refine ⟨.ref x,σ0,x,C,dx,[(f1,y1)],rfl,t2 _ _ Bl,cl,no f2 (by simp),by show 1 < 1000;decide,?_⟩
  have R2:=(R1.same t2).updF xF Bx (.ins C dx (Hu f2 y2 [(f1,y1)]))
  refine ⟨B,F,[],ρ,R2,h3.mono (fun d3 z y3 H3 t3 r3=>?_) z⟩
  have ep2:Hu f2 y2 [(f1,y1)]=[(f1,y1),(f2,y2)]:=by simp [Hu,n12]
  have ep3:Hu f3 y3 [(f1,y1),(f2,y2)]=[(f1,y1),(f2,y2),(f3,y3)]:=by simp [Hu,n13,n23]
  rw [ep2] at t3 R2
  refine ⟨.ref x,σ0,x,C,dx,[(f1,y1),(f2,y2)],rfl,t3 _ _ Bl,cl,no f3 (by simp),by show 2 < 1000;decide,?_⟩
  have R3:=(R2.same t3).updF xF Bx (.ins C dx (Hu f3 y3 [(f1,y1),(f2,y2)]))
  rw [ep3] at R3 ⊢
  rw [List.append_nil] at r1 r2 r3 em
  refine fin _ z [y1,y2,y3] _ R3.base Bl rfl ?_
  rw [em]
  have m12:Same (mask F H1) (mask F H2):=fun b o q=>t2.mask b o (by rw [em];exact q)
  have m23:Same (mask F H2) (mask F H3):=fun b o q=>t3.mask b o (by rw [em];exact q)
  exact RpL.cons ((r1.mono m12).mono m23) (RpL.cons (r2.mono m23) (RpL.cons r3 RpL.nil))
structure YW (K:PySem.W.Frag) (mg:Str→Option Value) (c m:Str) (g:Addr):Prop where
 ex:∃ CS,mg c=some (.ref CS)∧PySem.W.specialIn K (.ref CS) "__getattribute__"=some (some (.builtin "type.__getattribute__"))∧PySem.W.readsIn K CS (.type "type")=true∧PySem.W.findCls K (.ref CS) (.type "type") m=some (.val (.ref g))
 kp:PySem.W.keepIn K (.ref g)=true
theorem Abm {pl:Sem Bool} {k:Nat} {c m:Str} {g:Addr} {fd:FuncData} {ps:List Str} {sp:Sp} {t:TA} {p:Pos} (M:YW X.K X.mg c m g) (hg:Gl X c) (F:HN X.prog X.w X.K X.mg X.base CX0 k g fd ps sp) (hr:Ez k X.A) (hb:Binds X.K fd ps []) (ha:PA X (e :: es) t)
  (hdb:(c == ("__debug__":Str))=false:=by decide) (hst:starEach (e :: es) X.env=(false,eval e X.env) :: starEach es X.env:=by rfl) (hpl:(backTo pos (starEach es X.env)).any (·.1)=false:=by rfl)
  (ht:eval (.Call (.Attribute (.Name c p) m apos) (e :: es) [] pos) X.env=(do
   let ov ←eval (.Name c p) X.env
   standAt apos.atName
   let (f,first) ←holding [ov] (getMethod ov m pl)
   callWith pos f first (backTo pos (starEach (e :: es) X.env)) (backToKw pos (keywordEach [] X.env))):=by rfl) :
  PE X (.Call (.Attribute (.Name c p) m apos) (e :: es) [] pos) (Afo sp [] E0 t):=by
 intro pins s σ H Q I h
 obtain ⟨CS,hm,hs,hr',hf⟩:=M.ex
 have q0:=(YG (v:=.ref CS) (pos:=p) hg hm rfl hdb:PE X (.Name c p) (tC (.ref CS))) pins s σ H (fun v H1=>v=.ref CS∧H1=H) I ⟨rfl,rfl⟩
 refine PySem.W.methodCall_KW (pl:=pl) (thn q0 fun u s1 ⟨x,H1,I1,rx,ex,eH⟩=>?_) ht
 subst ex
 subst eH
 obtain rfl:u=Value.ref CS:=rx
 refine PySem.W.method_cls I1.kIn hs (PySem.W.cls_value I1.kIn hr' hf rfl ?_)
 refine PySem.W.callWith_K (first:=[]) (h₀:=X.base) I.ok.mod.kin M.kp (thn (ha pos pins _ σ H1 _ (I1.tok _) h) fun us s2 ⟨vs,H2,I2,r,q2⟩=>⟨I2.kIn,?_⟩) hst hpl
 exact TQ F hr hb .nil U8 I2 r q2
noncomputable def Akt (K:PySem.W.Frag) (ns:List Str) (sp:DIn) (tl:DTA):TS:=fun D σ H=>∃ B F ρ x C dx,∃ S:List Dt→Prop,Rep K B F [] H σ ρ∧x∈F∧B x=none∧σ[0]? = some (some (.ref x))∧H x=some (.ins C dx [])∧Cls K C∧(∀ f∈ns,Im K C f) ∧
 (tl ρ fun ds=>sp ds S)∧∀ fds,S fds→∀ ws H',Same B H'→H' x=some (.ins C dx (ns.zip ws))→ns.length=fds.length→RpL K (mask F H') fds ws→D.nx σ H'
theorem VN {pl:Sem Bool} {k:Nat} {c y:Str} {g:Addr} {fd:FuncData} {ps ns:List Str} {sp:DIn} {p q ap cp:Pos} (m:Tz sp) (M:YW X.K X.mg c "__init__" g) (hg:Gl X c) (G:HN X.prog X.w X.K X.mg X.base CX0 k g fd ps (AbW X.K ns sp)) (hb:Binds X.K fd ps []) (hr:Ez k X.A) (ha:DA X es tl) (hN:X.N[0]? = some y:=by rfl)
  (hv:Vis X.env.scope y:=by first | exact Or.inl rfl | exact Or.inr (Or.inl rfl) | exact Or.inr (Or.inr rfl)) (hd:(y == ("__debug__":Str))=false:=by decide) (hcd:(y == ("__classdict__":Str))=false:=by decide) (hdb:(c == ("__debug__":Str))=false:=by decide)
  (hst:starEach (.Name y q :: es) X.env=(false,eval (.Name y q) X.env) :: starEach es X.env:=by rfl) (hpl:(backTo cp (starEach es X.env)).any (·.1)=false:=by rfl)
  (ht:eval (.Call (.Attribute (.Name c p) "__init__" ap) (.Name y q :: es) [] cp) X.env=(do
   let ov ←eval (.Name c p) X.env
   standAt ap.atName
   let (f,first) ←holding [ov] (getMethod ov "__init__" pl)
   callWith cp f first (backTo cp (starEach (.Name y q :: es) X.env)) (backToKw cp (keywordEach [] X.env))):=by rfl)
  (hs:swapsWith (.Call (.Attribute (.Name c p) "__init__" ap) (.Name y q :: es) [] cp) none pos.line X.env=pure false:=by rfl) :
  PSs X [.Expr (.Call (.Attribute (.Name c p) "__init__" ap) (.Name y q :: es) [] cp) pos] (Akt X.K ns sp tl) :=
 (Sy (Um (Abm M hg G hr hb (Kh (HD hN hv hd hcd) ha.pa hst) hdb hst hpl ht) hs)).imp fun D σ H ⟨B,F,ρ,x,C,dx,S,R,xF,Bx,σ0,Hx,cl,no,z,fin⟩=>by
  refine ⟨.ref x,σ0,B,F,[],ρ,R,ha.mono (fun ds z vs H1 s1 r1=>?_) z⟩
  show AbW X.K ns sp ((.ref x :: vs) ++ []) H1 _ E0
  rw [List.append_nil]
  have R1:=R.same s1
  rw [List.append_nil] at r1
  refine ⟨x,C,dx,vs,F,ds,rfl,s1 _ _ Hx,cl,no,xF,fun a h=>R1.th a (List.mem_append_left _ h),r1,m _ _ _ (fun fds w ws H' s' h1 h2 h3=>fin fds w ws H' (fun b o e=>s' b o ?_) h1 h2 h3) z⟩
  rw [Bd fun w=>by rw [List.mem_singleton.mp w,Bx] at e;cases e]
  exact R1.base b o e
end
noncomputable def Rq {τ:Type} (args:τ→List Dt) (pre:τ→Prop) (post:τ→List Dt→Prop):DIn:=fun ds R=>∃ p,ds=args p∧pre p∧∀ fds,post p fds→R fds
theorem Jo {τ:Type} {args:τ→List Dt} {pre:τ→Prop} {post:τ→List Dt→Prop}:Tz (Rq args pre post):=fun _ _ _ hq ⟨p,e,h,q⟩=>⟨p,e,h,fun d z=>hq _ (q d z)⟩
theorem Mf {τ:Type} {args:τ→List Dt} {pre:τ→Prop} {post:τ→List Dt→Prop} {R:List Dt→Prop} (p:τ) (h:pre p) (q:∀ fds,post p fds→R fds):Rq args pre post (args p) R:=⟨p,rfl,h,q⟩
noncomputable def PmC (P:Program) (w:World) (K:PySem.W.Frag) (mg:Str→Option Value) (base:Heap) (k:Nat) (c:Str) (ns:List Str) (sp:DIn):Prop:=∃ g fd ps,YW K mg c "__init__" g∧Binds K fd ps []∧HN P w K mg base CX0 k g fd ps (AbW K ns sp)
noncomputable def PmI (P:Program) (w:World) (K:PySem.W.Frag) (mg:Str→Option Value) (base:Heap) (k:Nat) (c:Str) (ns:List Str) (sp:DIn):Prop:=∃ C f fd ps,MkC K mg c ns C f∧Binds K fd ps []∧HN P w K mg base CX0 k f fd ps (AbW K ns sp)
noncomputable def PmM (P:Program) (w:World) (K:PySem.W.Frag) (mg:Str→Option Value) (base:Heap) (k:Nat) (cs:List Str) (m:Str) (sp:DSp):Prop:=∃ g fd ps,(∀ c∈cs,Yc K c m g)∧PySem.W.keepIn K (.ref g)=true∧Binds K fd ps []∧HN P w K mg base CX0 k g fd ps (lSp K sp)
section
variable {X:Cx} {e o:Expr} {es:List Expr} {te:DTE} {tl:DTA} {pos apos:Pos}
theorem Wm {k:Nat} {c:Str} {ns:List Str} {sp:DIn} {p:Pos} (m:Tz sp) (G:PmI X.prog X.w X.K X.mg X.base k c ns sp) (hr:Ez (k+1) X.A) (hg:Gl X c) (ha:DA X (e :: es) tl)
  (hdb:(c == ("__debug__":Str))=false:=by decide) (he:starEach (e :: es) X.env=(false,eval e X.env) :: starEach es X.env:=by rfl) (hpl:(backTo pos (starEach es X.env)).any (·.1)=false:=by rfl):DE X (.Call (.Name c p) (e :: es) [] pos) (Aat c ns sp tl):=by
 obtain ⟨C,f,fd,ps,M,B,G⟩:=G
 exact AcU m M G B hr hg ha hdb he hpl
noncomputable def Pa (cs:List Str) (m:Str) (sp:DSp) (te:DTE) (tl:DTA):DTE:=fun ρ Q=>te ρ fun d=>match d with
 | .obj c ns ds=>(c∈cs∧m∉ns)∧tl ρ fun es=>sp (.obj c ns ds :: es) Q
 | _=>False
theorem WW {cs:List Str} {m:Str} {sp:DSp} (M:Hy sp) (h:DE X o te) (ha:DA X es tl) {ρ:BX} {Q Q':Dt→Prop} (hq:∀ d,Q d→Q' d) (z:Pa cs m sp te tl ρ Q):Pa cs m sp te tl ρ Q':=h.mono (fun d z=>by
 split at z
 ·exact ⟨z.1,ha.mono (fun es z=>M _ _ _ hq z) z.2⟩
 ·exact z.elim) z
theorem Acg {cs:List Str} {m:Str} {g:Addr} {sp:DSp} (M:Hy sp) (hm:∀ c∈cs,Yc X.K c m g) (h:DE X o te) (σ:St) (H:Hp) (Q:VK) (z:lE X.K (Pa cs m sp te tl) σ H Q):lE X.K (Qw X.K m g sp te tl) σ H Q:=by
 obtain ⟨B,F,O,ρ,R,z⟩:=z
 refine ⟨B,F,O,ρ,R,h.mono (fun d z=>?_) z⟩
 split at z
 ·exact ⟨hm _ z.1.1,z.1.2,z.2⟩
 ·exact z.elim
theorem MF {pl:Sem Bool} {k:Nat} {cs:List Str} {m:Str} {sp:DSp} (M:Hy sp) (G:PmM X.prog X.w X.K X.mg X.base k cs m sp) (hr:Ez k X.A) (h:DE X o te)
  (ht:eval (.Call (.Attribute o m apos) [] [] pos) X.env=(do
   let ov ←eval o X.env
   standAt apos.atName
   let (f,first) ←holding [ov] (getMethod ov m pl)
   callWith pos f first (backTo pos (starEach [] X.env)) (backToKw pos (keywordEach [] X.env))):=by rfl):DE X (.Call (.Attribute o m apos) [] [] pos) (Pa cs m sp te Aab):=by
 obtain ⟨g,fd,ps,hm,kp,B,G⟩:=G
 exact ⟨WW M h Af,(AbE M G B hr h ht).pe.imp fun σ H Q z=>Acg M hm h σ H Q z⟩
end
end L2
namespace L2
open PySem PySem.Spec PyProof.Rows
inductive Lex (A:Around) (s:Shared):List Value→List Value→Bool→Prop
 | nn:Lex A s [] [] false
 | nc {y:Value} {ys:List Value}:Lex A s [] (y :: ys) true
 | cn {x:Value} {xs:List Value}:Lex A s (x :: xs) [] false
 | eq {x y:Value} {xs ys:List Value} {r:Bool} (h:SeqAt.EqAt A s x y true) (t:Lex A s xs ys r):Lex A s (x :: xs) (y :: ys) r
 | lt {x y:Value} {xs ys:List Value} {r:Bool} (h:SeqAt.EqAt A s x y false) (t:∀ (prog:Program) (w:World) (E:Value→Shared→Prop) (Q:Value→Shared→Prop),Q (.bool r) s→wpAny (model prog w) A (richCompare .Lt x y) Q E s):Lex A s (x :: xs) (y :: ys) r
section
open PySem.SeqAt PySem.AutoSeq1 PySem.MeetsSeq PySem.MeetsSeq2 PySem.MeetsSeq3
theorem Xu (p q:Addr) (us vs:Array Value) (m n:Nat) (e e2:Option Addr) (c c2:Array (Option Value)) (res:Bool) :
  Meets (Builtin.«tuple.__lt__» ⟨[.ref p,.ref q],[]⟩) (fun A R st=>st.heap.get? p=some ⟨.type "tuple",e,.seq us m,c⟩∧st.heap.get? q=some ⟨.type "tuple",e2,.seq vs n,c2⟩∧Lex A.in1 st us.toList vs.toList res∧R (.ok (.ret (.bool res))) st) :=
 .of_wp fun prog w A R st h=>by
  obtain ⟨hh,gg,dr,tt,os⟩:=st
  obtain ⟨h1,h2,L,fin⟩:=h
  have sub2:=AutoSeq1.sub_tuple_tuple
  wp_walk using wpAny_loadPart' h1,wpAny_loadPart' h2,wpAny_forIn_list _ (fun rest z st'=>z.1=none∧st'=⟨hh,gg,dr,tt,os⟩∧∃ xs ys:List Value,rest=xs.zip ys∧Lex A.in1 ⟨hh,gg,dr,tt,os⟩ xs ys res∧xs.length+vs.size=ys.length+us.size) _
  case turn =>
   rintro ⟨x0,y0⟩ rest z st' ⟨z0,rfl,xs,ys,hz,L',hlen⟩
   cases L' with
   | nn=>simp at hz
   | nc=>simp at hz
   | cn=>simp at hz
   | @eq x y xs ys r he t =>
    rw [List.zip_cons_cons] at hz
    obtain ⟨hp,hr⟩:=List.cons.inj hz
    obtain ⟨rfl,rfl⟩:=Prod.mk.inj hp
    refine wpAny_bind (he prog w _ _ ?_)
    wp_walk
    refine ⟨rfl,rfl,xs,ys,hr,t,?_⟩
    simp only [List.length_cons] at hlen
    omega
   | @lt x y xs ys r he t =>
    rw [List.zip_cons_cons] at hz
    obtain ⟨hp,hr⟩:=List.cons.inj hz
    obtain ⟨rfl,rfl⟩:=Prod.mk.inj hp
    refine wpAny_bind (he prog w _ _ ?_)
    have less:=t prog w
    wp_walk using less
    exact ⟨_,rfl,by simpa using fin⟩
  case fin =>
   rintro ⟨z1,z2⟩ st' ⟨hz1,rfl,xs,ys,hz,L',hlen⟩
   simp only at hz1
   subst hz1
   have hv:res=decide (us.size < vs.size):=by
    cases L' with
    | nn=>simp at hlen;exact (decide_eq_false (by omega)).symm
    | nc=>simp at hlen;exact (decide_eq_true (by omega)).symm
    | cn=>simp at hlen;exact (decide_eq_false (by omega)).symm
    | eq _ _=>simp at hz
    | lt _ _=>simp at hz
   rw [hv] at fin
   wp_walk
   exact ⟨_,rfl,by simpa [Builtin.Tuple.tupleCompareSizes] using fin⟩
  case h=>exact ⟨rfl,rfl,us.toList,vs.toList,rfl,L,by simp;omega⟩
end
section
variable {prog:Program} {w:World} {A:Around} {E:Value→Shared→Prop} {s:Shared}
theorem AaY {p q:Addr} {us vs:Array Value} {res:Bool} {Q:Value→Shared→Prop} (hp:IsTup s.heap p us) (hq:IsTup s.heap q vs) (L:Lex A.in1 s us.toList vs.toList res) (hu:A.units < cLine) (h:Q (.bool res) s):wpAny (model prog w) A (richCompare .Lt (.ref p) (.ref q)) Q E s:=by
 obtain ⟨⟨c1,e1,a1,b1⟩,g1,k1,m1,t1⟩:=id hp
 obtain ⟨⟨c2,e2,a2,b2⟩,g2,k2,m2,t2⟩:=id hq
 dsimp only at k1 t1 k2 t2
 subst k1 t1 k2 t2
 refine richCompare_meets_room (op:=.Lt) ⟨_,g1,rfl⟩ ⟨_,g2,rfl⟩ PySem.F.slot_tuple_lt PySem.F.entry_tuple_lt (PySem.F.args_tuple_lt_2 _ _) (Xu p q us vs m1 m2 e1 e2 b1 b2 res) ⟨g1,g2,L,?_⟩ hu
 exact show Value.bool res≠Value.notImplemented∧Q (.bool res) s from ⟨(fun z=>nomatch z),h⟩
end
end L2
namespace L2
open PySem PySem.Spec PyProof.Rows PySem.SeqAt
theorem Mi:∀ ns:List Int,HT.lexLt ns ns=false
 | []=>HT.Gy
 | n :: ns=>by rw [HT.Fl,if_pos rfl,Mi ns]
noncomputable def Ga (a b:List Int × List Int):Bool:=if a.1=b.1 then HT.lexLt a.2 b.2 else HT.lexLt a.1 b.1
noncomputable abbrev Mv (a:List Int × List Int):Dt:=.tup [Dn a.1,Dn a.2]
section
variable {X:Cx}
noncomputable def Pu (K:PySem.W.Frag) (H:Hp) (v:V) (a:List Int × List Int):Prop:=∃ p p1 p2,v=.ref p∧SqT K H p [.ref p1,.ref p2]∧SqT K H p1 (a.1.map V.int)∧SqT K H p2 (a.2.map V.int)
noncomputable def Ae7 (K:PySem.W.Frag):List V→Hp→VK→Prop:=fun xs H Q=>∃ l vs,∃ ps:Nat→List Int × List Int,xs=[.ref l]∧SqL K H l vs∧0 < vs.length∧(∀ (i:Nat) (v:V),vs[i]? = some v→Pu K H v (ps i)) ∧
 ∀ v,vs[argBest (fun i j=>Ga (ps i) (ps j)) (vs.length - 1)]? = some v→Q v H
theorem Abf {x y:Addr} {us:List Value} (r:Vals [V.ref x,V.ref y] us):us=[.ref x,.ref y]:=by
 obtain ⟨a,b,rfl,r1,r2⟩:=vals2 r
 cases (show a=.ref x from r1)
 cases (show b=.ref y from r2)
 rfl
theorem Pj {h:Heap}:∀ {us:List Value} {ns:List Int},IntsAre us ns→∃ as,ReadsAll h us (Dt.pys (ns.map Dt.int)) as
 | _,_,.nil=>⟨_,by rw [List.map_nil,Dt.pys];exact .nil⟩
 | _,_,.cons n t r=>by
  obtain ⟨as,q⟩:=Pj (h:=h) r
  exact ⟨_,by rw [List.map_cons,Dt.pys,Dt.py];exact .cons (.int n t) q⟩
theorem RG {h:Heap} {a:Addr} {its:Array Value} {ns:List Int} (t:IsTup h a its) (i:IntsAre its.toList ns):∃ as,Reads h (.ref a) (Dn ns).py as:=by
 obtain ⟨o,h1,h2,n,h3⟩:=t
 obtain ⟨as,r⟩:=Pj (h:=h) i
 exact ⟨_,by rw [Dt.py];exact .tuple h1 h2 h3 r⟩
theorem UJ {A:Around} {s:Shared} {a b:Addr} {i1 i2:Array Value} {ns ms:List Int} (t1:IsTup s.heap a i1) (t2:IsTup s.heap b i2) (n1:IntsAre i1.toList ns) (n2:IntsAre i2.toList ms) (hu:A.units+8 < cLine):EqAt A s (.ref a) (.ref b) (decide (ns=ms)):=by
 have fl:∀ ns:List Int,(Dn ns).flat 8=true:=fun ns=>OD ns
 obtain ⟨ca,da⟩:=Ge _ 8 (fl ns)
 obtain ⟨cb,db⟩:=Ge _ 8 (fl ms)
 obtain ⟨as,q1⟩:=RG t1 n1
 obtain ⟨bs,q2⟩:=RG t2 n2
 have h:=SeqAt.eqAt_reads _ _ A s _ _ as bs q1 q2 ca cb (by omega)
 rw [Qk _ _ ca cb] at h
 have ee:(Dn ns).eq (Dn ms)=decide (ns=ms):=by
  show Dt.eq (.tup _) (.tup _)=_
  rw [Afm,Ul]
 rw [ee] at h
 exact h
theorem Zk (hc:X.calm=true) (hu:X.A.in1.units+16 < cLine):Kw X (.builtin "min") (Ae7 X.K):=by
 intro pins s σ H xs us Q I r h
 obtain ⟨l,vs,ps,rfl,hl,ne,each,q⟩:=h
 obtain ⟨u,rfl,r1⟩:=vals1 r
 cases r1
 obtain ⟨its,rv,pl,_⟩:=I.list hl
 have hlen:its.length=vs.length:=rv.length.symm
 have ll:l < s.heap.objs.size:=by
  obtain ⟨_,e,_⟩:=pl.isList
  exact Heap.lt_size e
 refine N6 (wpAny_pyIter_list pl.isList ?_)
 refine ⟨s.heap.objs.size,[s.heap.objs.size,l],[s.heap.objs.size],its.toArray.size,fun i v=>its.toArray[i]? = some v,_,fun i j=>Ga (ps i) (ps j),rfl,Walks.list (A:=X.A.in1) (I.ok.hd hc) _ l (Nat.ne_of_lt ll) its.toArray,⟨⟨_,Heap.get?_push_size _ rfl,rfl,rfl⟩,pl.isList.push _⟩,fun b hb=>?_,?_,?_,?_⟩
 ·show b < (s.heap.push _).objs.size
  rw [Heap.size_push]
  have hb:b=s.heap.objs.size∨b=l:=by simpa using hb
  rcases hb with e | e
  ·rw [e];exact Nat.lt_succ_self _
  ·rw [e];exact Nat.lt_succ_of_lt ll
 ·rw [List.size_toArray];omega
 ·intro h1 k1 i j x y s' Q' E' kept hx hy q'
  have go:∀ a o,s.heap.get? a=some o→s'.heap.get? a=some o:=fun a o eo=>by
   have la:=Heap.lt_size eo
   refine kept a o (fun z=>?_) (fun z=>?_) (k1 a o (Heap.get?_push_of_some _ eo))
   ·have e2:a=s.heap.objs.size:=by simpa using z
    exact Nat.lt_irrefl _ (e2 ▸ la)
   ·have e2:a=(s.heap.push _).objs.size:=z
    rw [Heap.size_push] at e2
    exact Nat.lt_irrefl _ (Nat.lt_of_succ_lt (e2 ▸ la))
  have tup:∀ {a:Addr} {xs:List V},SqT X.K H a xs→∃ us:List Value,Vals xs us∧IsTup s'.heap a us.toArray:=fun {a xs} ht=>by
   obtain ⟨us,r3,⟨o,eo,rest⟩,_⟩:=I.tuple ht
   exact ⟨us,r3,o,go a o eo,rest⟩
  have fact:∀ (i:Nat) (x:Value),its.toArray[i]? = some x→∃ p p1 p2 i1 i2,x=.ref p∧IsTup s'.heap p [Value.ref p1,.ref p2].toArray∧IsTup s'.heap p1 i1∧IsTup s'.heap p2 i2∧IntsAre i1.toList (ps i).1∧IntsAre i2.toList (ps i).2:=fun i x hx=>by
   obtain ⟨v,e1,r2⟩:=Vals.at rv i x (by simpa using hx)
   obtain ⟨p,p1,p2,rfl,t0,t1,t2⟩:=each i v e1
   cases r2
   obtain ⟨us,r0,u0⟩:=tup t0
   obtain ⟨u1,r1,w1⟩:=tup t1
   obtain ⟨u2,r2,w2⟩:=tup t2
   rw [Abf r0] at u0
   exact ⟨p,p1,p2,u1.toArray,u2.toArray,rfl,u0,w1,w2,intsAre_of r1,intsAre_of r2⟩
  obtain ⟨p,p1,p2,i1,i2,rfl,a0,a1,a2,n1,n2⟩:=fact i x hx
  obtain ⟨b,b1,b2,j1,j2,rfl,c0,c1,c2,m1,m2⟩:=fact j y hy
  have in2:X.A.in1.in1.units=X.A.in1.units+1:=rfl
  refine AaY a0 c0 ?_ (by omega) q'
  show Lex X.A.in1.in1 s' [.ref p1,.ref p2] [.ref b1,.ref b2] _
  have e1:=UJ (A:=X.A.in1.in1) a1 c1 n1 m1 (by omega)
  have e2:=UJ (A:=X.A.in1.in1) a2 c2 n2 m2 (by omega)
  show Lex X.A.in1.in1 s' [.ref p1,.ref p2] [.ref b1,.ref b2] (if (ps i).1=(ps j).1 then HT.lexLt (ps i).2 (ps j).2 else HT.lexLt (ps i).1 (ps j).1)
  by_cases h1:(ps i).1=(ps j).1
  ·rw [if_pos h1]
   rw [decide_eq_true h1] at e1
   refine .eq e1 ?_
   by_cases h2:(ps i).2=(ps j).2
   ·rw [decide_eq_true h2] at e2
    rw [h2]
    have:HT.lexLt (ps j).2 (ps j).2=false:=Mi _
    rw [this]
    exact .eq e2 .nn
   ·rw [decide_eq_false h2] at e2
    exact .lt e2 fun prog w E Q h=>HT.KN a2 c2 n2 m2 (by omega) h
  ·rw [if_neg h1]
   rw [decide_eq_false h1] at e1
   exact .lt e1 fun prog w E Q h=>HT.KN a1 c1 n1 m1 (by omega) h
 ·intro v h' tk hv k
  obtain ⟨x,e1,r2⟩:=Vals.at rv _ v (by simpa using hv)
  rw [hlen] at e1
  refine ⟨x,H,I.kept fun b o e=>k b o (fun z=>?_) (Heap.get?_push_of_some _ e),r2,q x e1⟩
  have e2:b=s.heap.objs.size:=by simpa using z
  have e3:=Heap.lt_size e
  exact Nat.lt_irrefl _ (e2 ▸ e3)
noncomputable def La (ps:List (List Int × List Int)):Nat:=argBest (fun i j=>Ga (ps.getD i ([],[])) (ps.getD j ([],[]))) (ps.length - 1)
noncomputable def AeL:DL:=fun ds Q=>∃ ps:List (List Int × List Int),ds=[.lst (ps.map Mv)]∧0 < ps.length∧La ps < ps.length∧Q (Mv (ps.getD (La ps) ([],[])))
theorem ints_of {K:PySem.W.Frag} {M:Hp} {ns:List Int} {xs:List V} (r:RpL K M (ns.map Dt.int) xs):xs=ns.map V.int:=by
 induction ns generalizing xs with
 | nil=>exact BP.mp r
 | cons n ns ih =>
  obtain ⟨v,w,rfl,r1,r2⟩:=Ay.mp r
  rw [Bc.mp r1,ih r2]
  rfl
theorem Adi {K:PySem.W.Frag} {M:Hp} {a:List Int × List Int} {v:V} (r:Rp K M (Mv a) v):Pu K M v a:=by
 obtain ⟨p,xs,rfl,h1,h2⟩:=CP.mp r
 obtain ⟨v1,w1,rfl,r1,h2⟩:=Ay.mp h2
 obtain ⟨v2,w2,rfl,r2,h2⟩:=Ay.mp h2
 obtain rfl:=BP.mp h2
 obtain ⟨p1,x1,rfl,g1,k1⟩:=CP.mp r1
 obtain ⟨p2,x2,rfl,g2,k2⟩:=CP.mp r2
 rw [ints_of k1] at g1
 rw [ints_of k2] at g2
 exact ⟨p,p1,p2,rfl,h1,g1,g2⟩
theorem Pu.mono {K:PySem.W.Frag} {M M':Hp} {a:List Int × List Int} {v:V} (s:Same M M') (h:Pu K M v a):Pu K M' v a:=by
 obtain ⟨p,p1,p2,e,h1,h2,h3⟩:=h
 exact ⟨p,p1,p2,e,s.seqT h1,s.seqT h2,s.seqT h3⟩
theorem AaP {K:PySem.W.Frag}:Xb K (Ae7 K) AeL where
 mono:=fun hq ⟨ps,e,n0,lt,h⟩=>⟨ps,e,n0,lt,hq _ h⟩
 ok:=fun O H ds xs Q _ r ⟨ps,e,n0,lt,h⟩=>by
  subst e
  obtain ⟨x,r',rfl,r2,r3⟩:=Ay.mp r
  obtain rfl:=BP.mp r3
  obtain ⟨l,vs,rfl,hs,hl⟩:=FP r2
  have len:vs.length=ps.length:=by rw [hl.len,List.length_map]
  have at':∀ (i:Nat) (v:V),vs[i]? = some v→Rp K (mask O H) (Mv (ps.getD i ([],[]))) v:=fun i v e=>by
   obtain ⟨d,e1,e2⟩:=hl.get' e
   rw [List.getElem?_map] at e1
   cases w:ps[i]? with
   | none=>rw [w] at e1;cases e1
   | some a =>
    rw [w] at e1
    cases e1
    rw [List.getD_eq_getElem?_getD,w]
    exact e2
  refine ⟨l,vs,fun i=>ps.getD i ([],[]),rfl,Bf.seq hs,by omega,fun i v e=>(Adi (at' i v e)).mono Bf,fun v e=>?_⟩
  rw [len] at e
  exact h v H (Same.refl H) (at' _ v e)
theorem Ac0 {a:Expr} {tl:DTA} {p pos:Pos} (hm:X.mg "min"=none) (hu:X.A.in1.units+16 < cLine) (ha:DA X [a] tl) (hc:X.calm=true:=by rfl) (hg:Gl X "min":=by rfl) (hv:bootBuiltins "min"=some (.builtin "min"):=by rfl) (he:starEach [a] X.env=(false,eval a X.env) :: starEach [] X.env:=by rfl)
  (hpl:(backTo pos (starEach [] X.env)).any (·.1)=false:=by rfl):DE X (.Call (.Name "min" p) [a] [] pos) (dCB AeL tl):=V2 (Zk hc hu) AaP hg hm hv ha (he:=he) (hpl:=hpl)
theorem AgG {A:Around} (h:A.units+64 < cLine):A.in1.units+16 < cLine:=by show A.units+1+16 < cLine;omega
end
end L2
namespace L2
open PySem PySem.Spec PyProof.Rows PySem.SeqAt
section
variable {P:Program} {w:World} {A:Around} {E:Value→Shared→Prop} {s:Shared}
theorem Ol {j t:Addr} {n:Nat} {its:Array Value} {v:Value} {Q:Value→Shared→Prop} (hj:s.heap.IsTupleIter j t n) (ht:s.heap.IsTuple t its) (hv:its[n]? = some v)
  (q:∀ g,g.IsTupleIter j t (n+1)→Heap.SameBut j s.heap g→Q v { s with heap:=g }):wpAny (model P w) A (Builtin.SmallTypes.nextOf (.ref j)) Q E s:=by
 obtain ⟨oj,gj,cj,dj⟩:=id hj
 obtain ⟨ot,gt,_,nt,dt⟩:=ht
 unfold Builtin.SmallTypes.nextOf
 refine wpAny_bind (wpAny_callSpecial?_slot (name:=Str.ofString "__next__") hj.typeIs F.slot_tuple_iterator_next (wpAny_call_entry F.slot_tuple_iterator_next hj.typeIs F.entry_tuple_iterator_next ?_ (F.args_tuple_iterator_next_1 _)))
 show wpAny _ _ (field (.ref j) 0 >>= _) _ _ s
 refine wpAny_bind (wpAny_field gj dj (x:=.ref t) rfl ?_)
 show wpAny _ _ (if (Value.ref t == Value.none)=true then _ else _) _ _ _
 rw [if_neg (show ¬ (Value.ref t == Value.none)=true from Bool.false_ne_true)]
 show wpAny _ _ (field (.ref j) 1 >>= _) _ _ s
 refine wpAny_bind (wpAny_field gj dj (x:=.int n 0) rfl ?_)
 show wpAny _ _ (seqItems? (.ref t) >>= _) _ _ _
 refine wpAny_bind (wpAny_seqItems gt dt ?_)
 simp only [Int.toNat_natCast,hv]
 exact wpAny_bind (wpAny_setField gj dj (by simp) (wpAny_pure ⟨v,rfl,wpAny_pure (q _ ⟨_,Heap.get?_update_self _ gj (Obj.isFreed_of_fields (Obj.data_mapFields dj _)),(Obj.cls_mapFields ..).trans cj,by rw [Obj.data_mapFields dj];simp [rawInt]⟩ (Heap.SameBut.update ..))⟩))
theorem Aaw {j t:Addr} {n:Nat} {its:Array Value} {Q:Value→Shared→Prop} (hh:A.handled=none) (hj:s.heap.IsTupleIter j t n) (ht:s.heap.IsTuple t its) (hv:its[n]? = none)
  (q:∀ g e,Heap.ExtBut j s.heap g→(∃ o,g.get? e=some o∧o.cls=.type "StopIteration")→E (.ref e) { s with heap:=g }):wpAny (model P w) A (Builtin.SmallTypes.nextOf (.ref j)) Q E s:=by
 obtain ⟨oj,gj,cj,dj⟩:=id hj
 obtain ⟨ot,gt,_,nt,dt⟩:=ht
 unfold Builtin.SmallTypes.nextOf
 refine wpAny_bind (wpAny_callSpecial?_slot (name:=Str.ofString "__next__") hj.typeIs F.slot_tuple_iterator_next (wpAny_call_entry F.slot_tuple_iterator_next hj.typeIs F.entry_tuple_iterator_next ?_ (F.args_tuple_iterator_next_1 _)))
 show wpAny _ _ (field (.ref j) 0 >>= _) _ _ s
 refine wpAny_bind (wpAny_field gj dj (x:=.ref t) rfl ?_)
 show wpAny _ _ (if (Value.ref t == Value.none)=true then _ else _) _ _ _
 rw [if_neg (show ¬ (Value.ref t == Value.none)=true from Bool.false_ne_true)]
 show wpAny _ _ (field (.ref j) 1 >>= _) _ _ s
 refine wpAny_bind (wpAny_field gj dj (x:=.int n 0) rfl ?_)
 show wpAny _ _ (seqItems? (.ref t) >>= _) _ _ _
 refine wpAny_bind (wpAny_seqItems gt dt ?_)
 simp only [Int.toNat_natCast,hv]
 refine wpAny_bind (wpAny_rule (wpAny_bind (wpAny_setField gj dj (by simp) ?_)))
 show wpAny _ _ (newExc (.type "StopIteration") [] >>= _) _ _ _;refine wpAny_bind ?_
 simp only [newExc,newTuple];refine wpAny_bind (wpAny_newObj_type ?_ (by size_fits))
 refine wpAny_bind (m:=firstArgMember _ _) (wpAny_of_eq (a:=Value.none) (by first | (simp only [firstArgMember];rfl) | rfl) ?_);refine wpAny_newObj_type ?_ (by size_fits)
 simp only [raiseNew];refine wpAny_bind (wpAny_handled ?_)
 first | rw [hh] | rw [show A.in1.handled=none from hh]
 exact wpAny_bind (wpAny_pure (wpAny_throw (q _ _ (((Heap.SameBut.update ..).extBut.push _).push _) ⟨_,Heap.get?_push_size _ rfl,rfl⟩)))
noncomputable def Iu (h:Heap) (z p o:Addr) (u v:Value):Prop:=h.get? z=some { cls:=.type "zip",dict:=none,data:=.fields #[u,v,.bool false,.ref p,.ref o],slots:=#[] }
noncomputable def Ahb (u:Value):Prop:=u=.none∨∃ k t,u=.int k t
structure OJ (z p o i j a b:Addr):Prop where
 pz:p≠z
 oz:o≠z
 iz:i≠z
 jz:j≠z
 po:p≠o
 pi:p≠i
 pj:p≠j
 oi:o≠i
 oj:o≠j
 ij:i≠j
 az:a≠z
 ao:a≠o
 ai:a≠i
 aj:a≠j
 bz:b≠z
 bo:b≠o
 bi:b≠i
 bj:b≠j
structure Kv (h:Heap) (z p o i j a b:Addr) (k:Nat) (xs ys:Array Value):Prop where
 zip:∃ u v,Iu h z p o u v∧Ahb u
 its:IsPair h p (.ref i) (.ref j)
 row:∃ x y,IsPair h o x y
 i1:h.IsTupleIter i a k
 i2:h.IsTupleIter j b k
 t1:h.IsTuple a xs
 t2:h.IsTuple b ys
theorem Wc {M:Model} {a:Addr} {Q:Option Obj→Shared→Prop} (h:Q (s.heap.get? a) s):wpAny M A (loadIfAlive a) Q E s:=fun Γ p _=>by
 show Sem.wp M Γ (.loadIfAlive a _) _ _ p s
 rw [Sem.wp_loadIfAlive]
 exact (Sem.wp_pure ..).mpr h
theorem Ym {z p o:Addr} {u v:Value} (hz:Iu s.heap z p o u v) (hu:Ahb u):wpAny (model P w) A (Builtin.SmallTypes.ownedTupleIsFree (.ref z)) (fun _ s'=>∃ g v',s' = { s with heap:=g }∧Iu g z p o u v'∧Heap.SameBut z s.heap g) E s:=by
 unfold Builtin.SmallTypes.ownedTupleIsFree
 refine wpAny_bind (wpAny_field hz rfl (x:=u) rfl ?_)
 rcases hu with rfl | ⟨n,tk,rfl⟩
 ·exact wpAny_pure ⟨s.heap,v,rfl,hz,rfl,fun _ _=>rfl⟩
 ·show wpAny _ _ (loadIfAlive n.toNat >>= _) _ _ _
  refine wpAny_bind (Wc ?_)
  cases hg:s.heap.get? n.toNat with
  | none=>exact wpAny_pure ⟨s.heap,v,rfl,hz,rfl,fun _ _=>rfl⟩
  | some _ =>
   show wpAny _ _ (field (.ref z) 1 >>= _) _ _ _
   refine wpAny_bind (wpAny_field hz rfl (x:=v) rfl ?_)
   by_cases hv:(v != Value.bool true)=true
   ·dsimp only
    rw [if_pos hv]
    exact wpAny_bind (wpAny_setField_rec hz (by simp) fun g z1 s1=>wpAny_pure ⟨g,.bool true,rfl,z1,s1⟩)
   ·dsimp only
    rw [if_neg hv]
    exact wpAny_pure ⟨s.heap,v,rfl,hz,rfl,fun _ _=>rfl⟩
theorem Abp {z p o i j a b:Addr} {k:Nat} {xs ys:Array Value} {x y:Value} {Q:Value→Shared→Prop} (D:OJ z p o i j a b) (Z:Kv s.heap z p o i j a b k xs ys) (hx:xs[k]? = some x) (hy:ys[k]? = some y)
  (q:∀ g T,Kv g z p o i j a b (k+1) xs ys→IsPair g T x y→s.heap.objs.size≤T→(∀ c m,c≠z→c≠o→c≠i→c≠j→s.heap.get? c=some m→g.get? c=some m)→Q (.ref T) { s with heap:=g }) :
  wpAny (model P w) A (Builtin.«zip.__next__» ⟨[.ref z],[]⟩) (fun fin s'=>∃ v,fin=.done (.ret v)∧Q v s') E s:=by
 obtain ⟨⟨u,v,hz,hu⟩,hp,⟨x0,y0,ho⟩,h1,h2,l1,l2⟩:=Z
 show wpAny _ _ (field (.ref z) 2 >>= _) _ _ _
 refine wpAny_bind (wpAny_field hz rfl (x:=.bool false) rfl ?_)
 show wpAny _ _ (field (.ref z) 3 >>= _) _ _ _
 refine wpAny_bind (wpAny_field hz rfl (x:=.ref p) rfl (wpAny_bind (wpAny_seqItems hp rfl ?_)))
 show wpAny _ _ (Builtin.SmallTypes.ownedTupleIsFree (.ref z) >>= _) _ _ _
 refine wpAny_bind (wpAny_mono (Ym hz hu) (fun r s' ⟨g,v',e,hz',sb⟩=>?_) fun _ _ z=>z)
 subst e
 cases r with
 | true =>
  simp only [if_true]
  refine wpAny_bind (wpAny_rule (wpAny_bind (wpAny_field hz' rfl (x:=.ref o) rfl ?_)))
  refine wpAny_bind (wpAny_setField_rec hz' (by simp) fun g1 z1 s1=>?_)
  replace z1:Iu g1 z p o .ellipsis v':=z1
  refine wpAny_bind ?_
  simp only [List.zipIdx_cons,List.zipIdx_nil,List.forIn_cons,List.forIn_nil]
  have b1:∀ c m,c≠z→s.heap.get? c=some m→g1.get? c=some m:=fun c m n e=>s1.extBut _ _ n (sb.extBut _ _ n e)
  refine wpAny_bind (wpAny_bind (wpAny_onRaise ?_))
  show wpAny _ _ (Builtin.SmallTypes.nextOf (.ref i) >>= _) _ _ _
  refine wpAny_bind (Ol (s:={ s with heap:=g1 }) (h1.at fun m e=>b1 _ m D.iz e) (l1.at fun m e=>b1 _ m D.az e) hx fun g2 i2 s2=>wpAny_pure ?_)
  have o2:IsPair g2 o x0 y0:=s2.extBut _ _ D.oi (b1 _ _ D.oz ho)
  refine wpAny_bind (wpAny_seqItems o2 rfl (wpAny_bind (wpAny_updateSeq_pair o2 fun g3 o3 s3=>wpAny_bind (wpAny_letGo (wpAny_pure ?_)))))
  replace o3:IsPair g3 o x y0:=o3
  have b3:∀ c m,c≠z→c≠i→c≠o→s.heap.get? c=some m→g3.get? c=some m:=fun c m n1 n2 n3 e=>s3.extBut _ _ n3 (s2.extBut _ _ n2 (b1 _ _ n1 e))
  refine wpAny_bind (wpAny_bind (wpAny_onRaise ?_))
  show wpAny _ _ (Builtin.SmallTypes.nextOf (.ref j) >>= _) _ _ _
  refine wpAny_bind (Ol (s:={ s with heap:=g3 }) (h2.at fun m e=>b3 _ m D.jz D.ij.symm D.oj.symm e) (l2.at fun m e=>b3 _ m D.bz D.bi D.bo e) hy fun g4 j4 s4=>wpAny_pure ?_)
  have o4:IsPair g4 o x y0:=s4.extBut _ _ D.oj o3
  refine wpAny_bind (wpAny_seqItems o4 rfl (wpAny_bind (wpAny_updateSeq_pair o4 fun g5 o5 s5=>wpAny_bind (wpAny_letGo (wpAny_pure (wpAny_pure ?_))))))
  replace o5:IsPair g5 o x y:=o5
  have b5:∀ c m,c≠z→c≠o→c≠i→c≠j→s.heap.get? c=some m→g5.get? c=some m:=fun c m n1 n2 n3 n4 e=>s5.extBut _ _ n2 (s4.extBut _ _ n4 (b3 _ _ n1 n3 n2 e))
  have z5:Iu g5 z p o .ellipsis v':=s5.extBut _ _ D.oz.symm (s4.extBut _ _ D.jz.symm (s3.extBut _ _ D.oz.symm (s2.extBut _ _ D.iz.symm z1)))
  have i5:g5.IsTupleIter i a (k+1):=i2.at fun m e=>s5.extBut _ _ D.oi.symm (s4.extBut _ _ D.ij (s3.extBut _ _ D.oi.symm e))
  have j5:g5.IsTupleIter j b (k+1):=j4.at fun m e=>s5.extBut _ _ D.oj.symm e
  have sz:g5.objs.size=s.heap.objs.size:=by rw [s5.1,s4.1,s3.1,s2.1,s1.1,sb.1]
  refine wpAny_bind (wpAny_seqItems o5 rfl (wpAny_bind (wpAny_newTuple ?_)))
  show wpAny _ _ (Builtin.SmallTypes.ownedTupleHandOut (.ref z) (.ref g5.objs.size) >>= _) _ _ _
  refine wpAny_bind ?_
  unfold Builtin.SmallTypes.ownedTupleHandOut
  have z6:Iu (g5.push { cls:=.type "tuple",data:=.seq #[x,y] }) z p o .ellipsis v':=Heap.get?_push_of_some _ z5
  refine wpAny_bind (wpAny_setField_rec z6 (by simp) fun g7 z7 s7=>?_)
  replace z7:Iu g7 z p o (rawInt g5.objs.size) v':=z7
  refine wpAny_setField_rec z7 (by simp) fun g8 z8 s8=>wpAny_pure ⟨_,rfl,?_⟩
  replace z8:Iu g8 z p o (rawInt g5.objs.size) (.bool false):=z8
  have b8:∀ c m,c≠z→g5.get? c=some m→g8.get? c=some m:=fun c m n e=>s8.extBut _ _ n (s7.extBut _ _ n (Heap.get?_push_of_some _ e))
  have lz:z < g5.objs.size:=Heap.lt_size z5
  refine q g8 g5.objs.size ⟨⟨_,_,z8,.inr ⟨_,_,rfl⟩⟩,b8 _ _ D.pz (b5 _ _ D.pz D.po D.pi D.pj hp),⟨x,y,b8 _ _ D.oz o5⟩,i5.at fun m e=>b8 _ m D.iz e,j5.at fun m e=>b8 _ m D.jz e,l1.at fun m e=>b8 _ m D.az (b5 _ m D.az D.ao D.ai D.aj e),l2.at fun m e=>b8 _ m D.bz (b5 _ m D.bz D.bo D.bi D.bj e)⟩ ?_ (by rw [sz];exact Nat.le_refl _) fun c m n1 n2 n3 n4 e=>b8 c m n1 (b5 c m n1 n2 n3 n4 e)
  exact s8.extBut _ _ (Nat.ne_of_gt lz) (s7.extBut _ _ (Nat.ne_of_gt lz) (Heap.get?_push_size _ rfl))
 | false =>
  simp only [Bool.false_eq_true,if_false]
  rw [←Array.forIn_toList]
  simp only [List.forIn_cons,List.forIn_nil]
  have b0:∀ c m,c≠z→s.heap.get? c=some m→g.get? c=some m:=fun c m n e=>sb.extBut _ _ n e
  refine wpAny_bind (wpAny_bind (wpAny_bind (wpAny_holding ?_)))
  show wpAny _ _ (Builtin.SmallTypes.nextOf (.ref i) >>= _) _ _ _
  refine wpAny_bind (Ol (s:={ s with heap:=g }) (h1.at fun m e=>b0 _ m D.iz e) (l1.at fun m e=>b0 _ m D.az e) hx fun g2 i2 s2=>wpAny_pure (wpAny_pure ?_))
  have b2:∀ c m,c≠z→c≠i→s.heap.get? c=some m→g2.get? c=some m:=fun c m n1 n2 e=>s2.extBut _ _ n2 (b0 _ _ n1 e)
  refine wpAny_bind (wpAny_bind (wpAny_holding ?_))
  show wpAny _ _ (Builtin.SmallTypes.nextOf (.ref j) >>= _) _ _ _
  refine wpAny_bind (Ol (s:={ s with heap:=g2 }) (h2.at fun m e=>b2 _ m D.jz D.ij.symm e) (l2.at fun m e=>b2 _ m D.bz D.bi e) hy fun g4 j4 s4=>wpAny_pure (wpAny_pure (wpAny_pure ?_)))
  have b4:∀ c m,c≠z→c≠i→c≠j→s.heap.get? c=some m→g4.get? c=some m:=fun c m n1 n2 n3 e=>s4.extBut _ _ n3 (b2 _ _ n1 n2 e)
  have z4:Iu g4 z p o u v':=s4.extBut _ _ D.jz.symm (s2.extBut _ _ D.iz.symm hz')
  have i4:g4.IsTupleIter i a (k+1):=i2.at fun m e=>s4.extBut _ _ D.ij e
  have sz:g4.objs.size=s.heap.objs.size:=by rw [s4.1,s2.1,sb.1]
  have up:∀ {c m},g4.get? c=some m→(g4.push { cls:=.type "tuple",data:=.seq #[x,y] }).get? c=some m:=fun e=>Heap.get?_push_of_some _ e
  refine wpAny_bind (wpAny_newTuple (wpAny_pure ⟨_,rfl,?_⟩) (show 2≤sizeLine by decide))
  exact q _ g4.objs.size ⟨⟨_,_,up z4,hu⟩,up (b4 _ _ D.pz D.pi D.pj hp),⟨x0,y0,up (b4 _ _ D.oz D.oi D.oj ho)⟩,i4.at fun m e=>up e,j4.at fun m e=>up e,l1.at fun m e=>up (b4 _ m D.az D.ai D.aj e),l2.at fun m e=>up (b4 _ m D.bz D.bi D.bj e)⟩ (Heap.get?_push_size _ rfl) (by rw [sz];exact Nat.le_refl _) fun c m n1 n2 n3 n4 e=>up (b4 c m n1 n3 n4 e)
theorem AdM {z p o i j a b:Addr} {k:Nat} {xs ys:Array Value} {Q:Fin→Shared→Prop} (hh:A.handled=none) (D:OJ z p o i j a b) (Z:Kv s.heap z p o i j a b k xs ys) (hx:xs[k]? = none)
  (q:∀ g e,(∀ c m,c≠z→c≠o→c≠i→c≠j→s.heap.get? c=some m→g.get? c=some m)→(∃ m,g.get? e=some m∧m.cls=.type "StopIteration")→E (.ref e) { s with heap:=g }) :
  wpAny (model P w) A (Builtin.«zip.__next__» ⟨[.ref z],[]⟩) Q E s:=by
 obtain ⟨⟨u,v,hz,hu⟩,hp,⟨x0,y0,ho⟩,h1,h2,l1,l2⟩:=Z
 show wpAny _ _ (field (.ref z) 2 >>= _) _ _ _
 refine wpAny_bind (wpAny_field hz rfl (x:=.bool false) rfl ?_)
 show wpAny _ _ (field (.ref z) 3 >>= _) _ _ _
 refine wpAny_bind (wpAny_field hz rfl (x:=.ref p) rfl (wpAny_bind (wpAny_seqItems hp rfl ?_)))
 show wpAny _ _ (Builtin.SmallTypes.ownedTupleIsFree (.ref z) >>= _) _ _ _
 refine wpAny_bind (wpAny_mono (Ym hz hu) (fun r s' ⟨g,v',e,hz',sb⟩=>?_) fun _ _ z=>z)
 subst e
 cases r with
 | true =>
  simp only [if_true]
  refine wpAny_bind (wpAny_rule (wpAny_bind (wpAny_field hz' rfl (x:=.ref o) rfl ?_)))
  refine wpAny_bind (wpAny_setField_rec hz' (by simp) fun g1 z1 s1=>?_)
  replace z1:Iu g1 z p o .ellipsis v':=z1
  refine wpAny_bind ?_
  simp only [List.zipIdx_cons,List.zipIdx_nil,List.forIn_cons,List.forIn_nil]
  have b1:∀ c m,c≠z→s.heap.get? c=some m→g1.get? c=some m:=fun c m n e=>s1.extBut _ _ n (sb.extBut _ _ n e)
  refine wpAny_bind (wpAny_bind (wpAny_onRaise ?_))
  show wpAny _ _ (Builtin.SmallTypes.nextOf (.ref i) >>= _) _ _ _
  refine wpAny_bind (Aaw (s:={ s with heap:=g1 }) hh (h1.at fun m e=>b1 _ m D.iz e) (l1.at fun m e=>b1 _ m D.az e) hx fun g2 e s2 ⟨m,he,hc⟩=>?_)
  have z2:Iu g2 z p o .ellipsis v':=s2 _ _ D.iz.symm z1
  have ne:e≠z:=fun x=>by subst x;rw [z2] at he;cases he;simp at hc
  exact wpAny_setField_rec z2 (by simp) fun g3 _ s3=>q g3 e (fun c m n1 _ n3 _ e=>s3.extBut _ _ n1 (s2 _ _ n3 (b1 _ _ n1 e))) ⟨m,s3.extBut _ _ ne he,hc⟩
 | false =>
  simp only [Bool.false_eq_true,if_false]
  rw [←Array.forIn_toList]
  simp only [List.forIn_cons,List.forIn_nil]
  refine wpAny_bind (wpAny_bind (wpAny_bind (wpAny_holding ?_)))
  show wpAny _ _ (Builtin.SmallTypes.nextOf (.ref i) >>= _) _ _ _
  exact wpAny_bind (Aaw (s:={ s with heap:=g }) hh (h1.at fun m e=>sb.extBut _ m D.iz e) (l1.at fun m e=>sb.extBut _ m D.az e) hx fun g2 e s2 he=>q g2 e (fun c m n1 _ n3 _ e=>s2 _ _ n3 (sb.extBut _ _ n1 e)) he)
theorem AbY {z p o i j a b:Addr} {k:Nat} {xs ys:Array Value} {x y:Value} {Q:Option Value→Shared→Prop} (D:OJ z p o i j a b) (Z:Kv s.heap z p o i j a b k xs ys) (hx:xs[k]? = some x) (hy:ys[k]? = some y)
  (q:∀ g T,Kv g z p o i j a b (k+1) xs ys→IsPair g T x y→s.heap.objs.size≤T→(∀ c m,c≠z→c≠o→c≠i→c≠j→s.heap.get? c=some m→g.get? c=some m)→Q (some (.ref T)) { s with heap:=g }) :
  wpAny (model P w) A (pyNext (.ref z)) Q E s:=by
 obtain ⟨u,v,hz,_⟩:=Z.zip
 have ty:s.TypeIs (.ref z) "zip":=⟨_,hz,rfl⟩
 unfold pyNext
 exact wpAny_bind (wpAny_attempt (wpAny_callSpecial?_slot (name:=Str.ofString "__next__") ty F.slot_zip_next (wpAny_call_entry F.slot_zip_next ty F.entry_zip_next (Abp D Z hx hy fun g T e1 e2 e3 e4=>wpAny_pure (q g T e1 e2 e3 e4)) (F.args_zip_next_1 _))))
theorem Aal {z p o i j a b:Addr} {k:Nat} {xs ys:Array Value} {Q:Option Value→Shared→Prop} (hh:A.handled=none) (D:OJ z p o i j a b) (Z:Kv s.heap z p o i j a b k xs ys) (hx:xs[k]? = none)
  (q:∀ g,(∀ c m,c≠z→c≠o→c≠i→c≠j→s.heap.get? c=some m→g.get? c=some m)→Q none { s with heap:=g }):wpAny (model P w) A (pyNext (.ref z)) Q E s:=by
 obtain ⟨u,v,hz,_⟩:=Z.zip
 have ty:s.TypeIs (.ref z) "zip":=⟨_,hz,rfl⟩
 unfold pyNext
 refine wpAny_bind (wpAny_attempt (wpAny_callSpecial?_slot (name:=Str.ofString "__next__") ty F.slot_zip_next (wpAny_call_entry F.slot_zip_next ty F.entry_zip_next (AdM hh D Z hx fun g e hk ⟨m,he,hc⟩=>?_) (F.args_zip_next_1 _))))
 exact wpAny_bind (wpAny_isInstance (T:="StopIteration") (b:=true) ⟨m,he,hc⟩ isSubtype_stop (wpAny_pure (q _ hk)))
theorem Uq {z p o:Addr} {u v:Value} {Q:Value→Shared→Prop} (hz:Iu s.heap z p o u v) (q:Q (.ref z) s):wpAny (model P w) A (pyIter (.ref z)) Q E s:=by
 have ty:s.TypeIs (.ref z) "zip":=⟨_,hz,rfl⟩
 refine wpAny_pyIter_slot ty F.slot_zip_iter (wpAny_call_entry F.slot_zip_iter ty F.entry_zip_iter ?_ (F.args_zip_iter_1 _))
 show wpAny _ _ (ret (.ref z)) _ _ _
 exact wpAny_pure ⟨_,rfl,"zip",_,ty,F.slot_zip_next.lookup,q⟩
noncomputable abbrev zA (h:Heap) (a:Addr):Heap:=h.push { cls:=.type "tuple_iterator",data:=.fields #[.ref a,.int 0 0] }
noncomputable abbrev zB (h:Heap) (a b:Addr):Heap:=(zA h a).push { cls:=.type "tuple_iterator",data:=.fields #[.ref b,.int 0 0] }
noncomputable abbrev zC (h:Heap) (a b:Addr):Heap:=(zB h a b).push { cls:=.type "tuple",data:=.seq #[.ref h.objs.size,.ref (zA h a).objs.size] }
noncomputable abbrev zD (h:Heap) (a b:Addr):Heap:=(zC h a b).push { cls:=.type "tuple",data:=.seq #[.none,.none] }
noncomputable abbrev zE (h:Heap) (a b:Addr):Heap:=(zD h a b).push { cls:=.type "zip",data:=.fields #[.none,.bool false,.bool false,.ref (zB h a b).objs.size,.ref (zC h a b).objs.size] }
theorem Ad0 (a b:Addr) (xs ys:Array Value):Meets (Builtin.«zip.__new__» ⟨[.type "zip",.ref a,.ref b],[]⟩) (fun _ R s=>s.heap.IsTuple a xs∧s.heap.IsTuple b ys∧R (.ok (.ret (.ref (zD s.heap a b).objs.size))) { s with heap:=zE s.heap a b }) :=
 .of_wp fun P w A R s h=>by
  obtain ⟨hp,gs,dr,tk,os⟩:=s;obtain ⟨t1,t2,h⟩:=h
  have sz:=sub_zip
  have m1:Heap.IsTuple (Shared.heap ⟨hp,gs,dr,tk,os⟩) a xs:=t1
  have m2:Heap.IsTuple (Shared.heap ⟨hp.push { cls:=.type "tuple_iterator",data:=.fields #[.ref a,.int 0 0] },gs,dr,tk,os⟩) b ys:=Heap.IsTuple.push t2 _
  wp_walk using wpAny_pyIter_tuple m1,wpAny_pyIter_tuple m2
  exact ⟨_,rfl,h⟩
theorem Ajr {n a b:Nat} (la:a < n) (lb:b < n):OJ (n+4) (n+2) (n+3) n (n+1) a b where
 pz:=fun e=>absurd (show (n+2:Nat)=n+4 from e) (by omega)
 oz:=fun e=>absurd (show (n+3:Nat)=n+4 from e) (by omega)
 iz:=fun e=>absurd (show (n:Nat)=n+4 from e) (by omega)
 jz:=fun e=>absurd (show (n+1:Nat)=n+4 from e) (by omega)
 po:=fun e=>absurd (show (n+2:Nat)=n+3 from e) (by omega)
 pi:=fun e=>absurd (show (n+2:Nat)=n from e) (by omega)
 pj:=fun e=>absurd (show (n+2:Nat)=n+1 from e) (by omega)
 oi:=fun e=>absurd (show (n+3:Nat)=n from e) (by omega)
 oj:=fun e=>absurd (show (n+3:Nat)=n+1 from e) (by omega)
 ij:=fun e=>absurd (show (n:Nat)=n+1 from e) (by omega)
 az:=fun e=>absurd (show (a:Nat)=n+4 from e) (by omega)
 ao:=fun e=>absurd (show (a:Nat)=n+3 from e) (by omega)
 ai:=fun e=>absurd (show (a:Nat)=n from e) (by omega)
 aj:=fun e=>absurd (show (a:Nat)=n+1 from e) (by omega)
 bz:=fun e=>absurd (show (b:Nat)=n+4 from e) (by omega)
 bo:=fun e=>absurd (show (b:Nat)=n+3 from e) (by omega)
 bi:=fun e=>absurd (show (b:Nat)=n from e) (by omega)
 bj:=fun e=>absurd (show (b:Nat)=n+1 from e) (by omega)
theorem AbK {a b:Addr} {xs ys:Array Value} {Q:Value→Shared→Prop} (t1:s.heap.IsTuple a xs) (t2:s.heap.IsTuple b ys)
  (q:∀ g z p o i j,OJ z p o i j a b→Kv g z p o i j a b 0 xs ys→(∀ c∈[z,p,o,i,j],s.heap.objs.size≤c)→(∀ c m,s.heap.get? c=some m→g.get? c=some m)→Q (.ref z) { s with heap:=g }) :
  wpAny (model P w) A (call (.type "zip") [.ref a,.ref b]) Q E s:=by
 refine callType_new F.called_zip (by decide) (F.typeCall_zip_2 _ _) (F.newCall_zip_2 _ _) (fun obj=>F.args_object_init_3 obj _ _) F.entry_zip_new (Ad0 a b xs ys) ⟨t1,t2,?_⟩
 have n1:(zA s.heap a).objs.size=s.heap.objs.size+1:=Heap.size_push ..
 have n2:(zB s.heap a b).objs.size=s.heap.objs.size+2:=by rw [Heap.size_push,n1]
 have n3:(zC s.heap a b).objs.size=s.heap.objs.size+3:=by rw [Heap.size_push,n2]
 have n4:(zD s.heap a b).objs.size=s.heap.objs.size+4:=by rw [Heap.size_push,n3]
 have g5:(zE s.heap a b).get? (zD s.heap a b).objs.size=some _:=Heap.get?_push_size _ rfl
 have g4:(zE s.heap a b).get? (zC s.heap a b).objs.size=some _:=Heap.get?_push_of_some _ (Heap.get?_push_size _ rfl)
 have g3:(zE s.heap a b).get? (zB s.heap a b).objs.size=some _:=Heap.get?_push_of_some _ (Heap.get?_push_of_some _ (Heap.get?_push_size _ rfl))
 have g2:(zE s.heap a b).get? (zA s.heap a).objs.size=some _:=Heap.get?_push_of_some _ (Heap.get?_push_of_some _ (Heap.get?_push_of_some _ (Heap.get?_push_size _ rfl)))
 have g1:(zE s.heap a b).get? s.heap.objs.size=some _:=Heap.get?_push_of_some _ (Heap.get?_push_of_some _ (Heap.get?_push_of_some _ (Heap.get?_push_of_some _ (Heap.get?_push_size _ rfl))))
 have up:∀ c m,s.heap.get? c=some m→(zE s.heap a b).get? c=some m:=fun c m e=>Heap.get?_push_of_some _ (Heap.get?_push_of_some _ (Heap.get?_push_of_some _ (Heap.get?_push_of_some _ (Heap.get?_push_of_some _ e))))
 have la:a < s.heap.objs.size:=by obtain ⟨_,e,_⟩:=t1;exact Heap.lt_size e
 have lb:b < s.heap.objs.size:=by obtain ⟨_,e,_⟩:=t2;exact Heap.lt_size e
 show _∧_
 refine ⟨⟨_,g5,rfl⟩,q _ _ (zB s.heap a b).objs.size (zC s.heap a b).objs.size s.heap.objs.size (zA s.heap a).objs.size ?_ ⟨⟨_,_,g5,.inl rfl⟩,g3,⟨_,_,g4⟩,⟨_,g1,rfl,rfl⟩,⟨_,g2,rfl,rfl⟩,t1.at fun m e=>up _ m e,t2.at fun m e=>up _ m e⟩ ?_ up⟩
 ·rw [n1,n2,n3,n4]
  exact Ajr la lb
 ·intro c hc
  simp only [List.mem_cons,List.not_mem_nil,or_false] at hc
  rw [n1,n2,n3,n4] at hc
  rcases hc with rfl | rfl | rfl | rfl | rfl
  ·exact Nat.le_add_right ..
  ·exact Nat.le_add_right ..
  ·exact Nat.le_add_right ..
  ·exact Nat.le_refl _
  ·exact Nat.le_add_right ..
end
noncomputable def Itz (K:PySem.W.Frag) (a b:Addr):It :=
 ⟨fun i H=>∃ xs ys x y,SqT K H a xs∧SqT K H b ys∧xs[i]? = some x∧ys[i]? = some y,
  fun i H v H'=>∃ T x y,v=.ref T∧H T=none∧H'=upd H T (.tup [x,y])∧(∀ xs,SqT K H a xs→xs[i]? = some x)∧∀ ys,SqT K H b ys→ys[i]? = some y,
  fun i H=>∃ xs ys,SqT K H a xs∧SqT K H b ys∧xs.length≤i⟩
section
variable {X:Cx} {tg:Expr} {pins:List (Addr × Obj)} {σ:St} {H:Hp} {s:Shared} {g:Heap}
theorem Inv.turnLay {ch:List Addr} {T:Addr} {o:HO} (I:Inv X pins σ H s) (k:∀ b u,b∉ch→s.heap.get? b=some u→g.get? b=some u) (hch:∀ b∈ch,LR X pins H b) (hT:s.heap.objs.size≤T)
  (new:HB X.prog X.w (upd H T o) g T o):Inv X pins σ (upd H T o) { s with heap:=g }:=by
 have nT:H T=none:=I.hok.fresh hT
 have nit:∀ b u,H b=some u→b∉ch:=fun b u e z=>by rw [(hch b z).1] at e;cases e
 have lt:∀ b u,s.heap.get? b=some u→b≠T:=fun b u e=>Nat.ne_of_lt (Nat.lt_of_lt_of_le (Heap.lt_size e) hT)
 refine I.step (g':=s.gens) (d':=s.drawn) (t':=s.toks) (ch:=ch) (fun b hb=>?_) (fun b u _ _ hc e _=>k b u hc e) (fun b u _ _ hc e _=>⟨u.slots,k b u hc e⟩) (fun b u _ e n=>by rw [Aw (lt b u e)];exact n)
  (fun b u hc e=>⟨u,k b u hc e⟩) (fun b xs e=>by rw [Aw (Bv e nT)];exact e) (fun b u xs e=>by rw [Aw (Bv e nT)];exact e) (fun b ps e=>⟨#[],by rw [Aw (Bv e nT),e];simp⟩) (fun m hm=>?_) (fun b u e=>?_) I.bare
 ·obtain ⟨_,f1,_,f3,f4,f5⟩:=hch b hb
  exact ⟨f3,f1,f4,f5⟩
 ·obtain ⟨u,es,ep,hu,r⟩:=hm
  exact ⟨u,es,ep,k _ u (fun z=>(hch _ z).2.1 rfl) hu,r⟩
 ·by_cases z:b=T
  ·subst z
   rw [Bl] at e;cases e
   exact new
  ·rw [Aw z] at e
   refine (I.hok b u e).stay (fun c v hc q=>k c v ?_ q) (fun c q=>by rw [Aw (Bv q nT)];exact q) fun c xs q=>by rw [Aw (Bv q nT)];exact q
   rcases hc with z | z
   ·rw [z];exact nit b u e
   ·exact nit c _ z
theorem Inv.turnAll {ch:List Addr} (I:Inv X pins σ H s) (k:∀ b u,b∉ch→s.heap.get? b=some u→g.get? b=some u) (hch:∀ b∈ch,LR X pins H b):Inv X pins σ H { s with heap:=g }:=by
 have nit:∀ b u,H b=some u→b∉ch:=fun b u e z=>by rw [(hch b z).1] at e;cases e
 refine I.step (g':=s.gens) (d':=s.drawn) (t':=s.toks) (ch:=ch) (fun b hb=>?_) (fun b u _ _ hc e _=>k b u hc e) (fun b u _ _ hc e _=>⟨u.slots,k b u hc e⟩) (fun b u _ e n=>n)
  (fun b u hc e=>⟨u,k b u hc e⟩) (fun b xs e=>e) (fun b u xs e=>e) (fun b ps e=>⟨#[],by rw [e];simp⟩) (fun m hm=>?_) (fun b u e=>?_) I.bare
 ·obtain ⟨_,f1,_,f3,f4,f5⟩:=hch b hb
  exact ⟨f3,f1,f4,f5⟩
 ·obtain ⟨u,es,ep,hu,r⟩:=hm
  exact ⟨u,es,ep,k _ u (fun z=>(hch _ z).2.1 rfl) hu,r⟩
 ·refine (I.hok b u e).stay (fun c v hc q=>k c v ?_ q) (fun c q=>q) fun c xs q=>q
  rcases hc with z | z
  ·rw [z];exact nit b u e
  ·exact nit c _ z
structure XS (z p o i j a b:Addr) (k:Nat) (h:Heap):Prop where
 zip:∃ u v,Iu h z p o u v∧Ahb u
 its:IsPair h p (.ref i) (.ref j)
 row:∃ x y,IsPair h o x y
 i1:h.IsTupleIter i a k
 i2:h.IsTupleIter j b k
theorem XS.on {h:Heap} {z p o i j a b:Addr} {k:Nat} {xs ys:Array Value} (Z:XS z p o i j a b k h) (t1:h.IsTuple a xs) (t2:h.IsTuple b ys):Kv h z p o i j a b k xs ys:=⟨Z.zip,Z.its,Z.row,Z.i1,Z.i2,t1,t2⟩
theorem Kv.tn {h:Heap} {z p o i j a b:Addr} {k:Nat} {xs ys:Array Value} (Z:Kv h z p o i j a b k xs ys):XS z p o i j a b k h:=⟨Z.zip,Z.its,Z.row,Z.i1,Z.i2⟩
theorem AaU {P:Program} {w:World} {K:PySem.W.Frag} {x:Str} {px:Pos} {z p o i j a b:Addr} (D:OJ z p o i j a b):Turn P w K (.Name x px) (Itz K a b) [z,p,o,i,j] z (XS z p o i j a b) where
 mem:=by simp
 obj:=fun n h Z c hc=>by
  obtain ⟨⟨u,v,e1,_⟩,e2,⟨x,y,e3⟩,⟨m4,e4,_,d4⟩,⟨m5,e5,_,d5⟩⟩:=Z
  simp only [List.mem_cons,List.not_mem_nil,or_false] at hc
  rcases hc with rfl | rfl | rfl | rfl | rfl
  ·exact ⟨_,e1,fun v q=>by cases (show Data.fields _=Data.cell v from q)⟩
  ·exact ⟨_,e2,fun v q=>by cases (show Data.seq _ _=Data.cell v from q)⟩
  ·exact ⟨_,e3,fun v q=>by cases (show Data.seq _ _=Data.cell v from q)⟩
  ·exact ⟨m4,e4,fun v q=>by rw [d4] at q;cases q⟩
  ·exact ⟨m5,e5,fun v q=>by rw [d5] at q;cases q⟩
 keep:=fun n h h' Z k=>by
  obtain ⟨⟨u,v,e1,l⟩,e2,⟨x,y,e3⟩,h4,h5⟩:=Z
  exact ⟨⟨u,v,k z (by simp) _ e1,l⟩,k p (by simp) _ e2,⟨x,y,k o (by simp) _ e3⟩,h4.at fun m e=>k i (by simp) m e,h5.at fun m e=>k j (by simp) m e⟩
 item:=by
  intro X hP hw hK hc n pins s σ H E I hf Z hg
  subst hP hw hK
  obtain ⟨xs,ys,x,y,q1,q2,hx,hy⟩:=hg
  obtain ⟨us,r1,p1,_⟩:=I.tuple q1
  obtain ⟨vs,r2,p2,_⟩:=I.tuple q2
  obtain ⟨u,hu,ru⟩:=r1.get hx
  obtain ⟨v,hv,rv⟩:=r2.get hy
  refine AbY D (Z.on (show s.heap.IsTuple a us.toArray from p1) (show s.heap.IsTuple b vs.toArray from p2)) (x:=u) (y:=v) (by simpa using hu) (by simpa using hv) fun g T Z' hT lT kk=>?_
  have nT:H T=none:=I.hok.fresh lT
  have I1:Inv X pins σ (upd H T (.tup [x,y])) { s with heap:=g }:=I.turnLay (ch:=[z,p,o,i,j]) (fun c m nc e=>by
   simp only [List.mem_cons,List.not_mem_nil,or_false,not_or] at nc
   exact kk c m nc.1 nc.2.2.1 nc.2.2.2.1 nc.2.2.2.2 e) hf lT ⟨by show 2≤sizeLine;decide,[u,v],.cons ru (.cons rv .nil),⟨_,hT,rfl,0,rfl⟩⟩
  refine ⟨_,rfl,?_⟩
  show wpAny (model X.prog X.w) X.A (pure ()) _ _ _
  refine wpAny_pure ⟨.ref T,_,I1,rfl,⟨T,x,y,rfl,nT,rfl,fun xs' h'=>by rw [I.tuple_inj h' q1];exact hx,fun ys' h'=>by rw [I.tuple_inj h' q2];exact hy⟩,Z'.tn,fun c hc=>?_⟩
  have e:c≠T:=fun z=>by
   obtain ⟨m,e,_⟩:=(by
    obtain ⟨⟨u,v,e1,_⟩,e2,⟨x,y,e3⟩,⟨m4,e4,_⟩,⟨m5,e5,_⟩⟩:=Z
    simp only [List.mem_cons,List.not_mem_nil,or_false] at hc
    rcases hc with rfl | rfl | rfl | rfl | rfl
    ·exact ⟨_,e1,trivial⟩
    ·exact ⟨_,e2,trivial⟩
    ·exact ⟨_,e3,trivial⟩
    ·exact ⟨_,e4,trivial⟩
    ·exact ⟨_,e5,trivial⟩:∃ m,s.heap.get? c=some m∧True)
   exact absurd (Heap.lt_size e) (Nat.not_lt.mpr (by rw [z];exact lT))
  rw [Aw e]
  exact (hf c hc).1
 done:=by
  intro X hP hw hK hc n pins s σ H E I hf Z hg
  subst hP hw hK
  obtain ⟨xs,ys,q1,q2,hx⟩:=hg
  obtain ⟨us,r1,p1,_⟩:=I.tuple q1
  obtain ⟨vs,r2,p2,_⟩:=I.tuple q2
  have hl:=r1.length
  exact Aal (I.ok.hd hc) D (Z.on (show s.heap.IsTuple a us.toArray from p1) (show s.heap.IsTuple b vs.toArray from p2)) (by simp;omega) fun g kk=>⟨rfl,I.turnAll (ch:=[z,p,o,i,j]) (fun c m nc e=>by
   simp only [List.mem_cons,List.not_mem_nil,or_false,not_or] at nc
   exact kk c m nc.1 nc.2.2.1 nc.2.2.2.1 nc.2.2.2.2 e) hf⟩
 self:=fun _ _ _ _ _ Z h=>by
  obtain ⟨u,v,e,_⟩:=Z.zip
  exact Uq e h
end
end L2
namespace L2
open PySem PySem.Spec PyProof.Rows PySem.SeqAt
section
variable {X:Cx} {tg:Expr}
noncomputable def Amf (K:PySem.W.Frag) (ta:TA):TI:=fun σ H R=>ta σ H fun vs H1=>∃ a b,vs=[.ref a,.ref b]∧(∃ xs,SqT K H1 a xs)∧(∃ ys,SqT K H1 b ys)∧R (Itz K a b) H1
theorem AfQ {x:Str} {px:Pos} {a b:Expr} {ta:TA} {p pos:Pos} (hg:Gl X "zip") (hm:X.mg "zip"=none) (ha:PA X [a,b] ta) (hs:starEach [a,b] X.env=[(false,eval a X.env),(false,eval b X.env)]:=by rfl) (hs2:starEach [b] X.env=[(false,eval b X.env)]:=by rfl) :
  PI X (.Name x px) (.Call (.Name "zip" p) [a,b] [] pos) (Amf X.K ta):=by
 intro pins s σ H R I h
 refine Call_ (KZ I hg hm (u:=.type "zip") rfl (PyProof.Rows.callWith_type1 (thn (ha pos pins s σ H _ I h) fun us s1 ⟨vs,H1,I1,r1,q1⟩=>?_) (by rw [hs,hs2]) (by rw [hs2];rfl)))
 obtain ⟨c,d,e,⟨xs,hx⟩,⟨ys,hy⟩,q⟩:=q1
 subst e
 cases r1 with
 | cons r rr =>
  cases rr with
  | cons r' rr =>
   cases rr
   cases r;cases r'
   obtain ⟨us,_,p1,_⟩:=I1.tuple hx
   obtain ⟨ws,_,p2,_⟩:=I1.tuple hy
   refine AbK (show s1.heap.IsTuple c us.toArray from p1) (show s1.heap.IsTuple d ws.toArray from p2) fun g z pp o i j D Z new kk=>?_
   obtain ⟨u,v,e,_⟩:=Z.zip
   refine Uq e ⟨z,[z,pp,o,i,j],_,_,H1,rfl,I1.kept (t':=s1.toks) kk,AaU D,Z.tn,fun b hb=>?_,q⟩
   exact I1.fpOk (new b hb) (I1.hok.fresh (new b hb))
noncomputable def ItN (K:PySem.W.Frag) (M:Hp) (J:It) (items:List Dt):Prop:=∀ H,Same M H →
 (∀ (k:Nat) d,items[k]? = some d→J.go k H∧∀ x H',J.yld k H x H'→Same H H'∧∀ G:List Addr,(∀ a∈G,H a≠none)→Same M (mask G H)→Rp K (mask G H') d x)∧J.stop items.length H
noncomputable def lIN (K:PySem.W.Frag) (ti:DTI):TI:=fun σ H R=>∃ B F O ρ,Rep K B F O H σ ρ∧ti ρ fun items=>∀ J H',Same H H'→ItN K (mask (F ++ O) H') J items→R J H'
structure DIN (X:Cx) (tg iter:Expr) (ti:DTI):Prop where
 mono:∀ {ρ Q Q'},(∀ d,Q d→Q' d)→ti ρ Q→ti ρ Q'
 pi:PI X tg iter (lIN X.K ti)
theorem ZK {K:PySem.W.Frag} {sl:List Nat} {ti:DTI} {dt:DTT} {de:DTE} (mi:∀ {ρ Q Q'},(∀ d,Q d→Q' d)→ti ρ Q→ti ρ Q') (mt:∀ {ρ Q Q'},(∀ d,Q d→Q' d)→dt ρ Q→dt ρ Q') (me:∀ {ρ Q Q'},(∀ d,Q d→Q' d)→de ρ Q→de ρ Q')
  (σ:St) (H:Hp) (Q:VK) (h:lE K (Jc sl ti dt de) σ H Q):X3 sl (lIN K ti) (lT K dt) (lE K de) σ H Q:=by
 obtain ⟨B,F,O,ρ,R,h⟩:=h
 refine ⟨B,F,O,ρ,R,mi (fun items ⟨h1,h2,W,w0,st,fin⟩ J H1 s1 it=>?_) h⟩
 have R1:=R.same s1
 obtain ⟨vs,ds,ev,ed,rs⟩:=JM R1 h2
 refine ⟨vs,ev,fun D hD=>?_⟩
 have nD:D∉F ++ O:=fun z=>R1.th D z hD
 refine ⟨fun i m acc H2=>m+i=items.length∧H2 D=some (.lst acc)∧acc.length≤i∧Same H1 H2∧∃ as,RpL K (mask (D :: (F ++ O)) H2) as acc∧W i as,⟨items.length,by omega,Bl,Nat.le_refl _,Same.upd hD,[],RpL.nil,w0⟩,?_⟩
 rintro i m acc H2 ⟨hm,e2,hl,s2,as,ra,w⟩
 have sb:Same (mask (F ++ O) H1) H2:=fun a o e=>s2 a o (CQ e).2
 have sD:Same (mask (F ++ O) H1) (mask (D :: (F ++ O)) H2):=fun a o e=>by
  obtain ⟨q,e⟩:=CQ e
  rw [Bd fun z=>by
   rcases List.mem_cons.mp z with z | z
   ·rw [z,hD] at e;cases e
   ·exact q z]
  exact s2 a o e
 have th2:∀ a∈D :: (F ++ O),H2 a≠none:=fun a ha q=>by
  rcases List.mem_cons.mp ha with z | z
  ·rw [z,e2] at q;cases q
  ·have:=R1.th a z
   cases q':H1 a with
   | none=>exact this q'
   | some o=>rw [s2 a o q'] at q;cases q
 obtain ⟨go,stop⟩:=it H2 sb
 by_cases hlt:i < items.length
 ·refine .inr ⟨(go i items[i] (by simp [hlt])).1,fun z H3 y=>?_⟩
  obtain ⟨s3,r⟩:=(go i items[i] (by simp [hlt])).2 z H3 y
  have r:=r (D :: (F ++ O)) th2 sD
  have e3:H3 D=some (.lst acc):=s3 _ _ e2
  have th:∀ a∈D :: (F ++ O),H3 a≠none:=fun a ha q=>by
   have:=th2 a ha
   cases q':H2 a with
   | none=>exact this q'
   | some o=>rw [s3 a o q'] at q;cases q
  have R3:=Rz th r ((rs.mono sD).mono s3.mask)
  have ei:some (En.is items[i]) :: ds.map (fun d=>some (En.is d))=inner sl ρ items[i]:=by unfold inner;rw [ed]
  rw [ei] at R3
  refine ⟨_,_,_,_,R3,mt (fun b q H4 s4=>?_) (st i _ as (by simp [hlt]) w)⟩
  cases b with
  | false =>
   refine ⟨m - 1,by omega,by omega,s4 _ _ e3,by omega,(s2.trans s3).trans s4,as,(ra.mono s3.mask).mono s4.mask,q⟩
  | true =>
   refine ⟨_,_,_,_,R3.same s4,me (fun e q v5 H5 s5 r5=>?_) q⟩
   have e5:H5 D=some (.lst acc):=s5 _ _ (s4 _ _ e3)
   have hz:acc.length < sizeLine:=by omega
   have s6:Same (mask (D :: (F ++ O)) H5) (mask (D :: (F ++ O)) (upd H5 D (.lst (acc ++ [v5])))):=fun a o q=>by
    obtain ⟨n,q⟩:=CQ q
    rw [Bd n,Aw fun z=>n (by rw [z];exact List.mem_cons_self)];exact q
   have em:mask (D :: (F ++ O) ++ []) H5=mask (D :: (F ++ O)) H5:=by rw [List.append_nil]
   rw [em] at r5
   refine ⟨e5,hz,m - 1,by omega,by omega,Bl,by simp;omega,fun a o q=>?_,as ++ [e],((((ra.mono s3.mask).mono s4.mask).mono s5.mask).append (RpL.cons r5 RpL.nil)).mono s6,q⟩
   rw [Aw (Bv q hD)]
   exact s5 _ _ (s4 _ _ (s3 _ _ (s2 a o q)))
 ·have e:i=items.length:=by omega
  subst e
  refine .inl ⟨stop,fin as (by rw [←ra.len];exact hl) w (.ref D) H2 (s1.trans s2) (Ka ⟨D,acc,rfl,(by rw [Bd nD];exact e2),ra.mono (Gz fun a h=>List.mem_cons_of_mem _ h)⟩)⟩
end
section
variable {X:Cx} {elt iter:Expr} {x:Str} {N:List Str} {sl:List Nat} {scope:Scope} {px pos:Pos}
theorem Abu {ti:DTI} {de:DTE} {y:Str} {py spos:Pos} (i:Nat) (hN:X.N.Nodup) (S:Ei X scope x N sl) (hc:X.calm=true) (hi:DIN X (.Name x px) iter ti) (he:∀ cl C s₀ H₀ ex,DE (Bm X scope (x :: N) cl C s₀ H₀ ex) elt de)
  (hyi:X.N[i]? = some y:=by rfl) (hy:X.env.scope.names.lookup y=some .local:=by rfl) (hsw:swapsWith (.ListComp elt [⟨.Name x px,iter,[],0⟩] scope pos) (some (.Name y py)) spos.line X.env=pure true:=by rfl) (hs:∀ x,foldedSetIterable iter X.env x=pure x:=by intro _;rfl) :
  DS X (.Assign [.Name y py] (.ListComp elt [⟨.Name x px,iter,[],0⟩] scope pos) spos) (Yi i sl ti Lj de) where
 mono:=fun hd h=>J6 (ti:=ti) hi.mono (fun d q=>hd.nx _ q) h
 ps:=(Yw (tt:=lT X.K Lj) (te:=lE X.K de) S hc hN hyi hy hi.pi (fun cl C s₀ H₀ ex=>Tj.pts) (fun cl C s₀ H₀ ex=>(he cl C s₀ H₀ ex).pe) hsw hs).imp fun D σ H ⟨B,F,O,ρ,R,h⟩ =>
  ZK (ti:=ti) (dt:=Lj) (de:=de) hi.mono (fun hq h=>hq _ h) (he [] 0 X.s₀ X.H₀ []).mono σ H _ ⟨B,F,O,ρ,R,J6 (ti:=ti) hi.mono (fun d q v H' s r=>q O _ H' ((R.same s).set i r)) h⟩
noncomputable def AeI (tl:DTA):DTI:=fun ρ Q=>tl ρ fun ds=>∃ xs ys,ds=[.tup xs,.tup ys]∧xs.length=ys.length∧Q ((xs.zip ys).map fun p=>.tup [p.1,p.2])
theorem Agd {a b:Expr} {p:Pos} {tl:DTA} (hg:Gl X "zip") (hm:X.mg "zip"=none) (ha:DA X [a,b] tl) (hs:starEach [a,b] X.env=[(false,eval a X.env),(false,eval b X.env)]:=by rfl) (hs2:starEach [b] X.env=[(false,eval b X.env)]:=by rfl) :
  DIN X (.Name x px) (.Call (.Name "zip" p) [a,b] [] pos) (AeI tl) where
 mono:=fun hq h=>ha.mono (fun ds ⟨xs,ys,e,l,h⟩=>⟨xs,ys,e,l,hq _ h⟩) h
 pi:=(AfQ hg hm ha.pa hs hs2).imp fun σ H R ⟨B,F,O,ρ,RR,h⟩=>⟨B,F,O,ρ,RR,ha.mono (fun ds ⟨xs,ys,e,l,q⟩ vs H1 s1 r1=>by
  subst e
  obtain ⟨v1,w1,rfl,ra,r1⟩:=Ay.mp r1
  obtain ⟨v2,w2,rfl,rb,r1⟩:=Ay.mp r1
  obtain rfl:=BP.mp r1
  obtain ⟨c,us,rfl,hs1,l1⟩:=CP.mp ra
  obtain ⟨d,ws,rfl,hs2,l2⟩:=CP.mp rb
  refine ⟨c,d,rfl,⟨us,Bf.seqT hs1⟩,⟨ws,Bf.seqT hs2⟩,q _ H1 s1 fun H2 s2=>⟨fun k dd e=>?_,us,ws,s2.seqT hs1,s2.seqT hs2,?_⟩⟩
  ·rw [List.getElem?_map] at e
   cases e':(xs.zip ys)[k]? with
   | none=>rw [e'] at e;cases e
   | some pr =>
    rw [e'] at e;cases e
    obtain ⟨e1,e2⟩:=List.getElem?_zip_eq_some.mp e'
    obtain ⟨u,hu,ru⟩:=l1.get e1
    obtain ⟨v,hv,rv⟩:=l2.get e2
    refine ⟨⟨us,ws,u,v,s2.seqT hs1,s2.seqT hs2,hu,hv⟩,?_⟩
    rintro _ H3 ⟨T,y1,y2,rfl,nT,rfl,f1,f2⟩
    have g1:=f1 us (s2.seqT hs1)
    have g2:=f2 ws (s2.seqT hs2)
    rw [hu] at g1;cases g1
    rw [hv] at g2;cases g2
    refine ⟨Same.upd nT,fun G hG sM=>?_⟩
    have nG:T∉G:=fun z=>hG T z nT
    have sm:Same (mask G H2) (mask G (upd H2 T (.tup [u,v]))):=(Same.upd nT).mask
    exact CP.mpr ⟨T,[u,v],rfl,.inl (.inl (by rw [Bd nG,Bl])),RpL.cons ((ru.mono sM).mono sm) (RpL.cons ((rv.mono sM).mono sm) RpL.nil)⟩
  ·rw [List.length_map,List.length_zip,l1.len]
   omega) h⟩
noncomputable def Yg (tl:DTA):DTE:=fun ρ Q=>tl ρ fun ds=>∃ ks,ds=[.lst ks]∧Q (.tup ks)
theorem R6 {a:Expr} {tl:DTA} {p:Pos} (hm:X.mg "tuple"=none) (ha:DA X [a] tl) (hg:Gl X "tuple":=by rfl) (he:starEach [a] X.env=(false,eval a X.env) :: starEach [] X.env:=by rfl) (hpl:(backTo pos (starEach [] X.env)).any (·.1)=false:=by rfl) :
  DE X (.Call (.Name "tuple" p) [a] [] pos) (Yg tl) where
 mono:=fun hq h=>ha.mono (fun ds ⟨ks,e,q⟩=>⟨ks,e,hq _ q⟩) h
 pe:=(Zd Q7 hg hm rfl ha.pa (he:=he) (hpl:=hpl)).imp fun σ H Q ⟨B,F,O,ρ,R,h⟩=>⟨B,F,O,ρ,R,ha.mono (fun ds ⟨ks,e,q⟩ vs H1 s1 r1=>by
  subst e
  obtain ⟨v1,w1,rfl,ra,r1⟩:=Ay.mp r1
  obtain rfl:=BP.mp r1
  obtain ⟨c,us,rfl,hs,hl⟩:=FP ra
  refine ⟨c,us,rfl,.inl ⟨Bf.seq hs,fun l hn=>?_⟩⟩
  have nl:l∉F ++ O:=fun z=>(R.same s1).th l z hn
  exact q _ _ (s1.trans (Same.upd hn)) (CP.mpr ⟨l,us,rfl,.inl (.inl (Mj nl)),hl.mono (Same.upd hn).mask⟩)) h⟩
end
end L2
namespace L2
open PySem PySem.Spec PyProof.Rows
section
variable {prog:Program} {w:World} {A:Around}
end
variable {X:Cx}
end L2
namespace L2
open PySem PySem.Spec PyProof.Rows
open PySem.W (KasT kas_asc kas_desc kas_tail3 kas_descPart kas_count kas_place kas_bin kas_sort kas_rev)
section
variable {n:Nat}
end
section
variable {prog:Program} {w:World} {A:Around} {E:Value→Shared→Prop} {s:Shared}
end
variable {X:Cx}
end L2
namespace L2
open PySem PySem.Spec PyProof.Rows
open PySem.W (KasT kas_asc kas_desc kas_tail3 kas_descPart kas_count kas_place kas_bin kas_sort kas_rev)
structure AdA (bt:Nat→Nat→Bool):Prop where
 asy:∀ i j,bt i j=true→bt j i=false
 neg:∀ i j k,bt j i=false→bt k j=false→bt k i=false
noncomputable abbrev gt (p:Array Nat) (i:Nat):Nat:=p.getD i 0
section
variable {bt:Nat→Nat→Bool} (O:AdA bt)
end
end L2
namespace L2
open PySem PySem.Spec PyProof.Rows
end L2
namespace L2
open PySem PySem.Spec PyProof.Rows PySem.SeqAt
section
variable {X:Cx} {e:Expr} {te:DTE} {pos:Pos}
end
end L2
namespace L2
open PySem
theorem Ox (n:Nat):∀ a:List Int,Dt.flats n (a.map Dt.int)=true
 | []=>by simp [Dt.flats]
 | x :: a=>by rw [List.map_cons,Dt.flats,Ox n a,KD];rfl
theorem QS (n:Nat):∀ a:List (List Int),Dt.flats (n+1) (a.map Dn)=true
 | []=>by simp [Dt.flats]
 | x :: a=>by rw [List.map_cons,Dt.flats,QS n a,Dt.flat,Ox];rfl
end L2
namespace L2
open PySem PySem.Spec PyProof.Rows PySem.SeqAt
section
variable {P:Program} {w:World}
theorem R8:∀ {ks:List Int} {us:List Value},Vals (ks.map V.int) us→ItemsAre (GZ P w) (ks.map Sum.inl) us
 | [],_,r=>by cases r;exact .nil
 | _ :: ks,_,r=>by
  cases r with
  | cons h t =>
   obtain ⟨t',rfl⟩:=h
   exact .cons (Vl P w _ t') (R8 t)
theorem AbI (ks:List Int):(ks.map (Sum.inl:Int→Key)).map kV=ks.map V.int:=by rw [List.map_map];rfl
theorem Yx:∀ {a b:List Int},a.map (Sum.inl:Int→Key)=b.map Sum.inl→a=b
 | [],[],_=>rfl
 | [],_ :: _,e=>by cases e
 | _ :: _,[],e=>by cases e
 | x :: xs,y :: ys,e=>by
  obtain ⟨h1,h2⟩:=List.cons.inj e
  rw [Sum.inl.inj h1,Yx h2]
theorem Zo {P':Program} {w':World} {x:List Key × Addr × Value} {k:List Int} (h:x.1=k.map Sum.inl):entryOfKey (tupleKind (GZ P w)) x=entryOfKey (tupleKind (GZ P' w')) x:=by
 show DictEntry.mk (reduceHash (Builtin.Tuple.tupleHashOf (x.1.map (AfX w)))) _ _=DictEntry.mk (reduceHash (Builtin.Tuple.tupleHashOf (x.1.map (AfX w')))) _ _
 rw [h,List.map_map,List.map_map]
 rfl
end
section
variable {X:Cx} {pins:List (Addr × Obj)} {σ:St} {H:Hp} {s:Shared} {a b:Addr} {ks:List (List Int)} {xs:List (List Key × Addr × Value)} {A:Around} {E:Value→Shared→Prop} {k:List Int}
theorem Sd (I:Inv X pins σ H s) (h:SqT X.K H b (k.map V.int)):(tupleKind (GZ X.prog X.w)).is s.heap (k.map Sum.inl) b:=by
 obtain ⟨its,r,⟨o,h1,h2,n,h3⟩,_⟩:=I.tuple h
 exact ⟨o,its.toArray,n,h1,h2,h3,by simpa using R8 r⟩
theorem Wg (I:Inv X pins σ H s) (Ha:H a=some (.ext (tabAt a xs))) (tk:Vt X.K H ks xs):(a == sysModules)=false∧s.heap.DictOfH (tupleKind (GZ X.prog X.w)) a xs:=by
 obtain ⟨⟨h0,P,w,o,es,ep,h1,h2,h3,h4,h5⟩,_⟩:=I.hok a _ Ha
 refine ⟨h0,o,es,ep,h1,h2,h3,h4.trans (List.map_congr_left fun x hx=>?_),fun x hx=>?_,h5⟩
 ·have m:x.1∈ks.map (·.map Sum.inl):=by rw [←tk.1];exact List.mem_map.mpr ⟨x,hx,rfl⟩
  obtain ⟨k,_,e⟩:=List.mem_map.mp m
  exact Zo e.symm
 have m:x.1∈ks.map (·.map Sum.inl):=by rw [←tk.1];exact List.mem_map.mpr ⟨x,hx,rfl⟩
 obtain ⟨k,_,e⟩:=List.mem_map.mp m
 have:=tk.2 x hx
 rw [←e,AbI] at this
 rw [←e]
 exact Sd I this
theorem Yo (e:xs.map (·.1)=ks.map (·.map Sum.inl)):(atKey xs (k.map Sum.inl)).isSome=decide (k∈ks):=by
 by_cases h:k∈ks
 ·rw [decide_eq_true h]
  have m:k.map Sum.inl∈xs.map (·.1):=by rw [e];exact List.mem_map.mpr ⟨k,h,rfl⟩
  obtain ⟨x,hx,ex⟩:=List.mem_map.mp m
  unfold atKey
  rw [Option.isSome_map,List.find?_isSome]
  exact ⟨x,hx,decide_eq_true ex⟩
 ·rw [decide_eq_false h]
  unfold atKey
  rw [Option.isSome_map]
  cases q:xs.find? fun x=>decide (x.1=k.map Sum.inl) with
  | none=>rfl
  | some x =>
   have h1:=List.mem_of_find?_eq_some q
   have h2:decide (x.1=k.map Sum.inl)=true:=List.find?_some (p:=fun x:List Key × Addr × Value=>decide (x.1=k.map Sum.inl)) q
   have h2:=of_decide_eq_true h2
   have m:x.1∈ks.map (·.map Sum.inl):=by rw [←e];exact List.mem_map.mpr ⟨x,h1,rfl⟩
   obtain ⟨k',hk,e'⟩:=List.mem_map.mp m
   rw [h2] at e'
   exact absurd (by rw [←Yx e'];exact hk) h
noncomputable def Agu (K:PySem.W.Frag):R2:=fun y x H Q=>∃ a b ks xs k,x=.ref a∧y=.ref b∧H a=some (.ext (tabAt a xs))∧Vt K H ks xs∧SqT K H b (k.map V.int)∧Q (.bl (!decide (k∈ks))) H
theorem Wj (hu:X.A.units+1 < cLine):OpR X (compareOp .NotIn) (Agu X.K):=by
 intro pins s σ H y x v u Q I ry rx h
 obtain ⟨a,b,ks,xs,k,rfl,rfl,Ha,tk,hb,q⟩:=h
 cases rx
 cases ry
 obtain ⟨h0,dd⟩:=Wg I Ha tk
 refine wpAny_notIn_heap (tupleKind_room_in1 hu) (Sd I hb) h0 dd ?_
 rw [Yo tk.1]
 exact ⟨.bl (!decide (k∈ks)),H,I.tok _,rfl,q⟩
noncomputable def Jz (k:List Int) (ks:List (List Int)):List (List Int):=if k∈ks then ks else ks ++ [k]
theorem Aca {v:Value} (e:xs.map (·.1)=ks.map (·.map Sum.inl)):(storedH xs (k.map Sum.inl) b v).map (·.1)=(Jz k ks).map (·.map Sum.inl):=by
 unfold storedH Jz
 rw [Yo e]
 by_cases h:k∈ks
 ·rw [decide_eq_true h,if_pos rfl,if_pos h,List.map_map,←e]
  refine List.map_congr_left fun x _=>?_
  show (putAt _ v x).1=x.1
  unfold putAt
  split <;> rfl
 ·rw [decide_eq_false h,if_neg (by simp),if_neg h,List.map_append,List.map_append,e]
  rfl
theorem AdZ {v:Value} {x:List Key × Addr × Value} {kk:List Key} (h:x∈storedH xs kk b v):(∃ y∈xs,y.1=x.1∧y.2.1=x.2.1)∨(x.1=kk∧x.2.1=b):=by
 unfold storedH at h
 split at h
 ·obtain ⟨y,hy,rfl⟩:=List.mem_map.mp h
  refine .inl ⟨y,hy,?_⟩
  unfold putAt
  split <;> exact ⟨rfl,rfl⟩
 ·rcases List.mem_append.mp h with h | h
  ·exact .inl ⟨x,h,rfl,rfl⟩
  ·rw [List.mem_singleton.mp h]
   exact .inr ⟨rfl,rfl⟩
noncomputable def AcW (K:PySem.W.Frag):V→V→V→Hp→(Hp→Prop)→Prop:=fun x y v H Q=>∃ a b t ks xs k,x=.ref a∧y=.ref b∧v=.bl t∧H a=some (.ext (tabAt a xs))∧Vt K H ks xs∧ks.length≤sizeLine∧SqT K H b (k.map V.int)∧∀ xs',(xs'.map (·.1)=(Jz k ks).map (·.map Sum.inl))→(∀ x∈xs',(∃ y∈xs,y.1=x.1∧y.2.1=x.2.1)∨(x.1=k.map Sum.inl∧x.2.1=b))→Q (upd H a (.ext (tabAt a xs')))
theorem Qf {a:Addr} {xs:List (List Key × Addr × Value)} (h1 h2:Heap) (x:tabAt a xs h1) (k:∀ o,h1.get? a=some o→h2.get? a=some o):tabAt a xs h2:=let ⟨h0,P,w,o,es,ep,e,r⟩:=x;⟨h0,P,w,o,es,ep,k o e,r⟩
theorem Acm (hu:X.A.units+1 < cLine):AkD X (AcW X.K):=by
 intro pins s σ H x y v ov iv u Q I rx ry rv h
 obtain ⟨a,b,t,ks,xs,k,rfl,rfl,rfl,Ha,tk,hz,hb,q⟩:=h
 cases rx
 cases ry
 obtain ⟨h0,dd⟩:=Wg I Ha tk
 have lx:xs.length≤sizeLine:=by
  have:=congrArg List.length tk.1
  rw [List.length_map,List.length_map] at this
  omega
 refine wpAny_setItem_heap (hsz:=lx) (tupleKind_room_in1 hu) (Sd I hb) dd fun h' dd' hs=>⟨_,?_,q _ (Aca (b:=b) (v:=u) tk.1) (fun x hx=>AdZ hx)⟩
 obtain ⟨o,es,ep,e1,e2,e3,e4,_,e5⟩:=dd'
 have th:∃ o,h'.get? a=some o:=⟨o,e1⟩
 exact I.write (x:=a) (e:=a) (by rw [Ha];exact True.intro) (.inl rfl) (fun c u hc z=>(hs.2 c hc).trans z) th ⟨⟨h0,_,_,o,es,ep,e1,e2,e3,e4,e5⟩,th,Qf⟩
noncomputable def Aeo:TE:=fun _ H Q=>∀ p,H p=none→Q (.ref p) (upd H p (.ext (tabAt p [])))
theorem Zy {pos:Pos}:PE X (.Dict [] [] pos) Aeo:=fun pins s σ H Q I h=>by
 have big:sysModules < s.heap.objs.size:=Nat.lt_trans (by decide) (show mainGlobals < s.heap.objs.size from (I.mod.glob.keeps I.bk).lt)
 have at':(s.heap.push { cls:=.type "dict",data:=.dict #[] }).get? s.heap.objs.size=some { cls:=.type "dict",data:=.dict #[] }:=Heap.get?_push_size _ rfl
 refine wpAny_Dict_empty ⟨.ref s.heap.objs.size,_,I.laid (a:=s.heap.objs.size) (o:=.ext (tabAt s.heap.objs.size [])) (t':=s.toks) (fun _ _ q=>Heap.get?_push_of_some _ q) (Nat.le_refl _) ⟨⟨beq_eq_false_iff_ne.mpr (Ne.symm (Nat.ne_of_lt big)),X.prog,X.w,_,#[],0,at',⟨rfl,rfl,rfl⟩,rfl,rfl,List.nodup_nil⟩,⟨_,at'⟩,Qf⟩,rfl,h _ (I.hok.fresh (Nat.le_refl _))⟩
end
section
variable {K:PySem.W.Frag} {B:Hp} {F O:List Addr} {H:Hp} {σ:St} {ρ:BX}
theorem Rep.newTab (r:Rep K B F O H σ ρ) (i:Nat) {p:Addr} (hp:H p=none):Rep K B F (p :: O) (upd H p (.ext (tabAt p []))) (σ.set i (some (.ref p))) (ρ.set i (some (.tab []))):=by
 have hl:=r.len
 have nF:p∉F:=fun z=>r.th p (List.mem_append_left _ z) hp
 have nO:p∉O:=fun z=>r.th p (List.mem_append_right _ z) hp
 have em:=U7 (F:=F) (O:=O) (o:=.ext (tabAt p [])) hp
 have back:∀ (m:Nat) (x:En),(∀ ks,x≠.tab ks)→(ρ.set i (some (.tab [])))[m]? = some (some x)→m≠i∧ρ[m]? = some (some x):=fun m x nx q=>by
  have hm:m≠i:=fun z=>by
   subst z
   by_cases hk:m < ρ.length
   ·rw [List.getElem?_set_self hk] at q;cases q;exact nx _ rfl
   ·rw [List.getElem?_eq_none (by simpa using hk)] at q;cases q
  rw [List.getElem?_set_ne (Ne.symm hm)] at q;exact ⟨hm,q⟩
 refine ⟨by simpa using hl,r.base.trans (Same.upd hp),fun a h=>?_,fun a h e=>?_,fun j d q=>?_,fun j es q=>?_,fun j k es es' a h1 h2 h3 h4=>?_,fun j ks q=>?_,fun j k es es' a h1 h2 h3 h4=>?_⟩
 ·rcases List.mem_cons.mp h with rfl | h
  ·cases q:B a with
   | none=>rfl
   | some o=>rw [r.base a o q] at hp;cases hp
  ·exact r.fr a h
 ·by_cases z:a=p
  ·rw [z,Bl] at e;cases e
  ·rw [Aw z] at e
   refine r.th a ?_ e
   rcases List.mem_append.mp h with h | h
   ·exact List.mem_append_left _ h
   ·exact List.mem_append_right _ ((List.mem_cons.mp h).resolve_left z)
 ·obtain ⟨hj,q⟩:=back j _ (fun _ z=>by cases z) q
  rw [List.getElem?_set_ne (Ne.symm hj),em];exact r.is j d q
 ·obtain ⟨hj,q⟩:=back j _ (fun _ z=>by cases z) q
  rw [List.getElem?_set_ne (Ne.symm hj)]
  obtain ⟨a,ys,h1,h2,h3,h4,h5⟩:=r.own j es q
  exact ⟨a,ys,h1,List.mem_cons_of_mem _ h2,h3,by rw [Aw (a:=p) (fun z=>nO (by rw [←z];exact h2))];exact h4,by rw [em];exact h5⟩
 ·obtain ⟨n1,q1⟩:=back j _ (fun _ z=>by cases z) h1
  obtain ⟨n2,q2⟩:=back k _ (fun _ z=>by cases z) h2
  rw [List.getElem?_set_ne (Ne.symm n1)] at h3
  rw [List.getElem?_set_ne (Ne.symm n2)] at h4
  exact r.inj j k es es' a q1 q2 h3 h4
 ·by_cases hj:j=i
  ·subst hj
   by_cases hk:j < ρ.length
   ·rw [List.getElem?_set_self hk] at q;cases q
    exact ⟨p,[],List.getElem?_set_self (by omega),List.mem_cons_self,nF,Bl,rfl,fun x hx=>(nomatch hx)⟩
   ·rw [List.getElem?_eq_none (by simpa using hk)] at q;cases q
  ·rw [List.getElem?_set_ne (Ne.symm hj)] at q ⊢
   obtain ⟨a,ys,h1,h2,h3,h4,h5⟩:=r.tab j ks q
   exact ⟨a,ys,h1,List.mem_cons_of_mem _ h2,h3,by rw [Aw (a:=p) (fun z=>nO (by rw [←z];exact h2))];exact h4,by rw [em];exact h5⟩
 ·have other:∀ (m:Nat) es,m≠i→(ρ.set i (some (.tab [])))[m]? = some (some (.tab es))→(σ.set i (some (.ref p)))[m]? = some (some (.ref p))→False:=fun m es hm q1 q2=>by
   rw [List.getElem?_set_ne (Ne.symm hm)] at q1 q2
   obtain ⟨b,_,e1,e2,_⟩:=r.tab m es q1
   rw [e1] at q2
   cases q2
   exact nO e2
  have self:∀ (m:Nat) es,m=i→(ρ.set i (some (.tab [])))[m]? = some (some (.tab es))→(σ.set i (some (.ref p)))[m]? = some (some (.ref a))→a=p:=fun m es hm q1 q2=>by
   subst hm
   rw [List.getElem?_set_self (by
    have:=(List.getElem?_eq_some_iff.mp q1).1
    simp at this;omega)] at q2
   cases q2;rfl
  by_cases hj:j=i
  ·by_cases hk:k=i
   ·rw [hj,hk]
   ·have:=self j es hj h1 h3
    subst this
    exact (other k es' hk h2 h4).elim
  ·by_cases hk:k=i
   ·have:=self k es' hk h2 h4
    subst this
    exact (other j es hj h1 h3).elim
   ·rw [List.getElem?_set_ne (Ne.symm hj)] at h1 h3
    rw [List.getElem?_set_ne (Ne.symm hk)] at h2 h4
    exact r.tinj j k es es' a h1 h2 h3 h4
theorem Rep.putTab (r:Rep K B F O H σ ρ) {i:Nat} {a:Addr} {ks ls:List (List Int)} {xs ys:List (List Key × Addr × Value)} (hi:ρ[i]? = some (some (.tab ks))) (hs:σ[i]? = some (some (.ref a))) (ha:a∈O) (hH:H a=some (.ext (tabAt a xs))) (h:Vt K (mask (F ++ O) H) ls ys) :
  Rep K B F O (upd H a (.ext (tabAt a ys))) σ (ρ.set i (some (.tab ls))):=by
 have em:mask (F ++ O) (upd H a (.ext (tabAt a ys)))=mask (F ++ O) H:=Jk (List.mem_append_right _ ha)
 have hk:i < ρ.length:=(List.getElem?_eq_some_iff.mp hi).1
 have back:∀ (m:Nat) (x:En),(∀ ks,x≠.tab ks)→(ρ.set i (some (.tab ls)))[m]? = some (some x)→ρ[m]? = some (some x):=fun m x nx q=>by
  have hm:m≠i:=fun z=>by subst z;rw [List.getElem?_set_self hk] at q;cases q;exact nx _ rfl
  rw [List.getElem?_set_ne (Ne.symm hm)] at q;exact q
 refine ⟨by simpa using r.len,fun b o e=>?_,r.fr,fun b hb e=>?_,fun j d q=>?_,fun j zs q=>?_,fun j k es' es'' b h1 h2 h3 h4=>?_,fun j zs q=>?_,fun j k es' es'' b h1 h2 h3 h4=>?_⟩
 ·rw [Aw fun z=>by rw [z,r.fr a ha] at e;cases e];exact r.base b o e
 ·by_cases z:b=a
  ·rw [z,Bl] at e;cases e
  ·rw [Aw z] at e;exact r.th b hb e
 ·rw [em];exact r.is j d (back j _ (fun _ z=>by cases z) q)
 ·obtain ⟨b,ws,e1,e2,e3,e4,e5⟩:=r.own j zs (back j _ (fun _ z=>by cases z) q)
  have nb:b≠a:=fun z=>by rw [z,hH] at e4;cases e4
  exact ⟨b,ws,e1,e2,e3,by rw [Aw nb];exact e4,by rw [em];exact e5⟩
 ·exact r.inj j k _ _ b (back j _ (fun _ z=>by cases z) h1) (back k _ (fun _ z=>by cases z) h2) h3 h4
 ·by_cases hj:j=i
  ·subst hj
   rw [List.getElem?_set_self hk] at q;cases q
   obtain ⟨b,_,e1,e2,e3,_⟩:=r.tab j ks hi
   rw [hs] at e1;cases e1
   exact ⟨a,ys,hs,ha,e3,Bl,by rw [em];exact h⟩
  ·rw [List.getElem?_set_ne (Ne.symm hj)] at q
   obtain ⟨b,ws,e1,e2,e3,e4,e5⟩:=r.tab j zs q
   have nb:b≠a:=fun z=>by subst z;exact hj (r.tinj j i zs ks b q hi e1 hs)
   exact ⟨b,ws,e1,e2,e3,by rw [Aw nb];exact e4,by rw [em];exact e5⟩
 ·have bk:∀ (m:Nat) es,(ρ.set i (some (.tab ls)))[m]? = some (some (.tab es))→∃ es',ρ[m]? = some (some (.tab es')):=fun m es q=>by
   by_cases hm:m=i
   ·subst hm;exact ⟨ks,hi⟩
   ·rw [List.getElem?_set_ne (Ne.symm hm)] at q;exact ⟨es,q⟩
  obtain ⟨_,q1⟩:=bk j es' h1
  obtain ⟨_,q2⟩:=bk k es'' h2
  exact r.tinj j k _ _ b q1 q2 h3 h4
end
section
variable {X:Cx} {e:Expr} {te:DTE} {pos:Pos}
noncomputable def tabOf (ρ:BX) (j:Nat) (k:List (List Int)→Prop):Prop:=match ρ[j]? with
 | some (some (.tab ks))=>k ks
 | _=>False
theorem tabOf.mono {ρ:BX} {j:Nat} {k k':List (List Int)→Prop} (hk:∀ ks,k ks→k' ks) (h:tabOf ρ j k):tabOf ρ j k':=by
 unfold tabOf at h ⊢
 split at h
 ·exact hk _ h
 ·exact h.elim
theorem tabOf.get {ρ:BX} {j:Nat} {k:List (List Int)→Prop} (h:tabOf ρ j k):∃ ks,ρ[j]? = some (some (.tab ks))∧k ks:=by
 unfold tabOf at h
 split at h
 ·rename_i ks e;exact ⟨ks,e,h⟩
 ·exact h.elim
noncomputable def AjW (i:Nat):DTS:=fun D ρ=>D.nx (ρ.set i (some (.tab [])))
theorem Ahn (i:Nat) {x:Str} {pos' lp:Pos} (hN:X.N.Nodup) (hi:X.N[i]? = some x:=by rfl) (hx:Loc X.env.scope x:=by first | exact Or.inl rfl | exact Or.inr rfl) (hs:swapsWith (.Dict [] [] lp) (some (.Name x pos')) pos.line X.env=pure false:=by rfl)
  (hf:X.fn x=true∨X.env.scope.names.lookup x=some .local:=by first | exact .inl rfl | exact .inr rfl | assumption):DS X (.Assign [.Name x pos'] (.Dict [] [] lp) pos) (AjW i) where
 mono:=fun hd h=>hd.nx _ h
 ps:=(WK hN hi hx Zy hs hf).imp fun D σ H ⟨B,F,O,ρ,R,h⟩ p hp=>h (p :: O) _ _ (R.newTab i hp)
noncomputable def SX (j:Nat) (te:DTE):DTE:=fun ρ Q=>te ρ fun d=>∃ k,d=Dn k∧tabOf ρ j fun ks=>Q (.bl (!decide (k∈ks)))
theorem Tn {K:PySem.W.Frag} {H:Hp} {k:List Int} {v:V} (r:Rp K H (Dn k) v):∃ b,v=.ref b∧SqT K H b (k.map V.int):=by
 obtain ⟨b,ys,rfl,ht,hy⟩:=CP.mp r
 obtain rfl:=Lp hy
 exact ⟨b,rfl,ht⟩
theorem Abw (j:Nat) {x:Str} {px:Pos} (hu:X.A.units+1 < cLine) (he:DE X e te) (hN:X.N[j]? = some x:=by rfl) (hv:Vis X.env.scope x:=by first | exact Or.inl rfl | exact Or.inr (Or.inl rfl) | exact Or.inr (Or.inr rfl)) (hd:(x == ("__debug__":Str))=false:=by decide)
  (hcd:(x == ("__classdict__":Str))=false:=by decide) (hm:behindInMarks .NotIn (.Name x px)=false:=by rfl):DE X (.Compare e [.NotIn] [.Name x px] pos) (SX j te) where
 mono:=fun hq h=>he.mono (fun d ⟨k,e,h⟩=>⟨k,e,h.mono fun ks h=>hq _ h⟩) h
 pe:=(X4 (Wj hu) he.pe (HD hN hv hd hcd) hm).imp fun σ H Q ⟨B,F,O,ρ,R,h⟩=>by
  refine ⟨B,F,O,ρ,R,he.mono (fun d ⟨k,ed,h⟩ v H1 s1 r1=>?_) h⟩
  obtain ⟨ks,e1,h⟩:=h.get
  obtain ⟨a,xs,h1,h2,h3,h4,h5⟩:=(R.same s1).tab j ks e1
  subst ed
  obtain ⟨b,rfl,hb⟩:=Tn r1
  exact ⟨_,h1,a,b,ks,xs,k,rfl,rfl,h4,h5.mono Bf,Bf.seqT hb,h _ H1 s1 (Eb.mpr rfl)⟩
theorem un1 {A:Around} (h:A.units+64 < cLine):A.units+1 < cLine:=by omega
theorem Aba (j:Nat) {x:Str} {px:Pos} (hu:X.A.units+1 < cLine) (he:DE X e te) (hN:X.N[j]? = some x:=by rfl) (hv:Vis X.env.scope x:=by first | exact Or.inl rfl | exact Or.inr (Or.inl rfl) | exact Or.inr (Or.inr rfl)) (hd:(x == ("__debug__":Str))=false:=by decide)
  (hcd:(x == ("__classdict__":Str))=false:=by decide) (hm:behindInMarks .NotIn (.Name x px)=false:=by rfl):DT X (.Compare e [.NotIn] [.Name x px] pos) (LC (SX j te)) where
 mono:=M9 (t:=SX j te) (Abw (pos:=pos) (px:=px) j hu he hN hv hd hcd hm).mono
 pt:=(YK (Wj hu) he.pe (HD hN hv hd hcd) hm).imp fun σ H Q ⟨B,F,O,ρ,R,h⟩=>by
  refine ⟨B,F,O,ρ,R,he.mono (fun d ⟨k,ed,h⟩ v H1 s1 r1=>?_) h⟩
  obtain ⟨ks,e1,h⟩:=h.get
  obtain ⟨a,xs,h1,h2,h3,h4,h5⟩:=(R.same s1).tab j ks e1
  subst ed
  obtain ⟨b,rfl,hb⟩:=Tn r1
  exact ⟨_,h1,a,b,ks,xs,k,rfl,rfl,h4,h5.mono Bf,Bf.seqT hb,_,rfl,h H1 s1⟩
noncomputable def YQ (j:Nat) (tv te:DTE):DTS:=fun D ρ=>tv ρ fun v=>(∃ t,v=.bl t)∧tabOf ρ j fun ks=>te ρ fun d=>∃ k,d=Dn k∧ks.length≤sizeLine∧D.nx (ρ.set j (some (.tab (Jz k ks))))
theorem ZV (j:Nat) {x:Str} {v:Expr} {tv:DTE} {px sp:Pos} (hu:X.A.units+1 < cLine) (hvv:DE X v tv) (he:DE X e te) (hN:X.N[j]? = some x:=by rfl) (hv:Vis X.env.scope x:=by first | exact Or.inl rfl | exact Or.inr (Or.inl rfl) | exact Or.inr (Or.inr rfl)) (hd:(x == ("__debug__":Str))=false:=by decide)
  (hcd:(x == ("__classdict__":Str))=false:=by decide) (hs:swapsWithSole [.Subscript (.Name x px) e sp] v pos.line X.env=pure false:=by rfl) (hw:swappedStores [.Subscript (.Name x px) e sp] v X.env=pure none:=by rfl)
  (h1:(assignEach [.Subscript (.Name x px) e sp] X.env).map (·.2)=[assign (.Subscript (.Name x px) e sp) X.env]:=by rfl)
  (hag:∀ v,assign (.Subscript (.Name x px) e sp) X.env v=(holding [v] (eval (.Name x px) X.env) >>= fun ov=>holding [v,ov] (eval e X.env) >>= fun iv=>standAt sp >>= fun _=>holding [v,ov,iv] (setItem ov iv v) >>= fun _=>release [v,ov,iv] []):=by intro _;rfl):DS X (.Assign [.Subscript (.Name x px) e sp] v pos) (YQ j tv te) where
 mono:=fun hd h=>hvv.mono (fun v ⟨hv,h⟩=>⟨hv,h.mono fun ks h=>he.mono (fun d ⟨k,e,z,h⟩=>⟨k,e,z,hd.nx _ h⟩) h⟩) h
 ps:=(Aai hvv.pe (Agq (HD hN hv hd hcd) he.pe (Acm hu) hag) hs hw h1).imp fun D σ H ⟨B,F,O,ρ,R,h⟩=>⟨B,F,O,ρ,R,hvv.mono (fun d ⟨hv,h⟩ v H1 s1 r1=>by
  obtain ⟨t,rfl⟩:=hv
  have R1:=R.same s1
  obtain ⟨ks,e1,h⟩:=h.get
  obtain ⟨a0,_,ha0,_⟩:=R1.tab j ks e1
  refine ⟨_,ha0,B,F,O,ρ,R1,he.mono (fun d ⟨k,ed,hz,h⟩ w H2 s2 r2=>?_) h⟩
  obtain ⟨a,xs,h1,h2,h3,h4,h5⟩:=(R1.same s2).tab j ks e1
  rw [ha0] at h1
  cases h1
  subst ed
  obtain ⟨b,rfl,hb⟩:=Tn r2
  refine ⟨a0,b,t,ks,xs,k,rfl,rfl,Eb.mp r1,h4,h5.mono Bf,hz,Bf.seqT hb,fun xs' k1 k2=>h O σ _ ((R1.same s2).putTab e1 ha0 h2 h4 ⟨k1,fun x hx=>?_⟩)⟩
  rcases k2 x hx with ⟨y,hy,y1,y2⟩ | ⟨y1,y2⟩
  ·rw [←y1,←y2]
   exact h5.2 y hy
  ·rw [y1,y2,AbI]
   exact hb) h⟩
end
end L2
namespace L2
open PySem PySem.Spec PyProof.Rows
variable {X:Cx} {a b:Expr} {ta tb:DTE} {pos:Pos}
end L2
namespace My
open PySem L2
noncomputable abbrev Ub:DSp:=Afb
noncomputable abbrev I4:=Int × Int × Int × Int
noncomputable abbrev I2:=Int × Int
noncomputable abbrev t4 (p:I4):Dt:=T4 p.1 p.2.1 p.2.2.1 p.2.2.2
noncomputable abbrev t2 (p:I2):Dt:=T2 p.1 p.2
noncomputable def B4 (n:Nat) (p:I4):Prop:=Bt n p.1∧Bt n p.2.1∧Bt n p.2.2.1∧Bt n p.2.2.2
noncomputable def B2 (n:Nat) (p:I2):Prop:=Bt n p.1∧Bt n p.2
noncomputable def det (p:I4):Int:=p.1*p.2.2.2 - p.2.1*p.2.2.1
noncomputable def HS (t:I4) (p:I2):I2:=(t.1*p.1+t.2.1*p.2,t.2.2.1*p.1+t.2.2.2*p.2)
noncomputable def Am (a b:I4):I4:=(a.1*b.1+a.2.1*b.2.2.1,a.1*b.2.1+a.2.1*b.2.2.2,a.2.2.1*b.1+a.2.2.2*b.2.2.1,a.2.2.1*b.2.1+a.2.2.2*b.2.2.2)
noncomputable def Ar (t:I4):I4:=(t.2.2.2,-t.2.1,-t.2.2.1,t.1)
theorem B4.le {n m:Nat} {t:I4} (h:B4 n t) (l:n≤m):B4 m t:=⟨h.1.le l,h.2.1.le l,h.2.2.1.le l,h.2.2.2.le l⟩
theorem B4.back {n:Nat} {t:I4} (h:B4 n t):B4 n (Ar t):=⟨h.2.2.2,h.2.1.neg,h.2.2.1.neg,h.1⟩
theorem B2.led {n m:Nat} {t:I4} {p:I2} (h:B4 n t) (q:B2 m p):B2 (n+m+1) (HS t p) :=
 ⟨((h.1.mul q.1).add (h.2.1.mul q.2)).le (by omega),((h.2.2.1.mul q.1).add (h.2.2.2.mul q.2)).le (by omega)⟩
theorem B4.then {n m:Nat} {t u:I4} (h:B4 n t) (q:B4 m u):B4 (n+m+1) (Am t u) :=
 ⟨((h.1.mul q.1).add (h.2.1.mul q.2.2.1)).le (by omega),((h.1.mul q.2.1).add (h.2.1.mul q.2.2.2)).le (by omega),((h.2.2.1.mul q.1).add (h.2.2.2.mul q.2.2.1)).le (by omega),((h.2.2.1.mul q.2.1).add (h.2.2.2.mul q.2.2.2)).le (by omega)⟩
theorem Ec {t:I4}:det (Ar t)=det t:=by obtain ⟨a,b,c,d⟩:=t;simp only [det,Ar];grind
theorem Cq {t u:I4}:det (Am t u)=det t*det u:=by obtain ⟨a,b,c,d⟩:=t;obtain ⟨e,f,g,h⟩:=u;simp only [det,Am];grind
theorem Kc {t:I4} (h:det t=1):Am t (Ar t)=(1,0,0,1):=by
 obtain ⟨a,b,c,d⟩:=t
 simp only [det,Am,Ar,Prod.mk.injEq] at *
 refine ⟨?_,?_,?_,?_⟩ <;> grind
theorem Rr {t:I4} (h:det t=1):Am (Ar t) t=(1,0,0,1):=by
 obtain ⟨a,b,c,d⟩:=t
 simp only [det,Am,Ar,Prod.mk.injEq] at *
 refine ⟨?_,?_,?_,?_⟩ <;> grind
noncomputable abbrev I3:=Int × Int × Int
noncomputable abbrev t3 (p:I3):Dt:=T3 p.1 p.2.1 p.2.2
noncomputable def B3 (n:Nat) (p:I3):Prop:=Bt n p.1∧Bt n p.2.1∧Bt n p.2.2
theorem B3.le {n m:Nat} {t:I3} (h:B3 n t) (l:n≤m):B3 m t:=⟨h.1.le l,h.2.1.le l,h.2.2.le l⟩
noncomputable def meas (f:I3):Int:=f.2.1*f.2.1 - 4*f.1*f.2.2
noncomputable def val (f:I3) (p:I2):Int:=f.1*p.1*p.1+f.2.1*p.1*p.2+f.2.2*p.2*p.2
noncomputable def mid (f:I3) (l r:I2):Int:=2*f.1*l.1*r.1+f.2.1*(l.1*r.2+r.1*l.2)+2*f.2.2*l.2*r.2
noncomputable def mov (f:I3) (t:I4):I3:=(val f (t.1,t.2.2.1),mid f (t.1,t.2.2.1) (t.2.1,t.2.2.2),val f (t.2.1,t.2.2.2))
theorem Ala {f:I3} {t:I4} {p:I2}:val (mov f t) p=val f (HS t p):=by
 obtain ⟨a,b,c⟩:=f;obtain ⟨e,g,h,i⟩:=t;obtain ⟨x,y⟩:=p
 simp only [val,mov,mid,HS];grind
theorem Bs {f:I3} {t:I4} (h:det t=1):meas (mov f t)=meas f:=by
 obtain ⟨a,b,c⟩:=f;obtain ⟨e,g,i,j⟩:=t
 simp only [det] at h
 have e1:meas (mov (a,b,c) (e,g,i,j))=(e*j - g*i)*(e*j - g*i)*meas (a,b,c):=by simp only [meas,mov,val,mid];grind
 rw [e1,h];simp
theorem Bk {f:I3} {t u:I4}:mov (mov f t) u=mov f (Am t u):=by
 obtain ⟨a,b,c⟩:=f;obtain ⟨e,g,i,j⟩:=t;obtain ⟨k,l,m,n⟩:=u
 simp only [mov,val,mid,Am,Prod.mk.injEq]
 refine ⟨?_,?_,?_⟩ <;> grind
theorem Bq {f:I3}:mov f (1,0,0,1)=f:=by
 obtain ⟨a,b,c⟩:=f
 simp only [mov,val,mid,Prod.mk.injEq]
 refine ⟨?_,?_,?_⟩ <;> grind
theorem B3.mov {f:I3} {t:I4} {n m:Nat} (hf:B3 n f) (ht:B4 m t):B3 (n+m+m+5) (mov f t):=by
 obtain ⟨a,b,c⟩:=f;obtain ⟨e,g,i,j⟩:=t
 obtain ⟨ha,hb,hc⟩:=hf
 obtain ⟨he,hg,hi,hj⟩:=ht
 have h2:Bt 2 2:=Bt.of_abs (by decide)
 refine ⟨?_,?_,?_⟩
 ·exact ((((ha.mul he).mul he).add ((hb.mul he).mul hi)).add ((hc.mul hi).mul hi)).le (by omega)
 ·exact (((((h2.mul ha).mul he).mul hg).add (hb.mul ((he.mul hj).add (hg.mul hi)))).add (((h2.mul hc).mul hi).mul hj)).le (by omega)
 ·exact ((((ha.mul hg).mul hg).add ((hb.mul hg).mul hj)).add ((hc.mul hj).mul hj)).le (by omega)
noncomputable def Sq (n r:Int):Prop:=0≤r∧r*r≤n∧n < (r+1)*(r+1)
theorem Sq.uniq {n r s:Int} (a:Sq n r) (b:Sq n s):r=s:=by
 obtain ⟨a0,a1,a2⟩:=a
 obtain ⟨b0,b1,b2⟩:=b
 rcases Int.lt_trichotomy r s with h | h | h
 ·have:=Int.mul_le_mul (show r+1≤s by omega) (show r+1≤s by omega) (by omega) b0
  omega
 ·exact h
 ·have:=Int.mul_le_mul (show s+1≤r by omega) (show s+1≤r by omega) (by omega) a0
  omega
theorem RN {n g:Int} (hn:0≤n) (hg:0 < g):n < ((g+n / g) / 2+1)*((g+n / g) / 2+1):=by
 have h1:n < g*(n / g)+g:=Int.lt_mul_ediv_self_add hg
 have h0:0≤n / g:=Int.ediv_nonneg hn (by omega)
 generalize n / g=q at *
 have hb:g+q≤2*((g+q) / 2)+1:=by omega
 have hb0:0≤(g+q) / 2:=by omega
 generalize (g+q) / 2=b at *
 have z1:0≤(g - q - 1)*(g - q - 1):=by
  rcases Int.le_total 0 (g - q - 1) with h | h
  ·exact Int.mul_nonneg h h
  ·exact Int.mul_nonneg_of_nonpos_of_nonpos h h
 have z2:(g+q+1)*(g+q+1)=(g - q - 1)*(g - q - 1)+4*(g*q+g):=by grind
 have z3:(g+q+1)*(g+q+1)≤(2*(b+1))*(2*(b+1)):=Int.mul_le_mul (by omega) (by omega) (by omega) (by omega)
 have z4:(2*(b+1))*(2*(b+1))=4*((b+1)*(b+1)):=by grind
 omega
theorem XJ {n g:Int} (hg:0 < g) (h:g≤(g+n / g) / 2):g*g≤n:=by
 have h1:g*(n / g)≤n:=Int.mul_ediv_self_le (by omega)
 have h2:g≤n / g:=by omega
 have:=Int.mul_le_mul_of_nonneg_left h2 (show 0≤g by omega)
 omega
theorem Wa {n g:Int} (hg:0 < g) (h:n < g*g):(g+n / g) / 2 < g:=by
 have h2:n / g < g:=Int.ediv_lt_of_lt_mul hg (by rw [Int.mul_comm] at h;exact h)
 omega
theorem WD {n g:Int} (hn:1≤n) (hg:0 < g):0 < (g+n / g) / 2:=by
 have h0:0≤n / g:=Int.ediv_nonneg (by omega) (by omega)
 rcases Int.lt_or_le g 2 with h | h
 ·have:g=1:=by omega
  subst this
  rw [Int.ediv_one];omega
 ·omega
theorem Vm {n:Int} (hn:0≤n):n < (1*2 ^ ((((Builtin.Int.intBits n:Nat):Int)+1).fdiv 2).toNat+1)*(1*2 ^ ((((Builtin.Int.intBits n:Nat):Int)+1).fdiv 2).toNat+1):=by
 have h1:n.natAbs < 2 ^ Builtin.Int.intBits n:=intBits_le_iff.mp (Nat.le_refl _)
 generalize Builtin.Int.intBits n=b at *
 have e:((((b:Nat):Int)+1).fdiv 2).toNat=(b+1) / 2:=by
  rw [Int.fdiv_eq_ediv_of_nonneg _ (by decide)];omega
 rw [e]
 generalize hk:(b+1) / 2=k
 have h2:2 ^ b≤2 ^ k*2 ^ k:=by rw [←Nat.pow_add];exact Nat.pow_le_pow_right (by decide) (by omega)
 have h3:n < ((2 ^ k*2 ^ k:Nat):Int):=by omega
 have h4:((2 ^ k*2 ^ k:Nat):Int)=(2 ^ k:Int)*2 ^ k:=by push_cast;rfl
 rw [h4] at h3
 have h5:(0:Int)≤2 ^ k:=Int.pow_nonneg (by decide)
 generalize (2 ^ k:Int)=z at *
 have:(1*z+1)*(1*z+1)=z*z+2*z+1:=by grind
 omega
theorem Nt {n:Int} (h:Bt 4000 n):AcI 1 ((((Builtin.Int.intBits n:Nat):Int)+1).fdiv 2)∧Bt 2001 (1*2 ^ ((((Builtin.Int.intBits n:Nat):Int)+1).fdiv 2).toNat)∧0 < (1*2 ^ ((((Builtin.Int.intBits n:Nat):Int)+1).fdiv 2).toNat:Int):=by
 have hb:Builtin.Int.intBits n≤4000:=intBits_le_iff.mpr h
 generalize Builtin.Int.intBits n=b at *
 rw [Int.fdiv_eq_ediv_of_nonneg _ (by decide)]
 refine ⟨⟨by omega,by omega,by decide⟩,?_,?_⟩
 ·have e:(((b:Int)+1) / 2).toNat≤2000:=by omega
  generalize (((b:Int)+1) / 2).toNat=k at *
  unfold Bt
  rw [Int.one_mul,Int.natAbs_pow]
  exact Nat.pow_lt_pow_right (by decide) (by omega)
 ·rw [Int.one_mul]
  exact Int.pow_pos (by decide)
theorem Tw {n g:Int} (hg:0 < g):(g+n.fdiv g).fdiv 2=(g+n / g) / 2:=by
 rw [Int.fdiv_eq_ediv_of_nonneg _ (by decide),Int.fdiv_eq_ediv_of_nonneg _ (by omega)]
noncomputable def Hs (n:Int):Prop:=∃ r:Int,r*r=n
theorem Uy {n r:Int} (h:Sq n r):Hs n↔r*r=n:=by
 refine ⟨fun ⟨s,e⟩=>?_,fun e=>⟨r,e⟩⟩
 have hs:Sq n (s.natAbs:Int):=by
  have e2:(s.natAbs:Int)*(s.natAbs:Int)=n:=(Int.natAbs_mul_self' s).trans e
  refine ⟨by omega,by omega,?_⟩
  have:((s.natAbs:Int)+1)*((s.natAbs:Int)+1)=(s.natAbs:Int)*(s.natAbs:Int)+2*(s.natAbs:Int)+1:=by grind
  omega
 rw [h.uniq hs]
 exact (Int.natAbs_mul_self' s).trans e
theorem Lq {n:Int} (h:n < 0):¬ Hs n:=fun ⟨r,e⟩=>by
 have:0≤r*r:=by
  rcases Int.le_total 0 r with h | h
  ·exact Int.mul_nonneg h h
  ·exact Int.mul_nonneg_of_nonpos_of_nonpos h h
 omega
noncomputable abbrev J2:DSp:=spec (fun n:Int=>[.int n]) (fun n=>0≤n∧Bt 4000 n) fun n d=>∃ r,d=.int r∧Sq n r∧Bt 2001 r
noncomputable abbrev Jh:DSp:=spec (fun n:Int=>[.int n]) (fun n=>Bt 4000 n) fun n d=>∃ b:Bool,d=.bl b∧(b=true↔Hs n)
theorem DQ (a b:Int):a.fmod b=a - b*a.fdiv b:=Int.fmod_def a b
theorem Kg {a b:Int} (h:b≠0):(a.fmod b).natAbs < b.natAbs:=by
 rcases Int.lt_or_lt_of_ne h with h | h
 ·have e:a.fmod b=-((-a).fmod (-b)):=by rw [DQ,DQ,Int.neg_fdiv_neg];grind
  have h1:=Int.fmod_nonneg_of_pos (-a) (show 0 < -b by omega)
  have h2:=Int.fmod_lt_of_pos (-a) (show 0 < -b by omega)
  omega
 ·have h1:=Int.fmod_nonneg_of_pos a h
  have h2:=Int.fmod_lt_of_pos a h
  omega
theorem Qo (a b:Int):Int.gcd b (a.fmod b)=Int.gcd a b:=by
 rw [DQ]
 have:a - b*a.fdiv b=a+b*(-(a.fdiv b)):=by grind
 rw [this,Int.gcd_comm]
 first
  | rw [Int.gcd_add_mul_left_left]
  | simp
theorem K3 {n:Nat} {a b:Int} (ha:Bt n a) (hb:Bt n b):Bt n ((Int.gcd a b:Nat):Int):=by
 unfold Bt at *
 rw [Int.natAbs_natCast]
 by_cases h:a=0
 ·subst h;rw [Int.gcd_zero_left];exact hb
 ·have:=Int.gcd_le_natAbs_left b h
  omega
noncomputable def g3 (f:I3):Nat:=Int.gcd ((Int.gcd f.1 f.2.1:Nat):Int) f.2.2
theorem AcG {f:I3} (h:g3 f=0):f=(0,0,0):=by
 obtain ⟨a,b,c⟩:=f
 have h1:=Int.gcd_eq_zero_iff.mp h
 have h2:=Int.gcd_eq_zero_iff.mp (show Int.gcd a b=0 by have:=h1.1;simp only at this;omega)
 have h3:c=0:=h1.2
 rw [h2.1,h2.2,h3]
theorem W7 (f:I3):(g3 f:Int)∣f.1∧(g3 f:Int)∣f.2.1∧(g3 f:Int)∣f.2.2:=by
 have h1:(g3 f:Int)∣((Int.gcd f.1 f.2.1:Nat):Int):=Int.gcd_dvd_left _ _
 exact ⟨Int.dvd_trans h1 (Int.gcd_dvd_left _ _),Int.dvd_trans h1 (Int.gcd_dvd_right _ _),Int.gcd_dvd_right _ _⟩
inductive Aah (f:I3):Dt→Prop
 | flat:Hs (meas f)→Aah f (.str "flat")
 | saddle:¬ Hs (meas f)→0 < meas f→Aah f (.str "saddle")
 | bowl:¬ Hs (meas f)→¬ 0 < meas f→0 < f.1→Aah f (.str "bowl")
 | dome:¬ Hs (meas f)→¬ 0 < meas f→¬ 0 < f.1→Aah f (.str "dome")
noncomputable def Pt (x y:Int):Prop:=¬ (x=0∧y=0)
structure Dp (f:I3):Prop where
 pos:0 < f.1
 lo:-f.1≤f.2.1
 hi:f.2.1≤f.1
 ac:f.1≤f.2.2
 edge:f.2.1=-f.1∨f.1=f.2.2→0≤f.2.1
theorem sq_pos {x:Int} (h:x≠0):1≤x*x:=by
 rcases Int.lt_or_lt_of_ne h with h | h
 ·have:=Int.mul_le_mul_of_nonneg_left (show 1≤-x by omega) (show 0≤-x by omega)
  have e:(-x)*(-x)=x*x:=by grind
  omega
 ·have:=Int.mul_le_mul_of_nonneg_left (show 1≤x by omega) (show 0≤x by omega)
  omega
theorem YM {a b c x y:Int} (ha:0 < a) (h1:-a≤b) (h2:b≤a) (hc:a≤c) (hx:x≠0) (hy:y≠0):c≤val (a,b,c) (x,y):=by
 have key:∀ X Y B:Int,1≤X→1≤Y→0≤B→B≤a→a+c - B≤a*(X*X) - B*(X*Y)+c*(Y*Y):=fun X Y B hX hY hB0 hB=>by
  have sX:1≤X*X:=sq_pos (by omega)
  have sY:1≤Y*Y:=sq_pos (by omega)
  rcases Int.le_total Y X with h | h
  ·have z1:X*Y≤X*X:=Int.mul_le_mul_of_nonneg_left h (by omega)
   have z2:B*(X*Y)≤B*(X*X):=Int.mul_le_mul_of_nonneg_left z1 hB0
   have z3:(a - B)*1≤(a - B)*(X*X):=Int.mul_le_mul_of_nonneg_left sX (by omega)
   have z4:c*1≤c*(Y*Y):=Int.mul_le_mul_of_nonneg_left sY (by omega)
   have z5:(a - B)*(X*X)=a*(X*X) - B*(X*X):=by grind
   omega
  ·have z1:X*Y≤Y*Y:=Int.mul_le_mul_of_nonneg_right h (by omega)
   have z2:B*(X*Y)≤B*(Y*Y):=Int.mul_le_mul_of_nonneg_left z1 hB0
   have z3:(c - B)*1≤(c - B)*(Y*Y):=Int.mul_le_mul_of_nonneg_left sY (by omega)
   have z4:a*1≤a*(X*X):=Int.mul_le_mul_of_nonneg_left sX (by omega)
   have z5:(c - B)*(Y*Y)=c*(Y*Y) - B*(Y*Y):=by grind
   omega
 have hX:1≤(x.natAbs:Int):=by omega
 have hY:1≤(y.natAbs:Int):=by omega
 have k:=key x.natAbs y.natAbs b.natAbs hX hY (by omega) (by omega)
 have e1:(x.natAbs:Int)*x.natAbs=x*x:=Int.natAbs_mul_self' x
 have e2:(y.natAbs:Int)*y.natAbs=y*y:=Int.natAbs_mul_self' y
 have e3:-((b.natAbs:Int)*((x.natAbs:Int)*y.natAbs))≤b*(x*y):=by
  have:((b.natAbs:Int)*((x.natAbs:Int)*y.natAbs))=((b*(x*y)).natAbs:Int):=by rw [Int.natAbs_mul,Int.natAbs_mul];push_cast;rfl
  rw [this];omega
 rw [e1,e2] at k
 have e4:val (a,b,c) (x,y)=a*(x*x)+b*(x*y)+c*(y*y):=by simp only [val];grind
 rw [e4]
 omega
theorem KR {a b c x:Int}:val (a,b,c) (x,0)=a*(x*x):=by simp only [val];grind
theorem Xw {a b c y:Int}:val (a,b,c) (0,y)=c*(y*y):=by simp only [val];grind
theorem Dp.min {f:I3} (L:Dp f) {x y:Int} (h:Pt x y):f.1≤val f (x,y):=by
 obtain ⟨a,b,c⟩:=f
 obtain ⟨h0,h1,h2,h3,_⟩:=L
 simp only at h0 h1 h2 h3 ⊢
 by_cases hy:y=0
 ·subst hy
  have hx:x≠0:=fun z=>h ⟨z,rfl⟩
  rw [KR]
  have:=Int.mul_le_mul_of_nonneg_left (sq_pos hx) (show 0≤a by omega)
  omega
 ·by_cases hx:x=0
  ·subst hx
   rw [Xw]
   have:=Int.mul_le_mul_of_nonneg_left (sq_pos hy) (show 0≤c by omega)
   omega
  ·have:=YM h0 h1 h2 h3 hx hy
   omega
theorem Dp.low {f:I3} (L:Dp f) {x y:Int} (h:val f (x,y) < f.2.2):y=0:=by
 obtain ⟨a,b,c⟩:=f
 obtain ⟨h0,h1,h2,h3,_⟩:=L
 simp only at h0 h1 h2 h3 h ⊢
 by_cases hy:y=0
 ·exact hy
 ·exfalso
  by_cases hx:x=0
  ·subst hx
   rw [Xw] at h
   have:=Int.mul_le_mul_of_nonneg_left (sq_pos hy) (show 0≤c by omega)
   omega
  ·have:=YM h0 h1 h2 h3 hx hy
   omega
theorem Ab1 {t:I4} (h:det t=1):Pt t.1 t.2.2.1:=fun ⟨h1,h2⟩=>by
 obtain ⟨p,q,r,s⟩:=t
 simp only [det] at h h1 h2
 rw [h1,h2] at h
 simp at h
theorem Bw {f:I3} {t:I4} (h:det t=1):mov (mov f t) (Ar t)=f:=by rw [Bk,Kc h,Bq]
theorem Zq {x:Int} (h:x*x=1):x=1∨x=-1:=by
 rcases Int.lt_or_le x 0 with z | z
 ·have:(-x)*(-x)=1:=by grind
  rcases Int.lt_or_le (-x) 2 with w | w
  ·exact .inr (by omega)
  ·have:=Int.mul_le_mul w w (by decide) (by omega)
   omega
 ·rcases Int.lt_or_le x 2 with w | w
  ·rcases Int.lt_or_le x 1 with v | v
   ·have:x=0:=by omega
    rw [this] at h;simp at h
   ·exact .inl (by omega)
  ·have:=Int.mul_le_mul w w (by decide) z
   omega
theorem Dp.fix {f:I3} {t:I4} (L:Dp f) (M:Dp (mov f t)) (h:det t=1) (ha:(mov f t).1=f.1) (hc:f.1 < f.2.2):t=(1,0,0,1)∨t=(-1,0,0,-1):=by
 obtain ⟨a,b,c⟩:=f
 obtain ⟨p,q,r,s⟩:=t
 have e1:(mov (a,b,c) (p,q,r,s)).1=val (a,b,c) (p,r):=rfl
 have hr:r=0:=L.low (x:=p) (by rw [←e1,ha];exact hc)
 subst hr
 rw [e1,KR] at ha
 have h0:0 < a:=L.pos
 simp only at ha
 have hpp:p*p=1:=by
  have:a*(p*p)=a*1:=by rw [ha];omega
  exact Int.eq_of_mul_eq_mul_left (by omega) this
 have hps:p*s=1:=by simp only [det] at h;omega
 have hb:(mov (a,b,c) (p,q,0,s)).2.1=2*(a*(p*q))+b:=by
  show 2*a*p*q+b*(p*s+q*0)+2*c*0*s=_
  rw [hps];grind
 have m1:-a≤2*(a*(p*q))+b:=by
  have:=M.lo
  rw [hb,e1,KR,hpp] at this
  omega
 have m2:2*(a*(p*q))+b≤a:=by
  have:=M.hi
  rw [hb,e1,KR,hpp] at this
  omega
 have m3:2*(a*(p*q))+b=-a→0≤2*(a*(p*q))+b:=fun z=>by
  have:=M.edge (.inl (by rw [hb,e1,KR,hpp];omega))
  rw [hb] at this
  exact this
 have l1:-a≤b:=L.lo
 have l2:b≤a:=L.hi
 have l3:b=-a→0≤b:=fun z=>L.edge (.inl z)
 have hq:p*q=0:=by
  generalize p*q=k at *
  rcases Int.lt_trichotomy k 0 with z | z | z
  ·have:=Int.mul_le_mul_of_nonneg_left (show k≤-1 by omega) (show 0≤a by omega)
   omega
  ·exact z
  ·have:=Int.mul_le_mul_of_nonneg_left (show 1≤k by omega) (show 0≤a by omega)
   omega
 rcases Zq hpp with rfl | rfl
 ·have h1:q=0:=by omega
  have h2:s=1:=by omega
  rw [h1,h2];exact .inl rfl
 ·have h1:q=0:=by omega
  have h2:s=-1:=by omega
  rw [h1,h2];exact .inr rfl
theorem Dp.one {f:I3} {t:I4} (L:Dp f) (M:Dp (mov f t)) (h:det t=1):mov f t=f:=by
 have d1:f.1≤(mov f t).1:=by
  have e1:(mov f t).1=val f (t.1,t.2.2.1):=rfl
  rw [e1];exact L.min (Ab1 h)
 have hk:det (Ar t)=1:=Ec.trans h
 have d2:(mov f t).1≤f.1:=by
  have:=M.min (Ab1 hk)
  have e1:(mov (mov f t) (Ar t)).1=val (mov f t) ((Ar t).1,(Ar t).2.2.1):=rfl
  rw [←e1,Bw h] at this
  exact this
 have ha:(mov f t).1=f.1:=by omega
 have hm:=Bs (f:=f) h
 by_cases hc:f.1 < f.2.2
 ·rcases L.fix M h ha hc with e | e
  ·rw [e,Bq]
  ·rw [e]
   obtain ⟨a,b,c⟩:=f
   simp only [mov,val,mid,Prod.mk.injEq]
   refine ⟨?_,?_,?_⟩ <;> grind
 ·by_cases hc':(mov f t).1 < (mov f t).2.2
  ·exfalso
   have L':Dp (mov (mov f t) (Ar t)):=by rw [Bw h];exact L
   have ha':(mov (mov f t) (Ar t)).1=(mov f t).1:=by rw [Bw h];exact ha.symm
   rcases M.fix L' hk ha' hc' with e | e
   ·have:f=mov f t:=by
     have z:=Bw (f:=f) h
     rw [e,Bq] at z
     exact z.symm
    rw [←this] at hc'
    exact hc hc'
   ·have:f=mov f t:=by
     have z:=Bw (f:=f) h
     rw [e] at z
     have z2:mov (mov f t) (-1,0,0,-1)=mov f t:=by
      obtain ⟨a,b,c⟩:=mov f t
      simp only [mov,val,mid,Prod.mk.injEq]
      refine ⟨?_,?_,?_⟩ <;> grind
     rw [z2] at z
     exact z.symm
    rw [←this] at hc'
    exact hc hc'
  ·have l3:=L.ac
   have m3:=M.ac
   have l5:=L.edge (.inr (by omega))
   have m5:=M.edge (.inr (by omega))
   have l0:=L.pos
   have e2:f.2.2=f.1:=by omega
   have e3:(mov f t).2.2=f.1:=by omega
   generalize mov f t=g at *
   obtain ⟨a,b,c⟩:=f
   obtain ⟨a',b',c'⟩:=g
   simp only at *
   subst ha e2 e3
   simp only [meas] at hm
   have hbb:b'*b'=b*b:=by omega
   have:b'=b:=by
    rcases Int.lt_trichotomy b' b with z | z | z
    ·have z1:b'*b'≤b'*b:=Int.mul_le_mul_of_nonneg_left (by omega) m5
     have z2:b'*b < b*b:=Int.mul_lt_mul_of_pos_right z (by omega)
     omega
    ·exact z
    ·have z1:b*b≤b*b':=Int.mul_le_mul_of_nonneg_left (by omega) l5
     have z2:b*b' < b'*b':=Int.mul_lt_mul_of_pos_right z (by omega)
     omega
   rw [this]
theorem AaN (ns:List Int) (lo hi:Option Int):∃ cs:List Int,cutD (ns.map Dt.int) lo hi=cs.map Dt.int∧cs.length≤ns.length:=by
 refine ⟨(ns.drop (HT.sIx (ns.map Dt.int).length 0 lo)).take (HT.sIx (ns.map Dt.int).length (ns.map Dt.int).length hi - HT.sIx (ns.map Dt.int).length 0 lo),by unfold cutD;rw [List.map_take,List.map_drop],?_⟩
 rw [List.length_take,List.length_drop];omega
theorem Aad {ds:List Dt} {k:Int} (h0:0≤k) (h1:k < ds.length):∃ d,ixD k (.lst ds)=some d∧ixL k ds=some d∧ds[k.toNat]? = some d:=by
 obtain ⟨j,rfl⟩:=Int.eq_ofNat_of_zero_le h0
 have hj:j < ds.length:=by omega
 have e:ds[j]? = some ds[j]:=by simp [hj]
 exact ⟨_,e,e,e⟩
theorem FQ (x:Int) {m:Int} (h:0 < m):0≤x.fmod m∧x.fmod m < m:=⟨Int.fmod_nonneg_of_pos x h,Int.fmod_lt_of_pos x h⟩
theorem sq_nonneg (x:Int):0≤x*x:=by
 rcases Int.le_total 0 x with h | h
 ·exact Int.mul_nonneg h h
 ·exact Int.mul_nonneg_of_nonpos_of_nonpos h h
end My
namespace My
open PySem L2
noncomputable def Bo (f:I3):Prop:=0 < f.1∧meas f < 0
noncomputable def stands (f:I3):Bool:=decide (-f.1≤f.2.1∧f.2.1≤f.1∧f.1≤f.2.2) && (decide (0≤f.2.1) || (decide (f.2.1≠-f.1) && decide (f.1≠f.2.2)))
theorem Bb {f:I3} (h:0 < f.1) (s:stands f=true):Dp f:=by
 simp only [stands,Bool.and_eq_true,Bool.or_eq_true,decide_eq_true_eq] at s
 obtain ⟨⟨h1,h2,h3⟩,h4⟩:=s
 exact ⟨h,h1,h2,h3,fun z=>by rcases h4 with h4 | ⟨h4,h5⟩;exact h4;rcases z with z | z;exact absurd z h4;exact absurd z h5⟩
theorem Dp.stands {f:I3} (L:Dp f):stands f=true:=by
 simp only [My.stands,Bool.and_eq_true,Bool.or_eq_true,decide_eq_true_eq]
 refine ⟨⟨L.lo,L.hi,L.ac⟩,?_⟩
 by_cases h:0≤f.2.1
 ·exact .inl h
 ·exact .inr ⟨fun z=>h (L.edge (.inl z)),fun z=>h (L.edge (.inr z))⟩
theorem Dp.bowl {f:I3} (L:Dp f):Bo f:=by
 obtain ⟨a,b,c⟩:=f
 refine ⟨L.pos,?_⟩
 have h0:0 < a:=L.pos
 have h1:-a≤b:=L.lo
 have h2:b≤a:=L.hi
 have h3:a≤c:=L.ac
 have h4:b*b≤a*a:=by
  have e1:(b.natAbs:Int)*b.natAbs=b*b:=Int.natAbs_mul_self' b
  have:=Int.mul_le_mul (show (b.natAbs:Int)≤a by omega) (show (b.natAbs:Int)≤a by omega) (by omega) (by omega)
  omega
 have h5:a*a≤a*c:=Int.mul_le_mul_of_nonneg_left h3 (by omega)
 have h6:1≤a*a:=sq_pos (by omega)
 show b*b - 4*a*c < 0
 have e:4*a*c=4*(a*c):=by grind
 omega
theorem Dp.bt {f:I3} {n:Nat} (L:Dp f) (h:Bt n (meas f)):B3 n f:=by
 obtain ⟨a,b,c⟩:=f
 have h0:0 < a:=L.pos
 have h1:-a≤b:=L.lo
 have h2:b≤a:=L.hi
 have h3:a≤c:=L.ac
 have h4:b*b≤a*a:=by
  have e1:(b.natAbs:Int)*b.natAbs=b*b:=Int.natAbs_mul_self' b
  have:=Int.mul_le_mul (show (b.natAbs:Int)≤a by omega) (show (b.natAbs:Int)≤a by omega) (by omega) (by omega)
  omega
 have h5:a*a≤a*c:=Int.mul_le_mul_of_nonneg_left h3 (by omega)
 have h6:1*c≤a*c:=Int.mul_le_mul_of_nonneg_right (by omega) (by omega)
 have hm:meas (a,b,c)=b*b - 4*(a*c):=by simp only [meas];grind
 have hc:Bt n c:=by unfold Bt at *;rw [hm] at h;omega
 refine ⟨?_,?_,hc⟩
 ·show Bt n a
  unfold Bt at *;omega
 ·show Bt n b
  unfold Bt at *;omega
noncomputable def oft (f:I3):Int:=(f.1 - f.2.1).fdiv (2*f.1)
noncomputable def Dm (f:I3):I4:=if oft f≠0 then (1,oft f,0,1) else (0,-1,1,0)
theorem J1 {f:I3}:det (Dm f)=1:=by
 unfold Dm
 split <;> simp [det]
theorem Wk {a b c k:Int}:mov (a,b,c) (1,k,0,1)=(a,b+2*a*k,a*k*k+b*k+c):=by
 simp only [mov,val,mid,Prod.mk.injEq]
 refine ⟨?_,?_,?_⟩ <;> grind
theorem VR {a b c:Int}:mov (a,b,c) (0,-1,1,0)=(c,-b,a):=by
 simp only [mov,val,mid,Prod.mk.injEq]
 refine ⟨?_,?_,?_⟩ <;> grind
theorem Km {a b:Int} (h:0 < a):-a < b+2*a*((a - b).fdiv (2*a))∧b+2*a*((a - b).fdiv (2*a))≤a:=by
 rw [Int.fdiv_eq_ediv_of_nonneg _ (by omega)]
 have h1:=Int.lt_mul_ediv_self_add (x:=a - b) (show 0 < 2*a by omega)
 have h2:=Int.mul_ediv_self_le (x:=a - b) (k:=2*a) (by omega)
 omega
theorem Ve {a b:Int} (h:0 < a) (z:(a - b).fdiv (2*a)=0):-a < b∧b≤a:=by
 have:=Km (b:=b) h
 rw [z] at this
 omega
noncomputable def msr (f:I3):Nat:=4*f.1.toNat+(if -f.1 < f.2.1∧f.2.1≤f.1 then 0 else 2)+(if f.2.1 < 0 then 1 else 0)
theorem Sh {f:I3} (h:Bo f):0 < f.2.2:=by
 obtain ⟨a,b,c⟩:=f
 obtain ⟨h0,h1⟩:=h
 simp only [meas] at h0 h1 ⊢
 rcases Int.lt_or_le 0 c with h | h
 ·exact h
 ·exfalso
  have h2:0≤b*b:=sq_nonneg b
  have h3:a*c≤a*0:=Int.mul_le_mul_of_nonneg_left h (by omega)
  have e:4*a*c=4*(a*c):=by grind
  omega
theorem Ln {f:I3} {t:I4} (h:Bo f) (d:det t=1):Bo (mov f t):=by
 have hm:=Bs (f:=f) d
 refine ⟨?_,by rw [hm];exact h.2⟩
 obtain ⟨a,b,c⟩:=f
 obtain ⟨p,q,r,s⟩:=t
 obtain ⟨h0,h1⟩:=h
 show 0 < val (a,b,c) (p,r)
 simp only [meas] at h0 h1
 have e:4*(a*val (a,b,c) (p,r))=(2*a*p+b*r)*(2*a*p+b*r) - (b*b - 4*a*c)*(r*r):=by simp only [val];grind
 have z1:=sq_nonneg (2*a*p+b*r)
 have z2:0≤(4*a*c - b*b)*(r*r):=Int.mul_nonneg (by omega) (sq_nonneg r)
 have e2:(4*a*c - b*b)*(r*r)=-((b*b - 4*a*c)*(r*r)):=by grind
 rcases Int.lt_or_le 0 (val (a,b,c) (p,r)) with h | h
 ·exact h
 ·exfalso
  have z3:a*val (a,b,c) (p,r)≤a*0:=Int.mul_le_mul_of_nonneg_left h (by omega)
  have hr:r*r=0:=by
   by_cases hr:r=0
   ·rw [hr];rfl
   ·exfalso
    have:=Int.mul_le_mul (show 1≤4*a*c - b*b by omega) (sq_pos hr) (by omega) (by omega)
    omega
  have hr0:r=0:=by
   by_cases hr0:r=0
   ·exact hr0
   ·have:=sq_pos hr0;omega
  subst hr0
  have hp:p≠0:=fun hp=>by subst hp;simp [det] at d
  have hp1:=sq_pos hp
  have e3:val (a,b,c) (p,0)=a*(p*p):=KR
  rw [e3] at h
  have:=Int.mul_le_mul_of_nonneg_left hp1 (show 0≤a by omega)
  omega
theorem Mw {f:I3} (h:Bo f) (s:stands f=false):msr (mov f (Dm f)) < msr f:=by
 obtain ⟨a,b,c⟩:=f
 have ha:0 < a:=h.1
 have hc:0 < c:=Sh h
 unfold Dm
 by_cases ho:oft (a,b,c)=0
 ·rw [if_neg (by simpa using ho),VR]
  have ⟨h1,h2⟩:-a < b∧b≤a:=Ve ha ho
  have hs:c < a∨(a=c∧b < 0):=by
   simp only [stands,Bool.and_eq_false_iff,Bool.or_eq_false_iff,decide_eq_false_iff_not] at s
   omega
  unfold msr
  simp only
  rw [if_pos (show -a < b∧b≤a from ⟨h1,h2⟩)]
  rcases hs with hs | ⟨hs,hb⟩
  ·split <;> split <;> split <;> omega
  ·subst hs
   rw [if_pos (show -a < -b∧-b≤a by omega),if_pos hb,if_neg (by omega)]
   omega
 ·rw [if_pos ho,Wk]
  have ⟨h1,h2⟩:=Km (b:=b) ha
  have hn:¬ (-a < b∧b≤a):=fun z=>ho (by
   show (a - b).fdiv (2*a)=0
   rw [Int.fdiv_eq_ediv_of_nonneg _ (by omega)]
   exact Int.ediv_eq_zero_of_lt (by omega) (by omega))
  unfold msr
  simp only
  show 4*a.toNat+(if -a < b+2*a*((a - b).fdiv (2*a))∧b+2*a*((a - b).fdiv (2*a))≤a then 0 else 2)+(if b+2*a*((a - b).fdiv (2*a)) < 0 then 1 else 0) < _
  rw [if_pos ⟨h1,h2⟩,if_neg hn]
  split <;> split <;> omega
theorem Aae {f:I3} {n:Nat} (h:Bo f) (s:stands f=false) (b1:Bt n f.1) (b2:Bt n f.2.1):Bt n (mov f (Dm f)).1∧Bt n (mov f (Dm f)).2.1:=by
 obtain ⟨a,b,c⟩:=f
 have ha:0 < a:=h.1
 have hc:0 < c:=Sh h
 have b1:Bt n a:=b1
 have b2:Bt n b:=b2
 unfold Dm
 by_cases ho:oft (a,b,c)=0
 ·rw [if_neg (by simpa using ho),VR]
  have ⟨h1,h2⟩:-a < b∧b≤a:=Ve ha ho
  have hs:c≤a:=by
   simp only [stands,Bool.and_eq_false_iff,Bool.or_eq_false_iff,decide_eq_false_iff_not] at s
   omega
  refine ⟨?_,b2.neg⟩
  show Bt n c
  unfold Bt at *;omega
 ·rw [if_pos ho,Wk]
  have ⟨h1,h2⟩:=Km (b:=b) ha
  refine ⟨b1,?_⟩
  show Bt n (b+2*a*((a - b).fdiv (2*a)))
  unfold Bt at *;omega
theorem AdC {f:I3} {n m:Nat} (h:Bo f) (b1:Bt n f.1) (b2:Bt n f.2.1) (hm:Bt m (meas f)):B3 (n+n+m+1) f:=by
 obtain ⟨a,b,c⟩:=f
 have ha:0 < a:=h.1
 have hc:0 < c:=Sh h
 refine ⟨b1.le (by omega),b2.le (by omega),?_⟩
 have z:=(b2.mul b2).sub hm
 have e:b*b - meas (a,b,c)=4*(a*c):=by simp only [meas];grind
 have z1:1*c≤a*c:=Int.mul_le_mul_of_nonneg_right (by omega) (by omega)
 have z':Bt (max (n+n) m+1) (4*(a*c)):=by rw [←e];exact z
 have z2:Bt (max (n+n) m+1) c:=by unfold Bt at *;omega
 exact z2.le (by omega)
theorem AeW {n:Nat} {x:Int} (h:x*x < 2 ^ (2*n)):Bt n x:=by
 unfold Bt
 rcases Nat.lt_or_ge x.natAbs (2 ^ n) with z | z
 ·exact z
 ·exfalso
  have:=Nat.mul_le_mul z z
  rw [←Nat.pow_add,show n+n=2*n by omega] at this
  have e1:(x.natAbs:Int)*x.natAbs=x*x:=Int.natAbs_mul_self' x
  have:((2 ^ (2*n):Nat):Int)≤(x.natAbs:Int)*x.natAbs:=by exact_mod_cast this
  rw [e1] at this
  push_cast at this
  omega
theorem Wl {f:I3} {n m k:Nat} {x y:Int} (h:Bo f) (hb:B3 n f) (hv:Bt m (val f (x,y))) (hk:n+m+2≤2*k):B2 k (x,y):=by
 obtain ⟨a,b,c⟩:=f
 have ha:0 < a:=h.1
 have hc:0 < c:=Sh h
 have hm:b*b - 4*a*c < 0:=h.2
 obtain ⟨h1,h2,h3⟩:=hb
 have h4:Bt 3 4:=Bt.of_abs (by decide)
 have e1:4*(a*val (a,b,c) (x,y))=(2*a*x+b*y)*(2*a*x+b*y)+(4*a*c - b*b)*(y*y):=by simp only [val];grind
 have e2:4*(c*val (a,b,c) (x,y))=(2*c*y+b*x)*(2*c*y+b*x)+(4*a*c - b*b)*(x*x):=by simp only [val];grind
 have k1:y*y≤4*(a*val (a,b,c) (x,y)):=by
  have z1:=sq_nonneg (2*a*x+b*y)
  have z2:=Int.mul_le_mul_of_nonneg_right (show 1≤4*a*c - b*b by omega) (sq_nonneg y)
  omega
 have k2:x*x≤4*(c*val (a,b,c) (x,y)):=by
  have z1:=sq_nonneg (2*c*y+b*x)
  have z2:=Int.mul_le_mul_of_nonneg_right (show 1≤4*a*c - b*b by omega) (sq_nonneg x)
  omega
 have up:∀ {z w:Int},Bt n z→w≤4*(z*val (a,b,c) (x,y))→w < 2 ^ (2*k):=fun {z w} hz hw=>by
  have h5:=hz.mul hv
  have h6:Bt (n+m) (z*val (a,b,c) (x,y)):=h5
  have h7:(4:Int)*2 ^ (n+m)≤2 ^ (2*k):=by
   have:(4:Int)*2 ^ (n+m)=2 ^ (n+m+2):=by rw [show n+m+2=(n+m)+1+1 from rfl,Int.pow_succ,Int.pow_succ];omega
   rw [this]
   have:=Nat.pow_le_pow_right (show 0 < 2 by decide) hk
   exact_mod_cast this
  unfold Bt at h6
  have h8:z*val (a,b,c) (x,y) < 2 ^ (n+m):=by
   have:((z*val (a,b,c) (x,y)).natAbs:Int) < ((2 ^ (n+m):Nat):Int):=by exact_mod_cast h6
   push_cast at this
   omega
  omega
 exact ⟨AeW (up h3 k2),AeW (up h1 k1)⟩
theorem Acj {f:I3} {t:I4} {n m k:Nat} (h:Bo f) (hb:B3 n f) (hg:B3 m (mov f t)) (hk:n+m+2≤2*k):B4 k t:=by
 have p1:=Wl (x:=t.1) (y:=t.2.2.1) h hb hg.1 hk
 have p2:=Wl (x:=t.2.1) (y:=t.2.2.2) h hb hg.2.2 hk
 exact ⟨p1.1,p2.1,p1.2,p2.2⟩
theorem O6 {f:I3} (h:oft f=0):Dm f=(0,-1,1,0):=by unfold Dm;rw [if_neg (by simpa using h)]
theorem Qh {f:I3} (h:¬ oft f=0):Dm f=(1,oft f,0,1):=by unfold Dm;rw [if_pos h]
theorem Aak {f:I3} {n:Nat} (h:0 < f.1) (b1:Bt n f.1) (b2:Bt n f.2.1):B4 (n+1) (Dm f):=by
 obtain ⟨a,b,c⟩:=f
 have h:0 < a:=h
 have b1:Bt n a:=b1
 have b2:Bt n b:=b2
 have one:Bt (n+1) 1:=Bt.one.le (by omega)
 by_cases ho:oft (a,b,c)=0
 ·rw [O6 ho]
  exact ⟨Bt.zero.le (by omega),one.neg,one,Bt.zero.le (by omega)⟩
 ·rw [Qh ho]
  refine ⟨one,?_,Bt.zero.le (by omega),one⟩
  have ⟨h1,h2⟩:=Km (b:=b) h
  show Bt (n+1) ((a - b).fdiv (2*a))
  generalize (a - b).fdiv (2*a)=k at *
  have e:2*a*k=2*(a*k):=by grind
  have z:(k.natAbs:Int)≤((a*k).natAbs:Int):=by
   rw [Int.natAbs_mul]
   have:=Nat.mul_le_mul_right k.natAbs (show 1≤a.natAbs by omega)
   omega
  unfold Bt at *
  rw [Nat.pow_succ]
  omega
end My
namespace My
open PySem L2
structure Sad (f:I3):Prop where
 no:¬ Hs (meas f)
 pos:0 < meas f
 most:meas f≤4000
noncomputable def Level (f:I3) (far:Int):Prop:=(0 < f.2.1∧f.2.1≤far)∧far - f.2.1 < 2*(if f.1 < 0 then -f.1 else f.1)∧2*(if f.1 < 0 then -f.1 else f.1)≤far+f.2.1
instance {f:I3} {far:Int}:Decidable (Level f far):=by unfold Level;infer_instance
theorem Sad.mov {f:I3} {t:I4} (h:Sad f) (d:det t=1):Sad (mov f t):=by
 have e:=Bs (f:=f) d
 exact ⟨by rw [e];exact h.no,by rw [e];exact h.pos,by rw [e];exact h.most⟩
end My
namespace My
open PySem L2
noncomputable abbrev ab (x:Int):Int:=if x < 0 then -x else x
theorem Ax (x:Int):(0≤x∧ab x=x)∨(x < 0∧ab x=-x):=by
 rcases Int.lt_or_le x 0 with h | h
 ·exact .inr ⟨h,if_pos h⟩
 ·exact .inl ⟨h,if_neg (by omega)⟩
theorem BW (x:Int):0≤ab x:=by rcases Ax x with ⟨h,e⟩ | ⟨h,e⟩ <;> omega
theorem AkQ {n:Nat} {x:Int} (h:Bt n x):Bt n (ab x):=by
 rcases Ax x with ⟨_,e⟩ | ⟨_,e⟩ <;> rw [e]
 ·exact h
 ·exact h.neg
theorem X5 {n:Nat} {x y:Int} (h:Bt n y) (l:ab x≤ab y):Bt n x:=by
 unfold Bt at *
 rcases Ax x with ⟨_,e⟩ | ⟨_,e⟩ <;> rcases Ax y with ⟨_,e'⟩ | ⟨_,e'⟩ <;> omega
theorem RB {n:Nat} {x k:Int} (l:ab x≤k) (hk:k < 2 ^ n):Bt n x:=by
 rcases Ax x with ⟨_,e⟩ | ⟨_,e⟩ <;> exact Bt.of (by omega) (by omega)
noncomputable def dB (f:I3) (top:Int):Int:=top - (top+f.2.1).fmod (2*ab f.2.2)
noncomputable def kB (f:I3) (top:Int):Int:=(f.2.1+dB f top).fdiv (2*f.2.2)
noncomputable def CN (f:I3) (top:Int):I4:=(0,-1,1,kB f top)
theorem CZ {f:I3} {top:Int}:det (CN f top)=1:=by simp [det,CN]
theorem Lw {f:I3} {top:Int} (h:f.2.2≠0):top - 2*ab f.2.2 < dB f top∧dB f top≤top:=by
 have hc:0 < 2*ab f.2.2:=by rcases Ax f.2.2 with ⟨_,e⟩ | ⟨_,e⟩ <;> omega
 have:=FQ (top+f.2.1) hc
 unfold dB
 omega
theorem Ik {f:I3} {top:Int} (h:f.2.2≠0):2*f.2.2*kB f top=f.2.1+dB f top:=by
 unfold kB dB
 have e:=Int.fmod_def (top+f.2.1) (2*ab f.2.2)
 generalize (top+f.2.1).fdiv (2*ab f.2.2)=q at *
 have e1:f.2.1+(top - (top+f.2.1).fmod (2*ab f.2.2))=2*ab f.2.2*q:=by omega
 rw [e1]
 rcases Ax f.2.2 with ⟨_,e2⟩ | ⟨_,e2⟩
 ·rw [e2,Int.mul_fdiv_cancel_left _ (by omega)]
 ·have e3:2*ab f.2.2*q=2*f.2.2*(-q):=by rw [e2];grind
  rw [e3,Int.mul_fdiv_cancel_left _ (by omega)]
theorem Om {f:I3} {top:Int} (h:f.2.2≠0):∃ e,mov f (CN f top)=(f.2.2,dB f top,e):=by
 have hk:=Ik (top:=top) h
 obtain ⟨a,b,c⟩:=f
 refine ⟨(mov (a,b,c) (CN (a,b,c) top)).2.2,?_⟩
 have e1:(mov (a,b,c) (CN (a,b,c) top)).1=c:=by simp only [mov,val,CN];grind
 have e2:(mov (a,b,c) (CN (a,b,c) top)).2.1=dB (a,b,c) top:=by
  simp only [mov,mid,CN]
  simp only at hk
  generalize kB (a,b,c) top=k at *
  have:2*a*0 * -1+b*(0*k + -1*1)+2*c*1*k=2*c*k - b:=by grind
  omega
 ext1
 ·exact e1
 ·ext1
  ·exact e2
  ·rfl
theorem WM {D far:Int} (r:Sq D far) (n:¬ Hs D):far*far < D:=by
 rcases Int.lt_or_le (far*far) D with h | h
 ·exact h
 ·exact absurd ⟨far,by have:=r.2.1;omega⟩ n
theorem M4 {D far:Int} (r:Sq D far) (m:D≤4000):far≤63:=by
 rcases Int.lt_or_le far 64 with h | h
 ·omega
 ·have:=Int.mul_le_mul h h (by decide) r.1
  have:=r.2.1
  omega
theorem Iw {f:I3} (S:Sad f):f.2.2≠0:=fun h=>S.no ⟨f.2.1,by
 obtain ⟨a,b,c⟩:=f
 simp only at h
 subst h
 simp only [meas]
 omega⟩
theorem O5 {f:I3} (S:Sad f):f.1≠0:=fun h=>S.no ⟨f.2.1,by
 obtain ⟨a,b,c⟩:=f
 simp only at h
 subst h
 simp only [meas]
 omega⟩
theorem Ow (x y:Int):ab x*ab y=ab (x*y):=by
 rcases Ax x with ⟨h1,e1⟩ | ⟨h1,e1⟩ <;> rcases Ax y with ⟨h2,e2⟩ | ⟨h2,e2⟩ <;> rw [e1,e2]
 ·have:=Int.mul_nonneg h1 h2
  exact (if_neg (by omega)).symm
 ·have:=Int.mul_nonneg h1 (show 0≤-y by omega)
  have e:x * -y=-(x*y):=by grind
  by_cases h:x*y < 0
  ·rw [ab,if_pos h,e]
  ·rw [ab,if_neg h];omega
 ·have:=Int.mul_nonneg (show 0≤-x by omega) h2
  have e:-x*y=-(x*y):=by grind
  by_cases h:x*y < 0
  ·rw [ab,if_pos h,e]
  ·rw [ab,if_neg h];omega
 ·have:=Int.mul_nonneg (show 0≤-x by omega) (show 0≤-y by omega)
  have e:-x * -y=x*y:=by grind
  rw [ab,if_neg (by omega),e]
theorem JW {x k:Int} (h:ab x≤k):x*x≤k*k:=by
 have e:x*x=ab x*ab x:=by
  rcases Ax x with ⟨_,e⟩ | ⟨_,e⟩ <;> rw [e]
  grind
 rw [e]
 have:=BW x
 exact Int.mul_le_mul h h this (by omega)
theorem last_eq {c d e D:Int} (h:meas (c,d,e)=D):4*(ab c*ab e)=ab (d*d - D):=by
 have:d*d - D=4*(c*e):=by rw [←h];simp only [meas];grind
 rw [this,Ow]
 rcases Ax (c*e) with ⟨h1,e1⟩ | ⟨h1,e1⟩
 ·rw [e1,ab,if_neg (by omega)]
 ·rw [e1,ab,if_pos (by omega)];omega
theorem Aer {c d e D far:Int} (r:Sq D far) (D0:0 < D) (h:meas (c,d,e)=D) (hc:far < ab c) (h1:-ab c < d) (h2:d≤ab c):4*ab e≤ab c:=by
 have k:=last_eq h
 have hd:d*d≤ab c*ab c:=by
  refine JW ?_
  rcases Ax d with ⟨_,e1⟩ | ⟨_,e1⟩ <;> omega
 have hD:D≤ab c*ab c:=by
  have:=Int.mul_le_mul (show far+1≤ab c by omega) (show far+1≤ab c by omega) (by have:=r.1;omega) (BW c)
  have:=r.2.2
  omega
 have h0:=sq_nonneg d
 have:ab (d*d - D)≤ab c*ab c:=by
  rcases Ax (d*d - D) with ⟨_,e1⟩ | ⟨_,e1⟩ <;> omega
 have hc0:0 < ab c:=by have:=r.1;omega
 rcases Int.lt_or_le (ab c) (4*ab e) with z | z
 ·exfalso
  have:=Int.mul_lt_mul_of_pos_left z hc0
  have e2:ab c*(4*ab e)=4*(ab c*ab e):=by grind
  omega
 ·exact z
theorem Abv {c d e D far:Int} (r:Sq D far) (n:¬ Hs D) (h:meas (c,d,e)=D) (hc:ab c≤far) (hc2:far < 2*ab c) (h1:far - 2*ab c < d) (h2:d≤far):2*ab e≤far:=by
 have k:=last_eq h
 have hf:=WM r n
 have hd:d*d≤far*far:=by
  refine JW ?_
  rcases Ax d with ⟨_,e1⟩ | ⟨_,e1⟩ <;> omega
 have h0:=sq_nonneg d
 have hD:=r.2.2
 have:ab (d*d - D) < (far+1)*(far+1):=by
  rcases Ax (d*d - D) with ⟨_,e1⟩ | ⟨_,e1⟩ <;> omega
 rcases Int.lt_or_le far (2*ab e) with z | z
 ·exfalso
  have:=Int.mul_le_mul (show far+1≤2*ab c by omega) (show far+1≤2*ab e by omega) (by have:=r.1;omega) (by have:=BW c;omega)
  have e2:2*ab c*(2*ab e)=4*(ab c*ab e):=by grind
  omega
 ·exact z
theorem Yp {c d e far:Int} (hc:2*ab c≤far) (h1:far - 2*ab c < d) (h2:d≤far):Level (c,d,e) far:=by
 refine ⟨⟨?_,h2⟩,?_,?_⟩
 ·show 0 < d;omega
 ·show far - d < 2*ab c;omega
 ·show 2*ab c≤far+d;omega
theorem Xy {c d e D far:Int} (r:Sq D far) (hm:D≤4000) (D0:0 < D) (h:meas (c,d,e)=D) (c0:c≠0) (hd:ab d≤far):ab e≤1000:=by
 have k:=last_eq h
 have h2:d*d≤far*far:=JW hd
 have h0:=sq_nonneg d
 have h3:=r.2.1
 have:ab (d*d - D)≤4000:=by
  rcases Ax (d*d - D) with ⟨_,e1⟩ | ⟨_,e1⟩ <;> omega
 have hc:1≤ab c:=by rcases Ax c with ⟨_,e1⟩ | ⟨_,e1⟩ <;> omega
 have:=Int.mul_le_mul_of_nonneg_right hc (BW e)
 omega
theorem Jm {f:I3} {far:Int} (r:Sq (meas f) far) (n:¬ Hs (meas f)) (L:Level f far):far - f.2.1 < 2*ab f.2.2∧2*ab f.2.2≤far+f.2.1:=by
 obtain ⟨a,b,c⟩:=f
 obtain ⟨⟨l1,l2⟩,l3,l4⟩:=L
 have l1:0 < b:=l1
 have l2:b≤far:=l2
 have l3:far - b < 2*ab a:=l3
 have l4:2*ab a≤far+b:=l4
 show far - b < 2*ab c∧2*ab c≤far+b
 have hf:=WM r n
 have hD:=r.2.2
 have k:4*(ab a*ab c)=ab (b*b - meas (a,b,c)):=last_eq (c:=a) (d:=b) (e:=c) rfl
 generalize meas (a,b,c)=D at *
 have hb:b*b≤far*far:=Int.mul_le_mul l2 l2 (by omega) (by omega)
 have k2:(2*ab a)*(2*ab c)=D - b*b:=by
  have e1:(2*ab a)*(2*ab c)=4*(ab a*ab c):=by grind
  rcases Ax (b*b - D) with ⟨_,e⟩ | ⟨_,e⟩ <;> omega
 generalize 2*ab a=A at *
 have hC0:0≤2*ab c:=by have:=BW c;omega
 generalize 2*ab c=C at *
 constructor
 ·rcases Int.lt_or_le (far - b) C with z | z
  ·exact z
  ·exfalso
   have z1:A*C≤(far+b)*(far - b):=Int.mul_le_mul l4 z hC0 (by omega)
   have e1:(far+b)*(far - b)=far*far - b*b:=by grind
   omega
 ·rcases Int.lt_or_le (far+b) C with z | z
  ·exfalso
   have z1:(far - b+1)*(far+b+1)≤A*C:=Int.mul_le_mul (by omega) (by omega) (by omega) (by omega)
   have e1:(far - b+1)*(far+b+1)=(far+1)*(far+1) - b*b:=by grind
   omega
  ·exact z
theorem Ws {f:I3} {far:Int} (S:Sad f) (r:Sq (meas f) far) (L:Level f far):Level (mov f (CN f far)) far:=by
 have hc:=Iw S
 obtain ⟨e,he⟩:=Om (top:=far) hc
 rw [he]
 have ⟨d1,d2⟩:=Lw (top:=far) hc
 have ⟨c1,c2⟩:=Jm r S.no L
 obtain ⟨⟨l1,l2⟩,_,_⟩:=L
 have hk:=Ik (top:=far) hc
 have d3:far - 2*ab f.2.2 < dB f far:=d1
 by_cases hC:2*ab f.2.2≤far
 ·exact Yp hC d1 d2
 ·
  have hd:dB f far=2*ab f.2.2 - f.2.1:=by
   have e1:f.2.1+dB f far=2*(f.2.2*kB f far):=by rw [←hk];grind
   have hx:ab (f.2.2*kB f far)=ab f.2.2*ab (kB f far):=(Ow _ _).symm
   have hpos:0 < f.2.2*kB f far:=by omega
   have hx2:f.2.2*kB f far=ab f.2.2*ab (kB f far):=by rw [←hx,ab,if_neg (by omega)]
   have hk0:0 < ab (kB f far):=by
    rcases Int.lt_or_le 0 (ab (kB f far)) with z | z
    ·exact z
    ·have:ab (kB f far)=0:=by have:=BW (kB f far);omega
     rw [this] at hx2
     omega
   have hk1:ab (kB f far)=1:=by
    rcases Int.lt_or_le (ab (kB f far)) 2 with z | z
    ·omega
    ·exfalso
     have:=Int.mul_le_mul_of_nonneg_left z (BW f.2.2)
     omega
   rw [hk1] at hx2
   omega
  refine ⟨⟨?_,d2⟩,?_,?_⟩
  ·show 0 < dB f far;omega
  ·show far - dB f far < 2*ab f.2.2;omega
  ·show 2*ab f.2.2≤far+dB f far;omega
theorem V8 {f:I3} {far:Int} (S:Sad f) (r:Sq (meas f) far) (L:Level f far):B3 7 f:=by
 have ⟨c1,c2⟩:=Jm r S.no L
 have h6:=M4 r S.most
 obtain ⟨⟨l1,l2⟩,l3,l4⟩:=L
 have l4:2*ab f.1≤far+f.2.1:=l4
 exact ⟨RB (k:=63) (by omega) (by decide),Bt.of (by omega) (by omega),RB (k:=63) (by omega) (by decide)⟩
end My
namespace My
open PySem L2
noncomputable abbrev bl (x:Int):Nat:=Builtin.Int.intBits x
theorem YZ {x:Int}:Bt (bl x) x:=intBits_le_iff.mp (Nat.le_refl _)
theorem Y0 {n:Nat} {x:Int} (h:Bt n x):bl x≤n:=intBits_le_iff.mpr h
theorem W2 {x:Int} (h:x≠0):1≤bl x:=by
 rcases Nat.lt_or_ge 0 (bl x) with z | z
 ·exact z
 ·have:=YZ (x:=x)
  unfold Bt at this
  rw [show bl x=0 by omega] at this
  omega
theorem Abd {x:Int} (h:x≠0):2 ^ (bl x - 1)≤x.natAbs:=by
 rcases Nat.lt_or_ge x.natAbs (2 ^ (bl x - 1)) with z | z
 ·have:=Y0 (n:=bl x - 1) z
  have:=W2 h
  omega
 ·exact z
theorem Zu {x y:Int} (h:4*ab x≤ab y) (hy:y≠0):bl x+2≤bl y∨x=0:=by
 by_cases hx:x=0
 ·exact .inr hx
 ·refine .inl ?_
  have h1:=Abd hx
  have h2:=YZ (x:=y)
  unfold Bt at h2
  have p:=W2 hx
  rcases Nat.lt_or_ge (bl y) (bl x+2) with z | z
  ·exfalso
   have h3:2 ^ bl y≤2 ^ (bl x - 1+2):=Nat.pow_le_pow_right (by decide) (by omega)
   rw [Nat.pow_add] at h3
   have h4:4*x.natAbs≤y.natAbs:=by
    rcases Ax x with ⟨_,e⟩ | ⟨_,e⟩ <;> rcases Ax y with ⟨_,e'⟩ | ⟨_,e'⟩ <;> omega
   omega
  ·exact z
theorem UW {b c d k:Int} {x:Nat} (hc:c≠0) (hb:Bt x b) (hx:bl c≤x) (hd:ab d≤ab c) (hk:2*c*k=b+d):Bt (x+1 - bl c) k:=by
 have h1:=Abd hc
 have h2:=YZ (x:=c)
 have hp:=W2 hc
 unfold Bt at *
 have e1:2*(c.natAbs*k.natAbs)=(b+d).natAbs:=by
  rw [←hk,Int.mul_assoc,Int.natAbs_mul,Int.natAbs_mul];rfl
 have e2:(b+d).natAbs < 2 ^ x+2 ^ bl c:=by
  rcases Ax d with ⟨_,e⟩ | ⟨_,e⟩ <;> rcases Ax c with ⟨_,e'⟩ | ⟨_,e'⟩ <;> omega
 have e3:2 ^ bl c≤2 ^ x:=Nat.pow_le_pow_right (by decide) hx
 rcases Nat.lt_or_ge k.natAbs (2 ^ (x+1 - bl c)) with z | z
 ·exact z
 ·exfalso
  have:=Nat.mul_le_mul h1 z
  rw [←Nat.pow_add,show bl c - 1+(x+1 - bl c)=x by omega] at this
  omega
theorem Px {f:I3} {top:Int} {m:Nat} (h:Bt m (kB f top)) (hm:1≤m):B4 m (CN f top):=⟨Bt.zero.le (by omega),(Bt.one.le hm).neg,Bt.one.le hm,h⟩
noncomputable def Ob (n:Nat) (far:Int) (f0:I3) (t:I4):Prop :=
 det t=1∧B3 n (mov f0 t) ∧
 (if far < ab (mov f0 t).2.2 then ∃ β x,B4 β t∧Bt x (mov f0 t).2.1∧bl (mov f0 t).2.2≤x∧β+x+bl (mov f0 t).2.2≤2*n+1
  else if Level (mov f0 t) far then B4 (5*n+30) t else if far < 2*ab (mov f0 t).2.2 then B4 (3*n+10) t else B4 (4*n+20) t)
noncomputable def eM (far:Int) (f:I3):Nat:=if far < ab f.2.2 then (ab f.2.2).toNat+3 else if Level f far then 0 else if far < 2*ab f.2.2 then 2 else 1
theorem Ob.b4 {n:Nat} {far:Int} {f0:I3} {t:I4} (h:Ob n far f0 t):B4 (5*n+30) t:=by
 obtain ⟨_,_,h⟩:=h
 split at h
 ·obtain ⟨β,x,hb,_,_,_⟩:=h
  exact hb.le (by omega)
 ·split at h
  ·exact h
  ·split at h
   ·exact h.le (by omega)
   ·exact h.le (by omega)
theorem Ob.start {n:Nat} {far:Int} {f:I3} (hn:1≤n) (hf:B3 n f):Ob n far f (1,0,0,1):=by
 have one:B4 1 (1,0,0,1):=⟨Bt.one,Bt.zero.le (by omega),Bt.zero.le (by omega),Bt.one⟩
 unfold Ob
 rw [Bq]
 refine ⟨rfl,hf,?_⟩
 split
 ·exact ⟨1,n,one,hf.2.1,Y0 hf.2.2,by have:=Y0 hf.2.2;omega⟩
 ·split
  ·exact one.le (by omega)
  ·split
   ·exact one.le (by omega)
   ·exact one.le (by omega)
theorem Nk {n:Nat} {far:Int} {f0:I3} {t:I4} (hn:12≤n) (S:Sad f0) (r:Sq (meas f0) far) (I:Ob n far f0 t) (nl:¬ Level (mov f0 t) far) :
  Ob n far f0 (Am t (CN (mov f0 t) (if far > ab (mov f0 t).2.2 then far else ab (mov f0 t).2.2))) ∧
  eM far (mov f0 (Am t (CN (mov f0 t) (if far > ab (mov f0 t).2.2 then far else ab (mov f0 t).2.2)))) < eM far (mov f0 t) ∧
  B4 (n+3) (CN (mov f0 t) (if far > ab (mov f0 t).2.2 then far else ab (mov f0 t).2.2)):=by
 have hb4:=I.b4
 obtain ⟨hd,hb,hI⟩:=I
 have Sf:=S.mov hd
 have hm:=Bs (f:=f0) hd
 have rf:Sq (meas (mov f0 t)) far:=by rw [hm];exact r
 have f63:=M4 rf Sf.most
 have far0:=r.1
 simp only [Ob,←Bk]
 rw [Cq,hd,CZ]
 generalize hf:mov f0 t=f at *
 have hc:=Iw Sf
 have c1:1≤ab f.2.2:=by rcases Ax f.2.2 with ⟨_,e1⟩ | ⟨_,e1⟩ <;> omega
 by_cases h1:far < ab f.2.2
 ·
  rw [if_pos h1] at hI
  obtain ⟨β,x,hβ,hx,hlx,hsum⟩:=hI
  rw [if_neg (show ¬ far > ab f.2.2 by omega)]
  have ⟨d1,d2⟩:=Lw (top:=ab f.2.2) hc
  have hk:=Ik (top:=ab f.2.2) hc
  obtain ⟨e,he⟩:=Om (top:=ab f.2.2) hc
  have hme:meas (f.2.2,dB f (ab f.2.2),e)=meas f:=by rw [←he,Bs CZ]
  have hdc:ab (dB f (ab f.2.2))≤ab f.2.2:=by rcases Ax (dB f (ab f.2.2)) with ⟨_,e1⟩ | ⟨_,e1⟩ <;> omega
  have h4:=Aer rf Sf.pos hme h1 (by omega) d2
  have kbt:=UW hc hx hlx hdc hk
  have k1:1≤x+1 - bl f.2.2:=by omega
  have hbeh:=Px kbt k1
  have hxn:bl f.2.2≤n:=Y0 hb.2.2
  have hS':=Sf.mov (t:=CN f (ab f.2.2)) CZ
  rw [he] at hS'
  have he0:e≠0:=Iw hS'
  have hfour:=(Zu h4 hc).resolve_right he0
  have hβ':=B4.then hβ hbeh
  rw [he]
  refine ⟨⟨rfl,⟨hb.2.2,X5 hb.2.2 hdc,X5 hb.2.2 (show ab e≤ab f.2.2 by have:=BW e;omega)⟩,?_⟩,?_,?_⟩
  ·show if far < ab e then _ else _
   split
   ·refine ⟨_,bl f.2.2,hβ',?_,?_,?_⟩
    ·exact X5 YZ hdc
    ·show bl e≤bl f.2.2;omega
    ·show _+bl f.2.2+bl e≤_;omega
   ·split
    ·exact hβ'.le (by omega)
    ·split
     ·exact hβ'.le (by omega)
     ·exact hβ'.le (by omega)
  ·unfold eM
   rw [if_pos h1]
   show (if far < ab e then (ab e).toNat+3 else _) < _
   split
   ·have:=BW e;omega
   ·split
    ·omega
    ·split <;> omega
  ·
   have:Bt (n+1 - bl f.2.2) (kB f (ab f.2.2)):=UW hc hb.2.1 hxn hdc hk
   exact (Px this (by omega)).le (by omega)
 ·rw [if_neg h1,if_neg nl] at hI
  have etop:(if far > ab f.2.2 then far else ab f.2.2)=far:=by split <;> omega
  rw [etop]
  have ⟨d1,d2⟩:=Lw (top:=far) hc
  have hk:=Ik (top:=far) hc
  obtain ⟨e,he⟩:=Om (top:=far) hc
  have hme:meas (f.2.2,dB f far,e)=meas f:=by rw [←he,Bs CZ]
  have hdf:ab (dB f far)≤far:=by rcases Ax (dB f far) with ⟨_,e1⟩ | ⟨_,e1⟩ <;> omega
  have hel:=Xy rf Sf.most Sf.pos hme hc hdf
  have kb:Bt (n+2) (kB f far):=by
   have e1:2*(ab f.2.2*ab (kB f far))=ab (f.2.1+dB f far):=by
    rw [←hk,Ow]
    have:2*f.2.2*kB f far=2*(f.2.2*kB f far):=by grind
    rw [this]
    rcases Ax (f.2.2*kB f far) with ⟨h1,e1⟩ | ⟨h1,e1⟩
    ·rw [e1,ab,if_neg (by omega)]
    ·rw [e1,ab,if_pos (by omega)];omega
   have e2:=Int.mul_le_mul_of_nonneg_right c1 (BW (kB f far))
   have e3:Bt (n+1) (f.2.1+dB f far):=by
    have:=(hb.2.1).add (show Bt 7 (dB f far) from RB (k:=63) (by omega) (by decide))
    exact this.le (by omega)
   refine Bt.le (n:=n+1) (X5 e3 ?_) (by omega)
   have:=BW (kB f far)
   omega
  have hbeh:=Px kb (by omega)
  rw [he]
  have hB:B3 n (f.2.2,dB f far,e):=⟨hb.2.2,Bt.le (n:=7) (RB (k:=63) (show ab (dB f far)≤63 by omega) (by decide)) (by omega),Bt.le (n:=12) (RB (x:=e) hel (by decide)) (by omega)⟩
  by_cases h2:far < 2*ab f.2.2
  ·rw [if_pos h2] at hI
   have hβ':=B4.then hI hbeh
   have hh:=Abv rf Sf.no hme (by omega) h2 (by omega) d2
   have h3:¬ far < ab e:=by have:=BW e;omega
   refine ⟨⟨rfl,hB,?_⟩,?_,hbeh.le (by omega)⟩
   ·show if far < ab e then _ else _
    rw [if_neg h3]
    split
    ·exact hβ'.le (by omega)
    ·rw [if_neg (show ¬ far < 2*ab (f.2.2,dB f far,e).2.2 by show ¬ far < 2*ab e;omega)]
     exact hβ'.le (by omega)
   ·unfold eM
    rw [if_neg h1,if_neg nl,if_pos h2]
    show (if far < ab e then _ else _) < 2
    rw [if_neg h3]
    split
    ·omega
    ·rw [if_neg (show ¬ far < 2*ab (f.2.2,dB f far,e).2.2 by show ¬ far < 2*ab e;omega)]
     omega
  ·rw [if_neg h2] at hI
   have hβ':=B4.then hI hbeh
   have hL:Level (f.2.2,dB f far,e) far:=Yp (by omega) d1 d2
   have h3:¬ far < ab e:=by
    have:=(Jm (f:=(f.2.2,dB f far,e)) (by rw [hme];exact rf) (by rw [hme];exact Sf.no) hL).2
    simp only at this
    omega
   refine ⟨⟨rfl,hB,?_⟩,?_,hbeh.le (by omega)⟩
   ·show if far < ab e then _ else _
    rw [if_neg h3,if_pos hL]
    exact hβ'.le (by omega)
   ·unfold eM
    rw [if_neg h1,if_neg nl,if_neg h2]
    show (if far < ab e then _ else _) < 1
    rw [if_neg h3,if_pos hL]
    omega
end My
namespace My
open PySem L2
noncomputable def Riv (f:I3):Prop:=(0 < f.1∧f.2.2 < 0)∧¬ Hs (meas f)
noncomputable abbrev tR:I4:=(1,1,0,1)
noncomputable abbrev tL:I4:=(1,0,1,1)
noncomputable def sm (f:I3):Int:=f.1+f.2.1+f.2.2
theorem Aac {a b c:Int}:mov (a,b,c) tR=(a,b+2*a,a+b+c):=by
 simp only [mov,val,mid,Prod.mk.injEq]
 refine ⟨?_,?_,?_⟩ <;> grind
theorem AaB {a b c:Int}:mov (a,b,c) tL=(a+b+c,b+2*c,c):=by
 simp only [mov,val,mid,Prod.mk.injEq]
 refine ⟨?_,?_,?_⟩ <;> grind
theorem AfA {f:I3} (n:¬ Hs (meas f)):sm f≠0:=fun h=>n ⟨f.1 - f.2.2,by
 obtain ⟨a,b,c⟩:=f
 simp only [sm,meas] at *
 have:b=-(a+c):=by omega
 subst this
 grind⟩
noncomputable def stT (f:I3):I4:=if sm f < 0 then tR else tL
noncomputable def nx (f:I3):I3:=mov f (stT f)
theorem AgE {f:I3}:det (stT f)=1:=by unfold stT;split <;> rfl
theorem Riv.next {f:I3} (h:Riv f):Riv (nx f):=by
 have hm:=Bs (f:=f) (AgE (f:=f))
 refine ⟨?_,by unfold nx;rw [hm];exact h.2⟩
 have hs:=AfA h.2
 obtain ⟨a,b,c⟩:=f
 obtain ⟨⟨h1,h2⟩,_⟩:=h
 by_cases h:sm (a,b,c) < 0
 ·have e:nx (a,b,c)=(a,b+2*a,a+b+c):=by unfold nx;rw [show stT (a,b,c)=tR from if_pos h];exact Aac
  rw [e];exact ⟨h1,h⟩
 ·have e:nx (a,b,c)=(a+b+c,b+2*c,c):=by unfold nx;rw [show stT (a,b,c)=tL from if_neg h];exact AaB
  rw [e]
  refine ⟨?_,h2⟩
  simp only [sm] at h hs ⊢
  omega
structure NN (t:I4):Prop where
 p:1≤t.1
 q:0≤t.2.1
 r:0≤t.2.2.1
 s:1≤t.2.2.2
 d:det t=1
noncomputable def sz (t:I4):Nat:=(t.1+t.2.1+t.2.2.1+t.2.2.2).toNat
theorem NN.split {t:I4} (h:NN t):t=(1,0,0,1)∨(∃ u,NN u∧t=Am tR u∧sz u < sz t)∨(∃ u,NN u∧t=Am tL u∧sz u < sz t):=by
 obtain ⟨p,q,r,s⟩:=t
 obtain ⟨hp,hq,hr,hs,hd⟩:=h
 simp only [det] at *
 by_cases c1:r≤p∧s≤q
 ·refine .inr (.inl ⟨(p - r,q - s,r,s),⟨?_,by simp only;omega,hr,hs,?_⟩,?_,?_⟩)
  ·show 1≤p - r
   have e:(p - r)*s - (q - s)*r=1:=by grind
   have z:=Int.mul_nonneg (show 0≤q - s by omega) hr
   rcases Int.lt_or_le (p - r) 1 with w | w
   ·have:(p - r)*s≤0*s:=Int.mul_le_mul_of_nonneg_right (by omega) (by omega)
    omega
   ·exact w
  ·show (p - r)*s - (q - s)*r=1
   grind
  ·simp only [Am,Prod.mk.injEq]
   refine ⟨?_,?_,?_,?_⟩ <;> omega
  ·simp only [sz];omega
 ·by_cases c2:p≤r∧q≤s
  ·refine .inr (.inr ⟨(p,q,r - p,s - q),⟨hp,hq,by simp only;omega,?_,?_⟩,?_,?_⟩)
   ·show 1≤s - q
    have e:p*(s - q) - q*(r - p)=1:=by grind
    have z:=Int.mul_nonneg hq (show 0≤r - p by omega)
    rcases Int.lt_or_le (s - q) 1 with w | w
    ·have:p*(s - q)≤p*0:=Int.mul_le_mul_of_nonneg_left (by omega) (by omega)
     omega
    ·exact w
   ·show p*(s - q) - q*(r - p)=1
    grind
   ·simp only [Am,Prod.mk.injEq]
    refine ⟨?_,?_,?_,?_⟩ <;> omega
   ·simp only [sz];omega
  ·rcases Int.lt_or_le r p with w | w
   ·
    have w2:q < s:=by omega
    have z:=Int.mul_le_mul (show r+1≤p by omega) (show q+1≤s by omega) (by omega) (by omega)
    have e:(r+1)*(q+1)=r*q+r+q+1:=by grind
    have e2:r*q=q*r:=Int.mul_comm r q
    have r0:r=0:=by omega
    have q0:q=0:=by omega
    subst r0 q0
    left
    have hps:p*s=1:=by omega
    have p1:p=1:=by
     rcases Int.lt_or_le p 2 with v | v
     ·omega
     ·have:=Int.mul_le_mul v hs (by decide) (by omega)
      omega
    subst p1
    have:s=1:=by omega
    rw [this]
   ·
    have w2:s < q:=by omega
    have w3:p < r:=by
     rcases Int.lt_or_le p r with v | v
     ·exact v
     ·have:p=r:=by omega
      subst this
      exfalso
      have e:p*s - q*p=p*(s - q):=by grind
      have:=Int.mul_le_mul_of_nonneg_left (show s - q≤-1 by omega) (show 0≤p by omega)
      omega
    exfalso
    have z:=Int.mul_le_mul (show p≤r - 1 by omega) (show s≤q - 1 by omega) (by omega) (by omega)
    have e:(r - 1)*(q - 1)=q*r - r - q+1:=by grind
    omega
noncomputable def wd:Nat→I3→I4
 | 0,_=>(1,0,0,1)
 | n+1,f=>Am (stT f) (wd n (nx f))
noncomputable def nxs:Nat→I3→I3
 | 0,f=>f
 | n+1,f=>nxs n (nx f)
theorem Io {t:I4}:Am (1,0,0,1) t=t:=by
 obtain ⟨p,q,r,s⟩:=t
 simp only [Am,Prod.mk.injEq]
 refine ⟨?_,?_,?_,?_⟩ <;> omega
theorem G8 {t:I4}:Am t (1,0,0,1)=t:=by
 obtain ⟨p,q,r,s⟩:=t
 simp only [Am,Prod.mk.injEq]
 refine ⟨?_,?_,?_,?_⟩ <;> omega
theorem then_assoc {t u v:I4}:Am (Am t u) v=Am t (Am u v):=by
 obtain ⟨a,b,c,d⟩:=t;obtain ⟨e,f,g,h⟩:=u;obtain ⟨i,j,k,l⟩:=v
 simp only [Am,Prod.mk.injEq]
 refine ⟨?_,?_,?_,?_⟩ <;> grind
theorem K1:∀ (n:Nat) (f:I3),mov f (wd n f)=nxs n f
 | 0,f=>Bq
 | n+1,f=>by rw [wd,←Bk];exact K1 n (nx f)
theorem Yb {a b c x y:Int} (ha:0 < a) (hb:0 < b) (hc:0 < c) (hx:0≤x) (hy:0≤y):0≤val (a,b,c) (x,y):=by
 have e:val (a,b,c) (x,y)=a*(x*x)+b*(x*y)+c*(y*y):=by simp only [val];grind
 have h1:=Int.mul_nonneg (show 0≤a by omega) (Int.mul_nonneg hx hx)
 have h2:=Int.mul_nonneg (show 0≤b by omega) (Int.mul_nonneg hx hy)
 have h3:=Int.mul_nonneg (show 0≤c by omega) (Int.mul_nonneg hy hy)
 omega
theorem neg_val {a b c x y:Int} (ha:a < 0) (hb:b < 0) (hc:c < 0) (hx:0≤x) (hy:0≤y):val (a,b,c) (x,y)≤0:=by
 have:=Yb (a:=-a) (b:=-b) (c:=-c) (by omega) (by omega) (by omega) hx hy
 have e:val (-a,-b,-c) (x,y)=-val (a,b,c) (x,y):=by simp only [val];grind
 omega
theorem along:∀ (m:Nat) (f:I3) (t:I4),sz t≤m→Riv f→NN t→Riv (mov f t)→∃ n,t=wd n f:=by
 intro m
 induction m with
 | zero =>
  intro f t hs _ hN _
  exfalso
  have:=hN.p;have:=hN.q;have:=hN.r;have:=hN.s
  unfold sz at hs
  omega
 | succ m ih =>
  intro f t hs hf hN hg
  rcases hN.split with e | ⟨u,hu,e,hl⟩ | ⟨u,hu,e,hl⟩
  ·exact ⟨0,e⟩
  ·have hsm:sm f < 0:=by
    have hne:=AfA hf.2
    rcases Int.lt_or_le (sm f) 0 with z | z
    ·exact z
    ·exfalso
     rw [e,←Bk] at hg
     obtain ⟨a,b,c⟩:=f
     obtain ⟨p,q,r,s⟩:=u
     rw [Aac] at hg
     have h1:(mov (a,b+2*a,a+b+c) (p,q,r,s)).2.2 < 0:=hg.1.2
     have h2:0 < a:=hf.1.1
     have h3:c < 0:=hf.1.2
     simp only [sm] at hne z
     have h4:0≤val (a,b+2*a,a+b+c) (q,s):=Yb h2 (by omega) (by omega) hu.q (by have:=hu.s;simp only at this;omega)
     have h5:(mov (a,b+2*a,a+b+c) (p,q,r,s)).2.2=val (a,b+2*a,a+b+c) (q,s):=rfl
     omega
   have hst:stT f=tR:=by unfold stT;rw [if_pos hsm]
   have hnx:nx f=mov f tR:=by unfold nx;rw [hst]
   have hr:=hf.next
   obtain ⟨n,en⟩:=ih (nx f) u (by omega) hr hu (by rw [hnx,Bk,←e];exact hg)
   exact ⟨n+1,by rw [wd,hst,←en];exact e⟩
  ·have hsm:¬ sm f < 0:=by
    intro z
    rw [e,←Bk] at hg
    obtain ⟨a,b,c⟩:=f
    obtain ⟨p,q,r,s⟩:=u
    rw [AaB] at hg
    have h1:0 < (mov (a+b+c,b+2*c,c) (p,q,r,s)).1:=hg.1.1
    have h2:0 < a:=hf.1.1
    have h3:c < 0:=hf.1.2
    simp only [sm] at z
    have h4:val (a+b+c,b+2*c,c) (p,r)≤0:=neg_val (by omega) (by omega) h3 (by have:=hu.p;simp only at this;omega) hu.r
    have h5:(mov (a+b+c,b+2*c,c) (p,q,r,s)).1=val (a+b+c,b+2*c,c) (p,r):=rfl
    omega
   have hst:stT f=tL:=by unfold stT;rw [if_neg hsm]
   have hnx:nx f=mov f tL:=by unfold nx;rw [hst]
   have hr:=hf.next
   obtain ⟨n,en⟩:=ih (nx f) u (by omega) hr hu (by rw [hnx,Bk,←e];exact hg)
   exact ⟨n+1,by rw [wd,hst,←en];exact e⟩
noncomputable def Hv (t:I4):I4:=(-t.1,-t.2.1,-t.2.2.1,-t.2.2.2)
theorem Oq {f:I3} {t:I4}:mov f (Hv t)=mov f t:=by
 obtain ⟨a,b,c⟩:=f;obtain ⟨p,q,r,s⟩:=t
 simp only [mov,val,mid,Hv,Prod.mk.injEq]
 refine ⟨?_,?_,?_⟩ <;> grind
theorem neg_neg {t:I4}:Hv (Hv t)=t:=by
 obtain ⟨p,q,r,s⟩:=t
 simp only [Hv,Prod.mk.injEq]
 refine ⟨?_,?_,?_,?_⟩ <;> omega
theorem Ads {t:I4}:det (Hv t)=det t:=by
 obtain ⟨p,q,r,s⟩:=t
 simp only [det,Hv];grind
theorem V6 {t:I4}:Ar (Hv t)=Hv (Ar t):=by
 obtain ⟨p,q,r,s⟩:=t
 simp only [Ar,Hv]
theorem signs {f:I3} {t:I4} (hf:Riv f) (hd:det t=1) (hg:Riv (mov f t)) (hp:0≤t.1):NN t∨NN (Ar t):=by
 obtain ⟨a,b,c⟩:=f
 obtain ⟨p,q,r,s⟩:=t
 have ha:0 < a:=hf.1.1
 have hc:c < 0:=hf.1.2
 have hu:0 < val (a,b,c) (p,r):=hg.1.1
 have hv:val (a,b,c) (q,s) < 0:=hg.1.2
 have hp:0≤p:=hp
 have p0:p≠0:=fun e=>by
  subst e
  rw [Xw] at hu
  have:=Int.mul_nonneg (show 0≤-c by omega) (sq_nonneg r)
  have e:-c*(r*r)=-(c*(r*r)):=by grind
  omega
 have s0:s≠0:=fun e=>by
  subst e
  rw [KR] at hv
  have:=Int.mul_nonneg (show 0≤a by omega) (sq_nonneg q)
  omega
 have hd':p*s - q*r=1:=hd
 have key:val (a,b,c) (p,r)*(q*s) - val (a,b,c) (q,s)*(p*r)=(p*s - q*r)*(a*(p*q) - c*(r*s)):=by simp only [val];grind
 have hs:0 < s:=by
  rcases Int.lt_or_le 0 s with z | z
  ·exact z
  ·exfalso
   have z:s≤-1:=by omega
   have h1:p*s≤1 * -1:=by
    have:=Int.mul_le_mul_of_nonneg_left z (show 0≤p by omega)
    omega
   have hqr:q*r≤-2:=by omega
   rw [hd',Int.one_mul] at key
   rcases Int.lt_or_le q 0 with hq | hq
   ·have hr:0 < r:=by
     rcases Int.lt_or_le 0 r with w | w
     ·exact w
     ·have:=Int.mul_nonneg_of_nonpos_of_nonpos (show q≤0 by omega) w
      omega
    have k1:=Int.mul_pos hu (Int.mul_pos_of_neg_of_neg hq (show s < 0 by omega))
    have k2:=Int.mul_neg_of_neg_of_pos hv (Int.mul_pos (show 0 < p by omega) hr)
    have k3:=Int.mul_neg_of_pos_of_neg ha (Int.mul_neg_of_pos_of_neg (show 0 < p by omega) hq)
    have k4:=Int.mul_pos_of_neg_of_neg hc (Int.mul_neg_of_pos_of_neg hr (show s < 0 by omega))
    omega
   ·have hq':0 < q:=by
     rcases Int.lt_or_le 0 q with w | w
     ·exact w
     ·have:q=0:=by omega
      subst this
      omega
    have hr:r < 0:=by
     rcases Int.lt_or_le r 0 with w | w
     ·exact w
     ·have:=Int.mul_nonneg hq w
      omega
    have k1:=Int.mul_neg_of_pos_of_neg hu (Int.mul_neg_of_pos_of_neg hq' (show s < 0 by omega))
    have k2:=Int.mul_pos_of_neg_of_neg hv (Int.mul_neg_of_pos_of_neg (show 0 < p by omega) hr)
    have k3:=Int.mul_pos ha (Int.mul_pos (show 0 < p by omega) hq')
    have k4:=Int.mul_neg_of_neg_of_pos hc (Int.mul_pos_of_neg_of_neg hr (show s < 0 by omega))
    omega
 have hps:=Int.mul_le_mul (show 1≤p by omega) (show 1≤s by omega) (by decide) (by omega)
 by_cases hq:0≤q∧0≤r
 ·exact .inl ⟨by simp only;omega,hq.1,hq.2,by simp only;omega,hd⟩
 ·right
  have hqr:q≤0∧r≤0:=by
   rcases Int.lt_trichotomy q 0 with w | w | w
   ·refine ⟨by omega,?_⟩
    rcases Int.lt_or_le 0 r with v | v
    ·have:=Int.mul_neg_of_neg_of_pos w v;omega
    ·exact v
   ·omega
   ·exfalso
    have:r < 0:=by omega
    have:=Int.mul_neg_of_pos_of_neg w this
    omega
  exact ⟨by simp only [Ar];omega,by simp only [Ar];omega,by simp only [Ar];omega,by simp only [Ar];omega,Ec.trans hd⟩
theorem AhN {f:I3} {t:I4} (hf:Riv f) (hd:det t=1) (hg:Riv (mov f t)) :
  (∃ n,t=wd n f∨t=Hv (wd n f))∨(∃ n,Ar t=wd n (mov f t)∨Ar t=Hv (wd n (mov f t))):=by
 have core:∀ t:I4,det t=1→Riv (mov f t)→0≤t.1→(∃ n,t=wd n f)∨(∃ n,Ar t=wd n (mov f t)):=fun t hd hg hp=>by
  rcases signs hf hd hg hp with h | h
  ·exact .inl (along _ f t (Nat.le_refl _) hf h hg)
  ·exact .inr (along _ (mov f t) (Ar t) (Nat.le_refl _) hg h (by rw [Bw hd];exact hf))
 rcases Int.le_total 0 t.1 with hp | hp
 ·rcases core t hd hg hp with ⟨n,h⟩ | ⟨n,h⟩
  ·exact .inl ⟨n,.inl h⟩
  ·exact .inr ⟨n,.inl h⟩
 ·rcases core (Hv t) (Ads.trans hd) (by rw [Oq];exact hg) (by show 0≤-t.1;omega) with ⟨n,h⟩ | ⟨n,h⟩
  ·exact .inl ⟨n,.inr (by rw [←h,neg_neg])⟩
  ·rw [Oq,V6] at h
   exact .inr ⟨n,.inr (by rw [←h,neg_neg])⟩
end My
namespace My
open PySem L2
structure Lv (far:Int) (f:I3):Prop where
 S:Sad f
 r:Sq (meas f) far
 L:Level f far
noncomputable abbrev aft (far:Int) (f:I3):I3:=mov f (CN f far)
theorem Lv.next {far:Int} {f:I3} (h:Lv far f):Lv far (aft far f) :=
 ⟨h.S.mov CZ,by rw [Bs CZ];exact h.r,Ws h.S h.r h.L⟩
theorem Lv.ac {far:Int} {f:I3} (h:Lv far f):f.1*f.2.2 < 0:=by
 have hf:=WM h.r h.S.no
 obtain ⟨⟨l1,l2⟩,_,_⟩:=h.L
 obtain ⟨a,b,c⟩:=f
 have l1:0 < b:=l1
 have l2:b≤far:=l2
 have hb:b*b≤far*far:=Int.mul_le_mul l2 l2 (by omega) (by omega)
 have e:meas (a,b,c)=b*b - 4*(a*c):=by simp only [meas];grind
 show a*c < 0
 omega
theorem Lv.neg {far:Int} {f:I3} (h:Lv far f) (ha:0 < f.1):f.2.2 < 0:=by
 rcases Int.lt_or_le f.2.2 0 with z | z
 ·exact z
 ·have:=h.ac
  have:=Int.mul_nonneg (show 0≤f.1 by omega) z
  omega
theorem Lv.pos {far:Int} {f:I3} (h:Lv far f) (ha:f.1 < 0):0 < f.2.2:=by
 rcases Int.lt_or_le 0 f.2.2 with z | z
 ·exact z
 ·have:=h.ac
  have:=Int.mul_nonneg_of_nonpos_of_nonpos (show f.1≤0 by omega) z
  omega
theorem G3 {far:Int} {f:I3} (h:Lv far f):(aft far f).1=f.2.2∧(aft far f).2.1=dB f far∧(aft far f).2.2=f.1 - f.2.1*kB f far+f.2.2*(kB f far*kB f far):=by
 obtain ⟨e,he⟩:=Om (top:=far) (Iw h.S)
 refine ⟨by show (mov f (CN f far)).1=_;rw [he],by show (mov f (CN f far)).2.1=_;rw [he],?_⟩
 show val f (-1,kB f far)=_
 simp only [val];grind
theorem Lv.riv {far:Int} {f:I3} (h:Lv far f) (ha:0 < f.1):Riv f:=⟨⟨ha,h.neg ha⟩,h.S.no⟩
theorem Y8 {far:Int} {f g:I3} (hf:Lv far f) (hg:Lv far g) (hm:meas f=meas g) (h:aft far f=aft far g):f=g:=by
 have ⟨f1,f2,_⟩:=G3 hf
 have ⟨g1,g2,_⟩:=G3 hg
 have hc:f.2.2=g.2.2:=by rw [←f1,h,g1]
 have hd:dB f far=dB g far:=by rw [←f2,h,g2]
 have kf:=Ik (top:=far) (Iw hf.S)
 have kg:=Ik (top:=far) (Iw hg.S)
 have cf:=(Jm hf.r hf.S.no hf.L).1
 have cg:=(Jm hg.r hg.S.no hg.L).1
 have lf:=hf.L.1.2
 have lg:=hg.L.1.2
 have c0:=Iw hf.S
 obtain ⟨a,b,c⟩:=f
 obtain ⟨a',b',c'⟩:=g
 simp only at hc hd kf kg cf cg lf lg c0
 subst hc
 rw [←hd] at kg
 have hb:b=b':=by
  have e:b - b'=2*(c*(kB (a,b,c) far - kB (a',b',c) far)):=by
   have:2*(c*(kB (a,b,c) far - kB (a',b',c) far))=2*c*kB (a,b,c) far - 2*c*kB (a',b',c) far:=by grind
   omega
  generalize kB (a,b,c) far - kB (a',b',c) far=k at *
  have hx:ab (c*k)=ab c*ab k:=(Ow c k).symm
  have hk:ab k=0:=by
   rcases Int.lt_or_le (ab k) 1 with z | z
   ·have:=BW k;omega
   ·exfalso
    have:=Int.mul_le_mul_of_nonneg_left z (BW c)
    rcases Ax (c*k) with ⟨_,e1⟩ | ⟨_,e1⟩ <;> omega
  rw [hk] at hx
  have:c*k=0:=by rcases Ax (c*k) with ⟨_,e1⟩ | ⟨_,e1⟩ <;> omega
  omega
 subst hb
 have e1:4*c*a=4*c*a':=by
  simp only [meas] at hm
  have x1:4*a*c=4*c*a:=by grind
  have x2:4*a'*c=4*c*a':=by grind
  omega
 have:a=a':=Int.eq_of_mul_eq_mul_left (show 4*c≠0 by omega) e1
 rw [this]
theorem Ajp:∀ (k:Nat) (a b c:Int),(∀ j:Nat,1≤j→j≤k→0 < a+b*j+c*(j*j))→wd k (a,b,c)=(1,0,(k:Int),1)
 | 0,_,_,_,_=>rfl
 | k+1,a,b,c,h=>by
  have h1:=h 1 (by omega) (by omega)
  have hs:¬ sm (a,b,c) < 0:=by simp only [sm];simp at h1;omega
  have e:nx (a,b,c)=(a+b+c,b+2*c,c):=by unfold nx;rw [show stT (a,b,c)=tL from if_neg hs];exact AaB
  rw [wd,e,show stT (a,b,c)=tL from if_neg hs,Ajp k _ _ _ fun j j1 jk=>?_]
  ·simp only [Am,Prod.mk.injEq]
   refine ⟨by omega,by omega,by push_cast;omega,by omega⟩
  ·have:=h (j+1) (by omega) (by omega)
   have e2:a+b+c+(b+2*c)*(j:Int)+c*((j:Int)*j)=a+b*((j+1:Nat):Int)+c*(((j+1:Nat):Int)*((j+1:Nat):Int)):=by push_cast;grind
   rw [e2];exact this
theorem Aij:∀ (k:Nat) (a b c:Int),(∀ j:Nat,1≤j→j≤k→a*(j*j)+b*j+c < 0)→wd k (a,b,c)=(1,(k:Int),0,1)
 | 0,_,_,_,_=>rfl
 | k+1,a,b,c,h=>by
  have h1:=h 1 (by omega) (by omega)
  have hs:sm (a,b,c) < 0:=by simp only [sm];simp at h1;omega
  have e:nx (a,b,c)=(a,b+2*a,a+b+c):=by unfold nx;rw [show stT (a,b,c)=tR from if_pos hs];exact Aac
  rw [wd,e,show stT (a,b,c)=tR from if_pos hs,Aij k _ _ _ fun j j1 jk=>?_]
  ·simp only [Am,Prod.mk.injEq]
   refine ⟨by omega,by push_cast;omega,by omega,by omega⟩
  ·have:=h (j+1) (by omega) (by omega)
   have e2:a*((j:Int)*j)+(b+2*a)*(j:Int)+(a+b+c)=a*(((j+1:Nat):Int)*((j+1:Nat):Int))+b*((j+1:Nat):Int)+c:=by push_cast;grind
   rw [e2];exact this
theorem Xm:∀ (m n:Nat) (f:I3),wd (m+n) f=Am (wd m f) (wd n (nxs m f))
 | 0,n,f=>by rw [Nat.zero_add];exact Io.symm
 | m+1,n,f=>by
  rw [show m+1+n=(m+n)+1 by omega,wd,Xm m n (nx f),wd,then_assoc];rfl
theorem Tv:∀ (m n:Nat) (f:I3),nxs (m+n) f=nxs n (nxs m f)
 | 0,n,f=>by rw [Nat.zero_add];rfl
 | m+1,n,f=>by rw [show m+1+n=(m+n)+1 by omega];exact Tv m n (nx f)
theorem AjN {a b c k j:Int} (hc:c≤0) (h0:0 < a) (hk:0 < a+b*k+c*(k*k)) (j0:0≤j) (jk:j≤k) (k0:0 < k):0 < a+b*j+c*(j*j):=by
 have e:k*(a+b*j+c*(j*j))=(k - j)*a+j*(a+b*k+c*(k*k))+(-c)*(j*(k - j)*k):=by grind
 have h1:=Int.mul_nonneg (show 0≤k - j by omega) (show 0≤a by omega)
 have h2:=Int.mul_nonneg j0 (show 0≤a+b*k+c*(k*k) by omega)
 have h3:=Int.mul_nonneg (show 0≤-c by omega) (Int.mul_nonneg (Int.mul_nonneg j0 (show 0≤k - j by omega)) (show 0≤k by omega))
 have h4:0 < (k - j)*a+j*(a+b*k+c*(k*k)):=by
  by_cases z:j=k
  ·subst z
   have:=Int.mul_pos k0 hk
   omega
  ·have:=Int.mul_pos (show 0 < k - j by omega) h0
   omega
 rcases Int.lt_or_le 0 (a+b*j+c*(j*j)) with z | z
 ·exact z
 ·have:=Int.mul_le_mul_of_nonneg_left z (show 0≤k by omega)
  omega
theorem Lv.k_sign {far:Int} {f:I3} (h:Lv far f):(0 < f.1→kB f far < 0)∧(f.1 < 0→0 < kB f far):=by
 have hk:=Ik (top:=far) (Iw h.S)
 have hd:0 < dB f far:=by
  have:=h.next.L.1.1
  rw [(G3 h).2.1] at this
  exact this
 have hb:=h.L.1.1
 constructor
 ·intro ha
  have hc:=h.neg ha
  rcases Int.lt_or_le (kB f far) 0 with z | z
  ·exact z
  ·have:=Int.mul_nonneg (show 0≤-(2*f.2.2) by omega) z
   have e:-(2*f.2.2)*kB f far=-(2*f.2.2*kB f far):=by grind
   omega
 ·intro ha
  have hc:=h.pos ha
  rcases Int.lt_or_le 0 (kB f far) with z | z
  ·exact z
  ·have:=Int.mul_nonneg (show 0≤2*f.2.2 by omega) (show 0≤-kB f far by omega)
   have e:2*f.2.2 * -kB f far=-(2*f.2.2*kB f far):=by grind
   omega
theorem ZG {far:Int} {f:I3} (h:Lv far f) (ha:0 < f.1) :
  ∃ N:Nat,2≤N∧nxs N f=aft far (aft far f)∧wd N f=Hv (Am (CN f far) (CN (aft far f) far))∧∀ j,0 < j→j < N→¬ Lv far (nxs j f):=by
 have h':=h.next
 have h'':=h'.next
 have hc:=h.neg ha
 have ⟨g1,g2,g3⟩:=G3 h
 have a':(aft far f).1 < 0:=by rw [g1];exact hc
 have he:=h'.pos a'
 have ⟨q1,q2,q3⟩:=G3 h'
 have a'':0 < (aft far (aft far f)).1:=by rw [q1];exact he
 have he'':=h''.neg a''
 have kn:=h.k_sign.1 ha
 have kp:=h'.k_sign.2 a'
 have hk1:=Ik (top:=far) (Iw h.S)
 have hk2:=Ik (top:=far) (Iw h'.S)
 have lb:=h.L.1.2
 have ld':=h''.L.1.2
 rw [q2] at ld'
 rw [g2] at hk2
 rw [q3,g1,g2] at he''
 rw [g3] at he
 have hbeh1:CN f far=(0,-1,1,kB f far):=rfl
 have hbeh2:CN (aft far f) far=(0,-1,1,kB (aft far f) far):=rfl
 rw [hbeh1,hbeh2]
 have e22:(aft far f).2.2=f.1 - f.2.1*kB f far+f.2.2*(kB f far*kB f far):=g3
 generalize hF:aft far (aft far f)=F at *
 generalize hd':dB (aft far f) far=d' at *
 generalize hk2':kB (aft far f) far=k2 at *
 have hform:nxs 0 f=f:=rfl
 generalize hg:aft far f=g at *
 generalize hd:dB f far=d at *
 generalize hk1':kB f far=k1 at *
 obtain ⟨a,b,c⟩:=f
 have ha:0 < a:=ha
 have hc:c < 0:=hc
 have lb:b≤far:=lb
 have he:0 < a - b*k1+c*(k1*k1):=he
 have hk1:2*c*k1=b+d:=hk1
 have he'':c - d*k2+g.2.2*(k2*k2) < 0:=he''
 have e22:g.2.2=a - b*k1+c*(k1*k1):=e22
 rw [e22] at he'' hk2
 obtain ⟨n1,hn1⟩:∃ n:Nat,-k1=n:=⟨(-k1).toNat,by omega⟩
 obtain ⟨n2,hn2⟩:∃ n:Nat,k2=n:=⟨k2.toNat,by omega⟩
 have hk1n:k1=-(n1:Int):=by omega
 have hw1:∀ i:Nat,i≤n1→wd i (a,b,c)=(1,0,(i:Int),1):=fun i hi=>Ajp i a b c fun j j1 ji=>by
  refine AjN (k:=n1) (by omega) ha ?_ (by omega) (by omega) (by omega)
  have:a+b*(n1:Int)+c*((n1:Int)*n1)=a - b*k1+c*(k1*k1):=by rw [hk1n];grind
  omega
 have hF1:nxs n1 (a,b,c)=(a - b*k1+c*(k1*k1),-d,c):=by
  rw [←K1,hw1 n1 (Nat.le_refl _)]
  have e1:-d=b+2*c*n1:=by
   have:2*c*(n1:Int)=-(2*c*k1):=by rw [hk1n];grind
   omega
  rw [e1,hk1n]
  simp only [mov,val,mid,Prod.mk.injEq]
  refine ⟨?_,?_,?_⟩ <;> grind
 generalize hee:a - b*k1+c*(k1*k1)=e at *
 have hw2:∀ i:Nat,i≤n2→wd i (e,-d,c)=(1,(i:Int),0,1):=fun i hi=>Aij i e (-d) c fun j j1 ji=>by
  have:=AjN (a:=-c) (b:=d) (c:=-e) (k:=n2) (j:=j) (by omega) (by omega) (by
   have:-c+d*(n2:Int) + -e*((n2:Int)*n2)=-(c - d*k2+e*(k2*k2)):=by rw [hn2];grind
   omega) (by omega) (by omega) (by omega)
  have e1:e*((j:Int)*j) + -d*j+c=-(-c+d*(j:Int) + -e*((j:Int)*j)):=by grind
  omega
 have hF2:∀ i:Nat,i≤n2→nxs (n1+i) (a,b,c)=(e,-d+2*e*i,e*((i:Int)*i) - d*i+c):=fun i hi=>by
  rw [Tv,hF1,←K1,hw2 i hi]
  simp only [mov,val,mid,Prod.mk.injEq]
  refine ⟨?_,?_,?_⟩ <;> grind
 have hwd:wd (n1+n2) (a,b,c)=Hv (Am (0,-1,1,k1) (0,-1,1,k2)):=by
  rw [Xm,hF1,hw1 n1 (Nat.le_refl _),hw2 n2 (Nat.le_refl _),hk1n,hn2]
  simp only [Am,Hv,Prod.mk.injEq]
  refine ⟨?_,?_,?_,?_⟩ <;> grind
 refine ⟨n1+n2,by omega,?_,hwd,?_⟩
 ·rw [←K1,hwd,Oq,←Bk,←hF,←hg]
  show mov (mov (a,b,c) (0,-1,1,k1)) (0,-1,1,k2)=_
  rw [←hk1',←hk2',←hg];rfl
 ·intro j j0 jn hL
  rcases Nat.lt_or_ge n1 j with z | z
  ·obtain ⟨i,rfl⟩:∃ i,j=n1+i:=⟨j - n1,by omega⟩
   rw [hF2 i (by omega)] at hL
   have l1:=hL.L.2.1
   have l1:far - (-d+2*e*i) < 2*ab e:=l1
   rw [show ab e=e from if_neg (by omega)] at l1
   have hi:(i:Int)≤n2 - 1:=by omega
   have:=Int.mul_le_mul_of_nonneg_left hi (show 0≤2*e by omega)
   have e1:2*e*((n2:Int) - 1)=2*e*k2 - 2*e:=by rw [hn2];grind
   omega
  ·have hj:nxs j (a,b,c)=(a+b*j+c*((j:Int)*j),b+2*c*j,c):=by
    rw [←K1,hw1 j z]
    simp only [mov,val,mid,Prod.mk.injEq]
    refine ⟨?_,?_,?_⟩ <;> grind
   rw [hj] at hL
   have l1:=(Jm hL.r hL.S.no hL.L).1
   have l1:far - (b+2*c*j) < 2*ab c:=l1
   rw [show ab c=-c from if_pos hc] at l1
   have:=Int.mul_le_mul_of_nonneg_left (show (1:Int)≤j by omega) (show 0≤-(2*c) by omega)
   have e1:-(2*c)*(j:Int)=-(2*c*j):=by grind
   omega
end My
namespace My
open PySem L2
noncomputable def Sg (t u:I4):Prop:=t=u∨t=Hv u
theorem V3 {t u:I4}:Am (Hv t) u=Hv (Am t u):=by
 obtain ⟨a,b,c,d⟩:=t;obtain ⟨e,f,g,h⟩:=u
 simp only [Am,Hv,Prod.mk.injEq]
 refine ⟨?_,?_,?_,?_⟩ <;> grind
theorem Vu {t u:I4}:Am t (Hv u)=Hv (Am t u):=by
 obtain ⟨a,b,c,d⟩:=t;obtain ⟨e,f,g,h⟩:=u
 simp only [Am,Hv,Prod.mk.injEq]
 refine ⟨?_,?_,?_,?_⟩ <;> grind
theorem Gp {t:I4}:Ar (Ar t)=t:=by
 obtain ⟨a,b,c,d⟩:=t
 simp only [Ar,Prod.mk.injEq]
 refine ⟨trivial,?_,?_,trivial⟩ <;> omega
theorem Pz {t u:I4}:Ar (Am t u)=Am (Ar u) (Ar t):=by
 obtain ⟨a,b,c,d⟩:=t;obtain ⟨e,f,g,h⟩:=u
 simp only [Am,Ar,Prod.mk.injEq]
 refine ⟨?_,?_,?_,?_⟩ <;> grind
theorem Sg.refl {t:I4}:Sg t t:=.inl rfl
theorem Sg.trans {t u v:I4} (h:Sg t u) (k:Sg u v):Sg t v:=by
 rcases h with rfl | rfl <;> rcases k with rfl | rfl
 ·exact .inl rfl
 ·exact .inr rfl
 ·exact .inr rfl
 ·exact .inl neg_neg
theorem Sg.then {t u t' u':I4} (h:Sg t t') (k:Sg u u'):Sg (Am t u) (Am t' u'):=by
 rcases h with rfl | rfl <;> rcases k with rfl | rfl
 ·exact .inl rfl
 ·exact .inr Vu
 ·exact .inr V3
 ·exact .inl (by rw [V3,Vu,neg_neg])
theorem Sg.back {t u:I4} (h:Sg t u):Sg (Ar t) (Ar u):=by
 rcases h with rfl | rfl
 ·exact .inl rfl
 ·exact .inr V6
theorem Sg.mov {f:I3} {t u:I4} (h:Sg t u):mov f t=mov f u:=by
 rcases h with rfl | rfl
 ·rfl
 ·exact Oq
noncomputable def rF (far:Int):Nat→I3→I3
 | 0,f=>f
 | n+1,f=>rF far n (aft far f)
noncomputable def rT (far:Int):Nat→I3→I4
 | 0,_=>(1,0,0,1)
 | n+1,f=>Am (CN f far) (rT far n (aft far f))
theorem Ea {far:Int}:∀ (n:Nat) (f:I3),mov f (rT far n f)=rF far n f
 | 0,_=>Bq
 | n+1,f=>by rw [rT,←Bk];exact Ea n (aft far f)
theorem Lb {far:Int}:∀ (n:Nat) (f:I3),det (rT far n f)=1
 | 0,_=>rfl
 | n+1,f=>by rw [rT,Cq,CZ,Lb n (aft far f)];rfl
theorem Cr {far:Int}:∀ (m n:Nat) (f:I3),rF far (m+n) f=rF far n (rF far m f)
 | 0,n,f=>by rw [Nat.zero_add];rfl
 | m+1,n,f=>by rw [show m+1+n=(m+n)+1 by omega];exact Cr m n (aft far f)
theorem Ss {far:Int}:∀ (m n:Nat) (f:I3),rT far (m+n) f=Am (rT far m f) (rT far n (rF far m f))
 | 0,n,f=>by rw [Nat.zero_add];exact Io.symm
 | m+1,n,f=>by rw [show m+1+n=(m+n)+1 by omega,rT,Ss m n (aft far f),rT,then_assoc];rfl
theorem Ys {far:Int} {n:Nat} {f:I3}:rF far (n+1) f=aft far (rF far n f):=by rw [Cr];rfl
theorem XR {far:Int} {n:Nat} {f:I3}:rT far (n+1) f=Am (rT far n f) (CN (rF far n f) far):=by
 rw [Ss]
 show Am _ (Am _ (1,0,0,1))=_
 rw [G8]
theorem Lv.rF {far:Int}:∀ (n:Nat) {f:I3},Lv far f→Lv far (rF far n f)
 | 0,_,h=>h
 | n+1,_,h=>Lv.rF n h.next
theorem Je {far:Int} (n:Nat) (f:I3):meas (rF far n f)=meas f:=by rw [←Ea,Bs (Lb n f)]
theorem Y5 {far:Int}:∀ (n:Nat) (f:I3),Lv far f→0 < f.1→Lv far (nxs n f)→∃ m,Sg (wd n f) (rT far m f):=by
 intro n
 induction n using Nat.strongRecOn with
 | ind n ih =>
  intro f hf ha hg
  by_cases h0:n=0
  ·subst h0
   exact ⟨0,Sg.refl⟩
  ·obtain ⟨N,hN,e1,e2,e3⟩:=ZG hf ha
   have hn:N≤n:=by
    rcases Nat.lt_or_ge n N with z | z
    ·exact absurd hg (e3 n (by omega) z)
    ·exact z
   obtain ⟨k,rfl⟩:∃ k,n=N+k:=⟨n - N,by omega⟩
   have a2:0 < (aft far (aft far f)).1:=by
    rw [(G3 hf.next).1]
    exact hf.next.pos (by rw [(G3 hf).1];exact hf.neg ha)
   rw [Tv,e1] at hg
   obtain ⟨m,hm⟩:=ih k (by omega) (aft far (aft far f)) hf.next.next a2 hg
   refine ⟨m+2,?_⟩
   rw [Xm,e1,e2]
   show Sg _ (Am (CN f far) (Am (CN (aft far f) far) (rT far m (aft far (aft far f)))))
   rw [←then_assoc]
   exact Sg.then (.inr rfl) hm
noncomputable def Ring (far:Int) (f g:I3) (t:I4):Prop:=(∃ m,Sg t (rT far m f))∨(∃ m,Sg (Ar t) (rT far m g))
theorem Ring.swap {far:Int} {f g:I3} {t:I4} (h:Ring far f g t):Ring far g f (Ar t):=by
 rcases h with ⟨m,h⟩ | ⟨m,h⟩
 ·exact .inr ⟨m,by rw [Gp];exact h⟩
 ·exact .inl ⟨m,h⟩
theorem Yv {far:Int} {f g:I3} {t:I4} (hf:Lv far f) (hg:Lv far g) (hd:det t=1) (e:mov f t=g) (fa:0 < f.1) (ga:0 < g.1):Ring far f g t:=by
 have hr:Riv (mov f t):=by rw [e];exact hg.riv ga
 rcases AhN (hf.riv fa) hd hr with ⟨n,h⟩ | ⟨n,h⟩
 ·have hs:Sg t (wd n f):=h
  have hn:Lv far (nxs n f):=by rw [←K1,←hs.mov,e];exact hg
  obtain ⟨m,hm⟩:=Y5 n f hf fa hn
  exact .inl ⟨m,hs.trans hm⟩
 ·rw [e] at h
  have hs:Sg (Ar t) (wd n g):=h
  have hn:Lv far (nxs n g):=by rw [←K1,←hs.mov,←e,Bw hd];exact hf
  obtain ⟨m,hm⟩:=Y5 n g hg ga hn
  exact .inr ⟨m,hs.trans hm⟩
theorem Yh {far:Int} {f g:I3} {t:I4} {m:Nat} (hf:Lv far f) (hg:Lv far g) (hm:meas f=meas g) (h:Sg (Am t (CN g far)) (rT far m f)) (e:rF far m f=aft far g):(∃ k,Sg t (rT far k f))∨Sg t (Ar (CN g far)):=by
 have cancel:∀ {u:I4},Sg (Am t (CN g far)) (Am u (CN g far))→Sg t u:=fun {u} h=>by
  have:=Sg.then h (Sg.refl (t:=Ar (CN g far)))
  rw [then_assoc,then_assoc,Kc CZ,G8,G8] at this
  exact this
 match m,h,e with
 | 0,h,e =>
  right
  refine cancel (h.trans ?_)
  rw [Rr CZ]
  exact Sg.refl
 | m+1,h,e =>
  left
  rw [Ys] at e
  have e':=Y8 (Lv.rF m hf) hg (by rw [Je];exact hm) e
  rw [XR,e'] at h
  exact ⟨m,cancel h⟩
theorem SQ {far:Int} {f g:I3} {t:I4} (hf:Lv far f) (hg:Lv far g) (hd:det t=1) (e:mov f t=g) (fa:0 < f.1) (ga:g.1 < 0):Ring far f g t:=by
 have hm:meas f=meas g:=by rw [←e,Bs hd]
 have hd':det (Am t (CN g far))=1:=by rw [Cq,hd,CZ];rfl
 have e':mov f (Am t (CN g far))=aft far g:=by rw [←Bk,e]
 have ga':0 < (aft far g).1:=by rw [(G3 hg).1];exact hg.pos ga
 rcases Yv hf hg.next hd' e' fa ga' with ⟨m,h⟩ | ⟨m,h⟩
 ·have er:rF far m f=aft far g:=by rw [←Ea,←h.mov,e']
  rcases Yh hf hg hm h er with h | h
  ·exact .inl h
  ·refine .inr ⟨1,?_⟩
   have:=h.back
   rw [Gp] at this
   show Sg _ (Am (CN g far) (1,0,0,1))
   rw [G8]
   exact this
 ·refine .inr ⟨m+1,?_⟩
  have h2:=Sg.then (Sg.refl (t:=CN g far)) h
  rw [Pz,←then_assoc,Kc CZ,Io] at h2
  exact h2
theorem J0 {far:Int} {f g:I3} {t:I4} (hf:Lv far f) (hg:Lv far g) (hd:det t=1) (e:mov f t=g):Ring far f g t:=by
 have fa:=O5 hf.S
 have ga:=O5 hg.S
 have eb:mov g (Ar t)=f:=by rw [←e,Bw hd]
 have hdb:det (Ar t)=1:=Ec.trans hd
 rcases Int.lt_or_lt_of_ne fa with fa | fa
 ·rcases Int.lt_or_lt_of_ne ga with ga | ga
  ·
   have fa':0 < (aft far f).1:=by rw [(G3 hf).1];exact hf.pos fa
   have hd':det (Am (Ar (CN f far)) t)=1:=by rw [Cq,Ec,CZ,hd];rfl
   have e':mov (aft far f) (Am (Ar (CN f far)) t)=g:=by
    rw [←Bk,Bw CZ,e]
   have hm:meas g=meas f:=by rw [←e,Bs hd]
   rcases SQ hf.next hg hd' e' fa' ga with ⟨m,h⟩ | ⟨m,h⟩
   ·refine .inl ⟨m+1,?_⟩
    have h2:=Sg.then (Sg.refl (t:=CN f far)) h
    rw [←then_assoc,Kc CZ,Io] at h2
    exact h2
   ·rw [Pz,Gp] at h
    have er:rF far m g=aft far f:=by rw [←Ea,←h.mov,←Bk,eb]
    rcases Yh hg hf hm h er with h | h
    ·exact .inr h
    ·refine .inl ⟨1,?_⟩
     have:=h.back
     rw [Gp,Gp] at this
     show Sg _ (Am (CN f far) (1,0,0,1))
     rw [G8]
     exact this
  ·have:=(SQ hg hf hdb eb ga fa).swap
   rw [Gp] at this
   exact this
 ·rcases Int.lt_or_lt_of_ne ga with ga | ga
  ·exact SQ hf hg hd e fa ga
  ·exact Yv hf hg hd e fa ga
theorem AaH:∀ (M:Nat) (x:Nat→Nat),(∀ i,i≤M→x i < M)→∃ i j,i < j∧j≤M∧x i=x j:=by
 intro M
 induction M with
 | zero=>intro x h;exact absurd (h 0 (Nat.le_refl _)) (by omega)
 | succ M ih =>
  intro x h
  by_cases hex:∃ i j,i < j∧j≤M+1∧x i=x j
  ·exact hex
  ·have ne:∀ i j,i < j→j≤M+1→x i≠x j:=fun i j h1 h2 h3=>hex ⟨i,j,h1,h2,h3⟩
   obtain ⟨i,j,h1,h2,h3⟩:=ih (fun i=>if x i=M then x (M+1) else x i) (fun i hi=>by
    have h1:=h i (by omega)
    have h2:=h (M+1) (Nat.le_refl _)
    have h3:=ne i (M+1) (by omega) (Nat.le_refl _)
    show (if x i=M then x (M+1) else x i) < M
    split <;> omega)
   exfalso
   have n1:=ne i j h1 (by omega)
   have n2:=ne i (M+1) (by omega) (Nat.le_refl _)
   have n3:=ne j (M+1) (by omega) (Nat.le_refl _)
   have h3:(if x i=M then x (M+1) else x i)=(if x j=M then x (M+1) else x j):=h3
   split at h3 <;> split at h3 <;> omega
theorem Kl {far:Int}:∀ (i:Nat) {f g:I3},Lv far f→Lv far g→meas f=meas g→rF far i f=rF far i g→f=g
 | 0,_,_,_,_,_,h=>h
 | i+1,f,g,hf,hg,hm,h=>Y8 hf hg hm (Kl i hf.next hg.next (by rw [Bs CZ,Bs CZ];exact hm) h)
noncomputable def VG (f:I3):Nat:=((f.1+63)*64+f.2.1).toNat
theorem Lv.range {far:Int} {f:I3} (h:Lv far f):(-63≤f.1∧f.1≤63)∧(0 < f.2.1∧f.2.1≤63):=by
 have h6:=M4 h.r h.S.most
 obtain ⟨⟨l1,l2⟩,_,l4⟩:=h.L
 have l4:2*ab f.1≤far+f.2.1:=l4
 rcases Ax f.1 with ⟨_,e⟩ | ⟨_,e⟩ <;> omega
theorem code_inj {far:Int} {f g:I3} (hf:Lv far f) (hg:Lv far g) (hm:meas f=meas g) (h:VG f=VG g):f=g:=by
 have rf:=hf.range
 have rg:=hg.range
 have ha:=O5 hf.S
 obtain ⟨a,b,c⟩:=f
 obtain ⟨a',b',c'⟩:=g
 simp only [VG] at h rf rg ha
 have e1:a=a':=by omega
 have e2:b=b':=by omega
 subst e1 e2
 have e3:4*a*c=4*a*c':=by simp only [meas] at hm;omega
 have:c=c':=Int.eq_of_mul_eq_mul_left (show 4*a≠0 by omega) e3
 rw [this]
theorem Ib {far:Int} {f:I3} (h:Lv far f):∃ N,0 < N∧N≤8128∧rF far N f=f∧∀ j,0 < j→j < N→rF far j f≠f:=by
 have ex:∃ N,0 < N∧N≤8128∧rF far N f=f:=by
  obtain ⟨i,j,hij,hj,e⟩:=AaH 8128 (fun i=>VG (rF far i f)) (fun i _=>by
   have:=(Lv.rF i h).range
   unfold VG
   omega)
  have e':=code_inj (Lv.rF i h) (Lv.rF j h) (by rw [Je,Je]) e
  obtain ⟨k,rfl⟩:∃ k,j=k+i:=⟨j - i,by omega⟩
  rw [Cr k i f] at e'
  have:=Kl i h (Lv.rF k h) (by rw [Je]) e'
  exact ⟨k,by omega,by omega,this.symm⟩
 have least:∀ M,(∃ N,0 < N∧N≤M∧rF far N f=f)→∃ N,0 < N∧N≤M∧rF far N f=f∧∀ j,0 < j→j < N→rF far j f≠f:=by
  intro M
  induction M with
  | zero=>intro ⟨N,h1,h2,_⟩;omega
  | succ M ih =>
   intro hN
   by_cases hM:∃ N,0 < N∧N≤M∧rF far N f=f
   ·obtain ⟨N,h1,h2,h3,h4⟩:=ih hM
    exact ⟨N,h1,by omega,h3,h4⟩
   ·obtain ⟨N,h1,h2,h3⟩:=hN
    exact ⟨N,h1,h2,h3,fun j j0 jN e=>hM ⟨j,j0,by omega,e⟩⟩
 exact least 8128 ex
theorem Yn {f:I3} {far:Int} (h:Lv far f):Bt 9 (kB f far):=by
 have hc:=Iw h.S
 have hk:=Ik (top:=far) hc
 have ⟨d1,d2⟩:=Lw (top:=far) hc
 have h6:=M4 h.r h.S.most
 have ⟨c1,c2⟩:=Jm h.r h.S.no h.L
 obtain ⟨⟨l1,l2⟩,_,_⟩:=h.L
 have e1:2*(ab f.2.2*ab (kB f far))=ab (f.2.1+dB f far):=by
  rw [←hk,Ow]
  have:2*f.2.2*kB f far=2*(f.2.2*kB f far):=by grind
  rw [this]
  rcases Ax (f.2.2*kB f far) with ⟨h1,e1⟩ | ⟨h1,e1⟩
  ·rw [e1,ab,if_neg (by omega)]
  ·rw [e1,ab,if_pos (by omega)];omega
 have c0:1≤ab f.2.2:=by rcases Ax f.2.2 with ⟨_,e1⟩ | ⟨_,e1⟩ <;> omega
 have e2:=Int.mul_le_mul_of_nonneg_right c0 (BW (kB f far))
 have e3:ab (f.2.1+dB f far)≤252:=by rcases Ax (f.2.1+dB f far) with ⟨_,e1⟩ | ⟨_,e1⟩ <;> omega
 have:=BW (kB f far)
 exact RB (k:=252) (by omega) (by decide)
theorem AeO {far:Int}:∀ (n:Nat) {f:I3},Lv far f→B4 (10*n+1) (rT far n f)
 | 0,_,_=>⟨Bt.one,Bt.zero.le (by omega),Bt.zero.le (by omega),Bt.one⟩
 | n+1,f,h=>by
  have h1:=Px (Yn h) (by decide)
  exact (B4.then h1 (AeO n h.next)).le (by omega)
end My
namespace My
open PySem L2
noncomputable def tr (t:I4):Int:=t.1+t.2.2.2
theorem Adm {t x:I4} (h:det x=1):tr (Am (Am x t) (Ar x))=tr t:=by
 obtain ⟨p,q,r,s⟩:=t;obtain ⟨a,b,c,d⟩:=x
 simp only [det] at h
 have:tr (Am (Am (a,b,c,d) (p,q,r,s)) (Ar (a,b,c,d)))=(a*d - b*c)*(p+s):=by simp only [tr,Am,Ar];grind
 rw [this,h,Int.one_mul];rfl
theorem Ab3 {t x:I4} (h:det x=1):tr (Am (Am (Ar x) t) x)=tr t:=by
 have:=Adm (t:=t) (x:=Ar x) (Ec.trans h)
 rw [Gp] at this
 exact this
theorem Amj {f:I3} (h:f.1≠0):0 < g3 f:=by
 rcases Nat.lt_or_ge 0 (g3 f) with z | z
 ·exact z
 ·have:=AcG (show g3 f=0 by omega)
  rw [this] at h
  exact absurd rfl h
theorem AgT {f:I3} {d:Int} (h1:d∣f.1) (h2:d∣f.2.1) (h3:d∣f.2.2):d∣(g3 f:Int):=Int.dvd_coe_gcd (Int.dvd_coe_gcd h1 h2) h3
theorem QT {f:I3} {t:I4}:(g3 f:Int)∣(g3 (mov f t):Int):=by
 obtain ⟨⟨x,hx⟩,⟨y,hy⟩,⟨z,hz⟩⟩:=W7 f
 refine AgT ⟨val (x,y,z) (t.1,t.2.2.1),?_⟩ ⟨mid (x,y,z) (t.1,t.2.2.1) (t.2.1,t.2.2.2),?_⟩ ⟨val (x,y,z) (t.2.1,t.2.2.2),?_⟩
 ·show val f (t.1,t.2.2.1)=_
  simp only [val];rw [hx,hy,hz];grind
 ·show mid f (t.1,t.2.2.1) (t.2.1,t.2.2.2)=_
  simp only [mid];rw [hx,hy,hz];grind
 ·show val f (t.2.1,t.2.2.2)=_
  simp only [val];rw [hx,hy,hz];grind
theorem Xg {f:I3} {t:I4} (h:det t=1):g3 (mov f t)=g3 f:=by
 have h1:(g3 f:Int)∣(g3 (mov f t):Int):=QT
 have h2:(g3 (mov f t):Int)∣(g3 f:Int):=by
  have:=QT (f:=mov f t) (t:=Ar t)
  rw [Bw h] at this
  exact this
 exact Nat.dvd_antisymm (Int.ofNat_dvd.mp h2) (Int.ofNat_dvd.mp h1)
noncomputable def pl (f:I3):I3:=(f.1 / (g3 f:Int),f.2.1 / (g3 f:Int),f.2.2 / (g3 f:Int))
theorem AmS (f:I3):f.1=(g3 f:Int)*(pl f).1∧f.2.1=(g3 f:Int)*(pl f).2.1∧f.2.2=(g3 f:Int)*(pl f).2.2:=by
 obtain ⟨h1,h2,h3⟩:=W7 f
 exact ⟨(Int.mul_ediv_cancel' h1).symm,(Int.mul_ediv_cancel' h2).symm,(Int.mul_ediv_cancel' h3).symm⟩
theorem X7 {far:Int} {f:I3} {N m:Nat} (e:rF far N f=f):tr (rT far N (rF far m f))=tr (rT far N f):=by
 have h1:=Ss (far:=far) m N f
 have h2:=Ss (far:=far) N m f
 rw [e,Nat.add_comm N m] at h2
 have hd:=Lb (far:=far) m f
 have:rT far N (rF far m f)=Am (Am (Ar (rT far m f)) (rT far N f)) (rT far m f):=by
  rw [then_assoc,←h2,h1,←then_assoc,Rr hd,Io]
 rw [this,Ab3 hd]
theorem Wi {far:Int} {f:I3} {N M m:Nat} (h:Lv far f) (e:rF far N f=f) (min:∀ j,0 < j→j < N→rF far j f≠f) (e':rF far M (rF far m f)=rF far m f) (min':∀ j,0 < j→j < M→rF far j (rF far m f)≠rF far m f) (hN:0 < N) (hM:0 < M):N=M:=by
 have a1:rF far M f=f:=by
  rw [←Cr,Nat.add_comm,Cr] at e'
  exact Kl m (Lv.rF M h) h (by rw [Je]) e'
 have a2:rF far N (rF far m f)=rF far m f:=by rw [←Cr,Nat.add_comm,Cr,e]
 rcases Nat.lt_trichotomy N M with z | z | z
 ·exact absurd a2 (min' N hN z)
 ·exact z
 ·exact absurd a1 (min M hM z)
theorem R7 {far:Int} {f g:I3} {t:I4} {N M:Nat} (hf:Lv far f) (hg:Lv far g) (hd:det t=1) (e:mov f t=g) (eN:rF far N f=f) (minN:∀ j,0 < j→j < N→rF far j f≠f) (eM:rF far M g=g) (minM:∀ j,0 < j→j < M→rF far j g≠g) (hN:0 < N) (hM:0 < M):N=M∧tr (rT far M g)=tr (rT far N f):=by
 rcases J0 hf hg hd e with ⟨m,h⟩ | ⟨m,h⟩
 ·have eg:rF far m f=g:=by rw [←Ea,←h.mov,e]
  subst eg
  have:=Wi hf eN minN eM minM hN hM
  subst this
  exact ⟨rfl,X7 eN⟩
 ·have ef:rF far m g=f:=by rw [←Ea,←h.mov,←e,Bw hd]
  subst ef
  have:=Wi hg eM minM eN minN hM hN
  subst this
  exact ⟨rfl,(X7 eM).symm⟩
end My
namespace My
open PySem L2
theorem Ag4 {far:Int} {g:I3} {N:Nat} (e:rF far N g=g) (i:Nat):rF far (N+i) g=rF far i g:=by rw [Cr,e]
theorem rotate {far:Int} {g:I3} {N k:Nat} (e:rF far N g=g) (hk:k < N) :
  (((List.range N).map fun i=>rF far (i+1) g).drop k) ++ (((List.range N).map fun i=>rF far (i+1) g).take k)=(List.range N).map fun i=>rF far i (rF far (k+1) g):=by
 apply List.ext_getElem
 ·simp only [List.length_append,List.length_drop,List.length_take,List.length_map,List.length_range]
  omega
 ·intro i h1 h2
  rw [List.length_map,List.length_range] at h2
  rw [List.getElem_map,List.getElem_range,←Cr]
  rcases Nat.lt_or_ge i (N - k) with z | z
  ·rw [List.getElem_append_left (by simp only [List.length_drop,List.length_map,List.length_range];exact z),List.getElem_drop,List.getElem_map,List.getElem_range]
   rw [show k+i+1=k+1+i by omega]
  ·rw [List.getElem_append_right (by simp only [List.length_drop,List.length_map,List.length_range];exact z),List.getElem_take,List.getElem_map,List.getElem_range]
   simp only [List.length_drop,List.length_map,List.length_range]
   rw [←Ag4 e,show N+(i - (N - k)+1)=k+1+i by omega]
end My
namespace My
open PySem L2
noncomputable def FA (p q:I4):I3:=(p.1*q.2.1 - p.2.1*q.1,p.1*q.2.2.2 - p.2.2.2*q.1+p.2.2.1*q.2.1 - p.2.1*q.2.2.1,p.2.2.1*q.2.2.2 - p.2.2.2*q.2.2.1)
noncomputable def FB (p q:I4):I3:=(p.1*q.2.2.1 - p.2.2.1*q.1,p.1*q.2.2.2 - p.2.2.2*q.1+p.2.1*q.2.2.1 - p.2.2.1*q.2.1,p.2.1*q.2.2.2 - p.2.2.2*q.2.1)
noncomputable def FC (p q:I4):I3:=(q.2.1*q.2.2.1 - q.1*q.2.2.2,p.1*q.2.2.2+p.2.2.2*q.1 - p.2.1*q.2.2.1 - p.2.2.1*q.2.1,p.2.1*p.2.2.1 - p.1*p.2.2.2)
noncomputable def Comp (f g F:I3):Prop:=∃ p q:I4,FA p q=f∧FB p q=g∧FC p q=F
theorem QJ {f g:I3} (h1:f.1=g.1) (h2:f.2.1=g.2.1) (h3:f.2.2=g.2.2):f=g:=Prod.ext h1 (Prod.ext h2 h3)
theorem Comp.swap {f g F:I3} (h:Comp f g F):Comp g f F:=by
 obtain ⟨⟨p0,p1,p2,p3⟩,⟨q0,q1,q2,q3⟩,rfl,rfl,rfl⟩:=h
 refine ⟨(p0,p2,p1,p3),(q0,q2,q1,q3),?_,?_,?_⟩ <;> simp only [FA,FB,FC,Prod.mk.injEq] <;> (refine ⟨?_,?_,?_⟩ <;> grind)
theorem Comp.meas {f g F:I3} (h:Comp f g F):meas f=meas g∧meas F=meas g:=by
 obtain ⟨⟨p0,p1,p2,p3⟩,⟨q0,q1,q2,q3⟩,rfl,rfl,rfl⟩:=h
 constructor <;> simp only [FA,FB,FC,My.meas] <;> grind
noncomputable def Qp (p:I4) (t:I4):I4:=(t.1*p.1+t.2.2.1*p.2.2.1,t.1*p.2.1+t.2.2.1*p.2.2.2,t.2.1*p.1+t.2.2.2*p.2.2.1,t.2.1*p.2.1+t.2.2.2*p.2.2.2)
theorem AnH {p q t:I4}:FA (Qp p t) (Qp q t)=mov (FA p q) t:=by
 obtain ⟨p0,p1,p2,p3⟩:=p;obtain ⟨q0,q1,q2,q3⟩:=q;obtain ⟨a,b,c,d⟩:=t
 simp only [FA,Qp,mov,val,mid,Prod.mk.injEq]
 refine ⟨?_,?_,?_⟩ <;> grind
theorem Amq {p q t:I4} (h:det t=1):FB (Qp p t) (Qp q t)=FB p q:=by
 obtain ⟨p0,p1,p2,p3⟩:=p;obtain ⟨q0,q1,q2,q3⟩:=q;obtain ⟨a,b,c,d⟩:=t
 have h:a*d - b*c=1:=h
 have e:∀ x:Int,x=(a*d - b*c)*x:=fun x=>by rw [h];omega
 simp only [FB,Qp,Prod.mk.injEq]
 refine ⟨?_,?_,?_⟩
 ·rw [e (p0*q2 - p2*q0)];grind
 ·rw [e (p0*q3 - p3*q0+p1*q2 - p2*q1)];grind
 ·rw [e (p1*q3 - p3*q1)];grind
theorem AlN {p q t:I4} (h:det t=1):FC (Qp p t) (Qp q t)=FC p q:=by
 obtain ⟨p0,p1,p2,p3⟩:=p;obtain ⟨q0,q1,q2,q3⟩:=q;obtain ⟨a,b,c,d⟩:=t
 have h:a*d - b*c=1:=h
 have e:∀ x:Int,x=(a*d - b*c)*x:=fun x=>by rw [h];omega
 simp only [FC,Qp,Prod.mk.injEq]
 refine ⟨?_,?_,?_⟩
 ·rw [e (q1*q2 - q0*q3)];grind
 ·rw [e (p0*q3+p3*q0 - p1*q2 - p2*q1)];grind
 ·rw [e (p1*p2 - p0*p3)];grind
theorem Comp.movL {f g F:I3} {t:I4} (h:Comp f g F) (dt:det t=1):Comp (mov f t) g F:=by
 obtain ⟨p,q,rfl,rfl,rfl⟩:=h
 exact ⟨Qp p t,Qp q t,AnH,Amq dt,AlN dt⟩
theorem Comp.movR {f g F:I3} {t:I4} (h:Comp f g F) (dt:det t=1):Comp f (mov g t) F:=(h.swap.movL dt).swap
noncomputable def MN (p q t:I4):I4:=(t.2.2.2*p.1 - t.2.1*q.1,t.2.2.2*p.2.1 - t.2.1*q.2.1,t.2.2.2*p.2.2.1 - t.2.1*q.2.2.1,t.2.2.2*p.2.2.2 - t.2.1*q.2.2.2)
noncomputable def Ng (p q t:I4):I4:=(t.1*q.1 - t.2.2.1*p.1,t.1*q.2.1 - t.2.2.1*p.2.1,t.1*q.2.2.1 - t.2.2.1*p.2.2.1,t.1*q.2.2.2 - t.2.2.1*p.2.2.2)
theorem AjI {p q t:I4} (h:det t=1):FA (MN p q t) (Ng p q t)=FA p q:=by
 obtain ⟨p0,p1,p2,p3⟩:=p;obtain ⟨q0,q1,q2,q3⟩:=q;obtain ⟨a,b,c,d⟩:=t
 have h:a*d - b*c=1:=h
 have e:∀ x:Int,x=(a*d - b*c)*x:=fun x=>by rw [h];omega
 simp only [FA,MN,Ng,Prod.mk.injEq]
 refine ⟨?_,?_,?_⟩
 ·rw [e (p0*q1 - p1*q0)];grind
 ·rw [e (p0*q3 - p3*q0+p2*q1 - p1*q2)];grind
 ·rw [e (p2*q3 - p3*q2)];grind
theorem AkY {p q t:I4} (h:det t=1):FB (MN p q t) (Ng p q t)=FB p q:=by
 obtain ⟨p0,p1,p2,p3⟩:=p;obtain ⟨q0,q1,q2,q3⟩:=q;obtain ⟨a,b,c,d⟩:=t
 have h:a*d - b*c=1:=h
 have e:∀ x:Int,x=(a*d - b*c)*x:=fun x=>by rw [h];omega
 simp only [FB,MN,Ng,Prod.mk.injEq]
 refine ⟨?_,?_,?_⟩
 ·rw [e (p0*q2 - p2*q0)];grind
 ·rw [e (p0*q3 - p3*q0+p1*q2 - p2*q1)];grind
 ·rw [e (p1*q3 - p3*q1)];grind
theorem Agg {p q t:I4}:FC (MN p q t) (Ng p q t)=mov (FC p q) t:=by
 obtain ⟨p0,p1,p2,p3⟩:=p;obtain ⟨q0,q1,q2,q3⟩:=q;obtain ⟨a,b,c,d⟩:=t
 simp only [FC,MN,Ng,mov,val,mid,Prod.mk.injEq]
 refine ⟨?_,?_,?_⟩ <;> grind
theorem Comp.movF {f g F:I3} {t:I4} (h:Comp f g F) (dt:det t=1):Comp f g (mov F t):=by
 obtain ⟨p,q,rfl,rfl,rfl⟩:=h
 exact ⟨MN p q t,Ng p q t,AjI dt,AkY dt,Agg⟩
theorem bez:∀ (n:Nat) (a b:Int),b.natAbs≤n→∃ u v:Int,u*a+v*b=(Int.gcd a b:Int)
 | n,a,b,h=>by
  by_cases hb:b=0
  ·subst hb
   rw [Int.gcd_zero_right]
   rcases Int.lt_or_le a 0 with z | z
   ·exact ⟨-1,0,by omega⟩
   ·exact ⟨1,0,by omega⟩
  ·have l:=Kg (a:=a) hb
   match n,h with
   | 0,h=>omega
   | n+1,h =>
    obtain ⟨u,v,e⟩:=bez n b (a.fmod b) (by omega)
    rw [Qo] at e
    refine ⟨v,u - v*a.fdiv b,?_⟩
    rw [←e,Int.fmod_def]
    grind
theorem Ug {f:I3} (h:g3 f=1):∃ i j k:Int,i*f.1+j*f.2.1+k*f.2.2=1:=by
 obtain ⟨u,v,e1⟩:=bez _ f.1 f.2.1 (Nat.le_refl _)
 obtain ⟨x,y,e2⟩:=bez _ ((Int.gcd f.1 f.2.1:Nat):Int) f.2.2 (Nat.le_refl _)
 have e3:((Int.gcd ((Int.gcd f.1 f.2.1:Nat):Int) f.2.2:Nat):Int)=1:=by
  have:(g3 f:Int)=1:=by rw [h];rfl
  exact this
 rw [e3,←e1] at e2
 exact ⟨x*u,x*v,y,by rw [←e2];grind⟩
theorem GK {pm pi pj qm qi qj rm ri rj sm si sj:Int} (h1:pm*qi - pi*qm=rm*si - ri*sm) (h2:pm*qj - pj*qm=rm*sj - rj*sm) (h3:pi*qj - pj*qi=ri*sj - rj*si) :
  rm*(pi*qj - pj*qi)=pm*(ri*qj - rj*qi)+qm*(pi*rj - pj*ri):=by
 have a1:rm*(pi*qj - pj*qi)=rm*(ri*sj - rj*si):=by rw [h3]
 have a2:ri*(pm*qj - pj*qm)=ri*(rm*sj - rj*sm):=by rw [h2]
 have a3:rj*(pm*qi - pi*qm)=rj*(rm*si - ri*sm):=by rw [h1]
 grind
theorem GP {pm pi pj qm qi qj rm ri rj sm si sj:Int} (h1:pm*qi - pi*qm=rm*si - ri*sm) (h2:pm*qj - pj*qm=rm*sj - rj*sm) (h3:pi*qj - pj*qi=ri*sj - rj*si) :
  sm*(pi*qj - pj*qi)=pm*(si*qj - sj*qi)+qm*(pi*sj - pj*si):=by
 have a1:sm*(pi*qj - pj*qi)=sm*(ri*sj - rj*si):=by rw [h3]
 have a2:si*(pm*qj - pj*qm)=si*(rm*sj - rj*sm):=by rw [h2]
 have a3:sj*(pm*qi - pi*qm)=sj*(rm*si - ri*sm):=by rw [h1]
 grind
theorem EY {pm qm rm A B C D c1 c2 c3 c4 x1 x2 x3 x4 y1 y2 y3 y4:Int} (e1:rm*A=pm*x1+qm*y1) (e2:rm*B=pm*x2+qm*y2) (e3:rm*C=pm*x3+qm*y3) (e4:rm*D=pm*x4+qm*y4) (h:c1*A+c2*B+c3*C+c4*D=1) :
  rm=(c1*x1+c2*x2+c3*x3+c4*x4)*pm+(c1*y1+c2*y2+c3*y3+c4*y4)*qm:=by
 have:rm=rm*(c1*A+c2*B+c3*C+c4*D):=by rw [h];omega
 have e:rm*(c1*A+c2*B+c3*C+c4*D)=c1*(rm*A)+c2*(rm*B)+c3*(rm*C)+c4*(rm*D):=by grind
 rw [e,e1,e2,e3,e4] at this
 rw [this]
 grind
theorem Ze {p q r s:I4} (ha:FA p q=FA r s) (hb:FB p q=FB r s) (pl:g3 (FA p q)=1):∃ t:I4,det t=1∧r=MN p q t∧s=Ng p q t:=by
 obtain ⟨i,j,k,hijk⟩:=Ug pl
 obtain ⟨p0,p1,p2,p3⟩:=p
 obtain ⟨q0,q1,q2,q3⟩:=q
 obtain ⟨r0,r1,r2,r3⟩:=r
 obtain ⟨s0,s1,s2,s3⟩:=s
 simp only [FA,FB,Prod.mk.injEq] at ha hb hijk
 obtain ⟨m01,mA,m23⟩:=ha
 obtain ⟨m02,mB,m13⟩:=hb
 have m03:p0*q3 - p3*q0=r0*s3 - r3*s0:=by omega
 have m12:p1*q2 - p2*q1=r1*s2 - r2*s1:=by omega
 have h1:i*(p0*q1 - p1*q0)+j*(p0*q3 - p3*q0)+(-j)*(p1*q2 - p2*q1)+k*(p2*q3 - p3*q2)=1:=by rw [←hijk];grind
 have z:∀ {x y:Int},x*y - x*y=0:=fun {x y}=>by omega
 have nn:∀ {a b c d:Int},a*b - c*d=0 - (c*d - a*b):=fun {a b c d}=>by omega
 have m10:p1*q0 - p0*q1=r1*s0 - r0*s1:=by omega
 have m20:p2*q0 - p0*q2=r2*s0 - r0*s2:=by omega
 have m30:p3*q0 - p0*q3=r3*s0 - r0*s3:=by omega
 have m21:p2*q1 - p1*q2=r2*s1 - r1*s2:=by omega
 have m31:p3*q1 - p1*q3=r3*s1 - r1*s3:=by omega
 have m32:p3*q2 - p2*q3=r3*s2 - r2*s3:=by omega
 have m00:p0*q0 - p0*q0=r0*s0 - r0*s0:=by omega
 have m11:p1*q1 - p1*q1=r1*s1 - r1*s1:=by omega
 have m22:p2*q2 - p2*q2=r2*s2 - r2*s2:=by omega
 have m33:p3*q3 - p3*q3=r3*s3 - r3*s3:=by omega
 have R0:=EY (GK m00 m01 m01) (GK m00 m03 m03) (GK m01 m02 m12) (GK m02 m03 m23) h1
 have R1:=EY (GK m10 m11 m01) (GK m10 m13 m03) (GK m11 m12 m12) (GK m12 m13 m23) h1
 have R2:=EY (GK m20 m21 m01) (GK m20 m23 m03) (GK m21 m22 m12) (GK m22 m23 m23) h1
 have R3:=EY (GK m30 m31 m01) (GK m30 m33 m03) (GK m31 m32 m12) (GK m32 m33 m23) h1
 have S0:=EY (GP m00 m01 m01) (GP m00 m03 m03) (GP m01 m02 m12) (GP m02 m03 m23) h1
 have S1:=EY (GP m10 m11 m01) (GP m10 m13 m03) (GP m11 m12 m12) (GP m12 m13 m23) h1
 have S2:=EY (GP m20 m21 m01) (GP m20 m23 m03) (GP m21 m22 m12) (GP m22 m23 m23) h1
 have S3:=EY (GP m30 m31 m01) (GP m30 m33 m03) (GP m31 m32 m12) (GP m32 m33 m23) h1
 obtain ⟨al,eal⟩:∃ x,x=i*(r0*q1 - r1*q0)+j*(r0*q3 - r3*q0) + -j*(r1*q2 - r2*q1)+k*(r2*q3 - r3*q2):=⟨_,rfl⟩
 obtain ⟨be,ebe⟩:∃ x,x=i*(p0*r1 - p1*r0)+j*(p0*r3 - p3*r0) + -j*(p1*r2 - p2*r1)+k*(p2*r3 - p3*r2):=⟨_,rfl⟩
 obtain ⟨ga,ega⟩:∃ x,x=i*(s0*q1 - s1*q0)+j*(s0*q3 - s3*q0) + -j*(s1*q2 - s2*q1)+k*(s2*q3 - s3*q2):=⟨_,rfl⟩
 obtain ⟨de,ede⟩:∃ x,x=i*(p0*s1 - p1*s0)+j*(p0*s3 - p3*s0) + -j*(p1*s2 - p2*s1)+k*(p2*s3 - p3*s2):=⟨_,rfl⟩
 rw [←eal,←ebe] at R0 R1 R2 R3
 rw [←ega,←ede] at S0 S1 S2 S3
 refine ⟨(de,-be,-ga,al),?_,?_,?_⟩
 ·show de*al - -be * -ga=1
  have k1:(de*al - -be * -ga)*(p0*q1 - p1*q0)=p0*q1 - p1*q0:=by rw [m01,R0,R1,S0,S1];grind
  have k2:(de*al - -be * -ga)*(p0*q3 - p3*q0)=p0*q3 - p3*q0:=by rw [m03,R0,R3,S0,S3];grind
  have k3:(de*al - -be * -ga)*(p1*q2 - p2*q1)=p1*q2 - p2*q1:=by rw [m12,R1,R2,S1,S2];grind
  have k4:(de*al - -be * -ga)*(p2*q3 - p3*q2)=p2*q3 - p3*q2:=by rw [m23,R2,R3,S2,S3];grind
  generalize de*al - -be * -ga=D at *
  have:D=D*(i*(p0*q1 - p1*q0)+j*(p0*q3 - p3*q0) + -j*(p1*q2 - p2*q1)+k*(p2*q3 - p3*q2)):=by rw [h1];omega
  have e:D*(i*(p0*q1 - p1*q0)+j*(p0*q3 - p3*q0) + -j*(p1*q2 - p2*q1)+k*(p2*q3 - p3*q2))=i*(D*(p0*q1 - p1*q0))+j*(D*(p0*q3 - p3*q0)) + -j*(D*(p1*q2 - p2*q1))+k*(D*(p2*q3 - p3*q2)):=by grind
  rw [e,k1,k2,k3,k4,h1] at this
  exact this
 ·simp only [MN,Prod.mk.injEq]
  refine ⟨?_,?_,?_,?_⟩
  ·rw [R0];grind
  ·rw [R1];grind
  ·rw [R2];grind
  ·rw [R3];grind
 ·simp only [Ng,Prod.mk.injEq]
  refine ⟨?_,?_,?_,?_⟩
  ·rw [S0];grind
  ·rw [S1];grind
  ·rw [S2];grind
  ·rw [S3];grind
theorem Comp.same {f g F G:I3} (A:Comp f g F) (B:Comp f g G) (pl:g3 f=1):∃ t,det t=1∧mov F t=G:=by
 obtain ⟨p,q,a1,a2,a3⟩:=A
 obtain ⟨r,s,b1,b2,b3⟩:=B
 obtain ⟨t,dt,er,es⟩:=Ze (p:=p) (q:=q) (r:=r) (s:=s) (a1.trans b1.symm) (a2.trans b2.symm) (by rw [a1];exact pl)
 refine ⟨t,dt,?_⟩
 rw [←b3,er,es,Agg,a3]
theorem Ny {a b d e:Int}:Comp (a,b,d*e) (d,b,a*e) (a*d,b,e):=by
 refine ⟨(1,0,0,-e),(0,a,d,b),?_,?_,?_⟩ <;> simp only [FA,FB,FC,Prod.mk.injEq] <;> (refine ⟨?_,?_,?_⟩ <;> grind)
end My
namespace My
open PySem L2
noncomputable def jS (f h:I3):Int:=(f.2.1+h.2.1).fdiv 2
noncomputable def jA (f h:I3) (g:Int):Int:=(f.1*h.1).fdiv (g*g)
noncomputable def jB (f h:I3) (g j k:Int):Int:=(h.2.1+2*h.1.fdiv g*(j*(jS f h - h.2.1) - k*h.2.2)).fmod (2*jA f h g)
noncomputable def jF (f h:I3) (g j k:Int):I3:=(jA f h g,jB f h g j k,(jB f h g j k*jB f h g j k - meas f).fdiv (4*jA f h g))
noncomputable def jP (f h:I3) (g B:Int):I4:=(g,(g*(h.2.1 - B)).fdiv (2*h.1),(g*(f.2.1 - B)).fdiv (2*f.1),(g*(f.2.1*h.2.1+meas f - 2*B*jS f h)).fdiv (4*f.1*h.1))
noncomputable def jQ (f h:I3) (g:Int):I4:=(0,f.1.fdiv g,h.1.fdiv g,(jS f h).fdiv g)
theorem RK {f h:I3} (hm:meas f=meas h):f.2.1+h.2.1=2*jS f h:=by
 have hm:f.2.1*f.2.1 - 4*f.1*f.2.2=h.2.1*h.2.1 - 4*h.1*h.2.2:=hm
 have e:(f.2.1+h.2.1) % 2=0:=by
  have e1:f.2.1*f.2.1 - h.2.1*h.2.1=4*(f.1*f.2.2 - h.1*h.2.2):=by grind
  have e2:(f.2.1+h.2.1)*(f.2.1 - h.2.1)=4*(f.1*f.2.2 - h.1*h.2.2):=by rw [←e1];grind
  rcases (show (f.2.1+h.2.1) % 2=0∨(f.2.1+h.2.1) % 2=1 by omega) with z | z
  ·exact z
  ·obtain ⟨x,hx⟩:∃ x,f.2.1+h.2.1=2*x+1:=⟨(f.2.1+h.2.1) / 2,by omega⟩
   obtain ⟨y,hy⟩:∃ y,f.2.1 - h.2.1=2*y+1:=⟨(f.2.1 - h.2.1) / 2,by omega⟩
   rw [hx,hy] at e2
   have:(2*x+1)*(2*y+1)=2*(2*(x*y)+x+y)+1:=by grind
   omega
 unfold jS
 rw [Int.fdiv_eq_ediv_of_nonneg _ (by decide)]
 omega
theorem Va {f h:I3} {g i j k:Int} (ha:f.1≠0) (hd:h.1≠0) (hm:meas f=meas h) (g0:g≠0) (ga:g∣f.1) (gd:g∣h.1) (gs:g∣jS f h) (hB:i*f.1+j*h.1+k*jS f h=g) :
  FA (jP f h g (jB f h g j k)) (jQ f h g)=f∧FB (jP f h g (jB f h g j k)) (jQ f h g)=h∧FC (jP f h g (jB f h g j k)) (jQ f h g)=jF f h g j k:=by
 have hs:=RK hm
 obtain ⟨a,b,c⟩:=f
 obtain ⟨d,e,c'⟩:=h
 obtain ⟨s,es⟩:∃ s,jS (a,b,c) (d,e,c')=s:=⟨_,rfl⟩
 have hm':b*b - 4*a*c=e*e - 4*d*c':=hm
 unfold jF jP jQ
 have eA:jA (a,b,c) (d,e,c') g=jA (a,b,c) (d,e,c') g:=rfl
 rw [es] at hs gs hB
 unfold jB jA
 rw [es]
 simp only at *
 obtain ⟨a1,rfl⟩:=ga
 obtain ⟨d1,rfl⟩:=gd
 obtain ⟨s1,rfl⟩:=gs
 have fa:(g*a1).fdiv g=a1:=Int.mul_fdiv_cancel_left _ g0
 have fd:(g*d1).fdiv g=d1:=Int.mul_fdiv_cancel_left _ g0
 have fs:(g*s1).fdiv g=s1:=Int.mul_fdiv_cancel_left _ g0
 have fA:(g*a1*(g*d1)).fdiv (g*g)=a1*d1:=by
  have:g*a1*(g*d1)=g*g*(a1*d1):=by grind
  rw [this]
  exact Int.mul_fdiv_cancel_left _ (Int.mul_ne_zero g0 g0)
 rw [fa,fd,fs,fA]
 have a0:a1≠0:=fun z=>ha (by rw [z];simp)
 have d0:d1≠0:=fun z=>hd (by rw [z];simp)
 have one:i*a1+j*d1+k*s1=1:=by
  have:g*(i*a1+j*d1+k*s1)=g*1:=by rw [←hB];grind
  exact Int.eq_of_mul_eq_mul_left g0 this
 have eb:b=2*(g*s1) - e:=by omega
 have key:s1*(g*s1 - e)=a1*c - d1*c':=by
  refine Int.eq_of_mul_eq_mul_left (a:=4*g) (by omega) ?_
  have:b*b - e*e=4*(g*a1)*c - 4*(g*d1)*c':=by omega
  rw [eb] at this
  grind
 obtain ⟨u,eu⟩:∃ u,u=j*(g*s1 - e) - k*c':=⟨_,rfl⟩
 obtain ⟨v,ev⟩:∃ v,v=-(i*(g*s1 - e)) - k*c:=⟨_,rfl⟩
 rw [←eu]
 have uv:u*d1 - v*a1=g*s1 - e:=by
  have:u*d1 - v*a1=(g*s1 - e)*(i*a1+j*d1+k*s1) - k*(s1*(g*s1 - e) - (a1*c - d1*c')):=by rw [eu,ev];grind
  rw [this,one,key];omega
 have k1:(i*c'+j*c)*d1 - v*s1=c:=by
  have:(i*c'+j*c)*d1 - v*s1=c*(i*a1+j*d1+k*s1)+i*(s1*(g*s1 - e) - (a1*c - d1*c')):=by rw [ev];grind
  rw [this,one,key];omega
 have k2:(i*c'+j*c)*a1 - u*s1=c':=by
  have:(i*c'+j*c)*a1 - u*s1=c'*(i*a1+j*d1+k*s1) - j*(s1*(g*s1 - e) - (a1*c - d1*c')):=by rw [eu];grind
  rw [this,one,key];omega
 obtain ⟨M,eM⟩:∃ M,(e+2*d1*u).fmod (2*(a1*d1))=e+2*d1*u - 2*(a1*d1)*M:=⟨(e+2*d1*u).fdiv (2*(a1*d1)),by rw [Int.fmod_def]⟩
 rw [eM]
 have A0:a1*d1≠0:=Int.mul_ne_zero a0 d0
 have q1:(g*(e - (e+2*d1*u - 2*(a1*d1)*M))).fdiv (2*(g*d1))=a1*M - u:=by
  have:g*(e - (e+2*d1*u - 2*(a1*d1)*M))=2*(g*d1)*(a1*M - u):=by grind
  rw [this]
  exact Int.mul_fdiv_cancel_left _ (by have:=Int.mul_ne_zero g0 d0;omega)
 have q2:(g*(b - (e+2*d1*u - 2*(a1*d1)*M))).fdiv (2*(g*a1))=d1*M - v:=by
  have:g*(b - (e+2*d1*u - 2*(a1*d1)*M))=2*(g*a1)*(d1*M - v):=by
   have:g*(b - (e+2*d1*u - 2*(a1*d1)*M))=2*(g*a1)*(d1*M - v)+2*g*((g*s1 - e) - (u*d1 - v*a1)):=by rw [eb];grind
   rw [this,uv];omega
  rw [this]
  exact Int.mul_fdiv_cancel_left _ (by have:=Int.mul_ne_zero g0 a0;omega)
 have q3:(g*(b*e+meas (g*a1,b,c) - 2*(e+2*d1*u - 2*(a1*d1)*M)*(g*s1))).fdiv (4*(g*a1)*(g*d1))=s1*M - (i*c'+j*c):=by
  have e1:meas (g*a1,b,c)=e*e - 4*(g*d1)*c':=hm
  have:g*(b*e+meas (g*a1,b,c) - 2*(e+2*d1*u - 2*(a1*d1)*M)*(g*s1))=4*(g*a1)*(g*d1)*(s1*M - (i*c'+j*c)):=by
   rw [e1]
   have:g*(b*e+(e*e - 4*(g*d1)*c') - 2*(e+2*d1*u - 2*(a1*d1)*M)*(g*s1))=4*(g*a1)*(g*d1)*(s1*M - (i*c'+j*c))+4*(g*g*d1)*(((i*c'+j*c)*a1 - u*s1) - c'):=by rw [eb];grind
   rw [this,k2];omega
  rw [this]
  refine Int.mul_fdiv_cancel_left _ ?_
  have:=Int.mul_ne_zero (Int.mul_ne_zero g0 a0) (Int.mul_ne_zero g0 d0)
  have:4*(g*a1)*(g*d1)=4*(g*a1*(g*d1)):=by grind
  omega
 rw [q1,q2,q3]
 have eB:e+2*d1*u - 2*(a1*d1)*M=g*s1 - (a1*M - u)*d1 - (d1*M - v)*a1:=by
  have:e+2*d1*u - 2*(a1*d1)*M=g*s1 - (a1*M - u)*d1 - (d1*M - v)*a1+((u*d1 - v*a1) - (g*s1 - e)):=by grind
  rw [this,uv];omega
 have hA:FA (g,a1*M - u,d1*M - v,s1*M - (i*c'+j*c)) (0,a1,d1,s1)=(g*a1,b,c):=by
  simp only [FA,Prod.mk.injEq]
  refine ⟨by omega,?_,?_⟩
  ·rw [eb]
   have:g*s1 - (s1*M - (i*c'+j*c))*0+(d1*M - v)*a1 - (a1*M - u)*d1=g*s1+(u*d1 - v*a1):=by grind
   rw [this,uv];omega
  ·have:(d1*M - v)*s1 - (s1*M - (i*c'+j*c))*d1=(i*c'+j*c)*d1 - v*s1:=by grind
   rw [this,k1]
 have hBf:FB (g,a1*M - u,d1*M - v,s1*M - (i*c'+j*c)) (0,a1,d1,s1)=(g*d1,e,c'):=by
  simp only [FB,Prod.mk.injEq]
  refine ⟨by omega,?_,?_⟩
  ·have:g*s1 - (s1*M - (i*c'+j*c))*0+(a1*M - u)*d1 - (d1*M - v)*a1=g*s1 - (u*d1 - v*a1):=by grind
   rw [this,uv];omega
  ·have:(a1*M - u)*s1 - (s1*M - (i*c'+j*c))*a1=(i*c'+j*c)*a1 - u*s1:=by grind
   rw [this,k2]
 refine ⟨hA,hBf,?_⟩
 have hC:=(Comp.meas ⟨_,_,hA,hBf,rfl⟩).2
 have e1:(FC (g,a1*M - u,d1*M - v,s1*M - (i*c'+j*c)) (0,a1,d1,s1)).1=a1*d1:=by simp only [FC];omega
 have e2:(FC (g,a1*M - u,d1*M - v,s1*M - (i*c'+j*c)) (0,a1,d1,s1)).2.1=e+2*d1*u - 2*(a1*d1)*M:=by rw [eB];simp only [FC];omega
 refine QJ e1 e2 ?_
 generalize FC (g,a1*M - u,d1*M - v,s1*M - (i*c'+j*c)) (0,a1,d1,s1)=Z at *
 obtain ⟨z1,z2,z3⟩:=Z
 have e1:z1=a1*d1:=e1
 have e2:z2=e+2*d1*u - 2*(a1*d1)*M:=e2
 have hC:z2*z2 - 4*z1*z3=meas (g*d1,e,c'):=hC
 show z3=_
 rw [←e2,←e1]
 have:z2*z2 - meas (g*a1,b,c)=4*z1*z3:=by rw [hm];omega
 rw [this]
 exact (Int.mul_fdiv_cancel_left _ (by rw [e1];omega)).symm
end My
namespace My
open PySem L2
theorem Ja {p q:I4} (x y z w:Int):val (FC p q) (p.1*(x*z)+p.2.1*(x*w)+p.2.2.1*(y*z)+p.2.2.2*(y*w),q.1*(x*z)+q.2.1*(x*w)+q.2.2.1*(y*z)+q.2.2.2*(y*w))=val (FA p q) (x,y)*val (FB p q) (z,w):=by
 obtain ⟨p0,p1,p2,p3⟩:=p;obtain ⟨q0,q1,q2,q3⟩:=q
 simp only [FA,FB,FC,val]
 grind
theorem AcL {c:Int} {F:I3} (h1:c∣F.1) (h2:c∣F.2.1) (h3:c∣F.2.2) (v:I2):c∣val F v:=by
 obtain ⟨a,ha⟩:=h1
 obtain ⟨b,hb⟩:=h2
 obtain ⟨d,hd⟩:=h3
 refine ⟨a*v.1*v.1+b*v.1*v.2+d*v.2*v.2,?_⟩
 show F.1*v.1*v.1+F.2.1*v.1*v.2+F.2.2*v.2*v.2=_
 rw [ha,hb,hd]
 grind
theorem Comp.plain {f g F:I3} (C:Comp f g F) (pf:g3 f=1) (pg:g3 g=1):g3 F=1:=by
 obtain ⟨p,q,hf,hg,hF⟩:=C
 obtain ⟨d1,d2,d3⟩:=W7 F
 have D:∀ x y z w:Int,(g3 F:Int)∣val f (x,y)*val g (z,w):=fun x y z w=>by
  rw [←hf,←hg,←Ja x y z w,hF]
  exact AcL d1 d2 d3 _
 obtain ⟨i,j,k,e1⟩:=Ug pf
 obtain ⟨l,m,n,e2⟩:=Ug pg
 have v1:val f (1,0)=f.1:=by simp [val]
 have v2:val f (0,1)=f.2.2:=by simp [val]
 have v3:val f (1,1)=f.1+f.2.1+f.2.2:=by simp [val]
 have w1:val g (1,0)=g.1:=by simp [val]
 have w2:val g (0,1)=g.2.2:=by simp [val]
 have w3:val g (1,1)=g.1+g.2.1+g.2.2:=by simp [val]
 have one:(g3 F:Int)∣1:=by
  have E:∀ z w:Int,(g3 F:Int)∣val g (z,w):=fun z w=>by
   have a1:=D 1 0 z w
   have a2:=D 0 1 z w
   have a3:=D 1 1 z w
   rw [v1] at a1;rw [v2] at a2;rw [v3] at a3
   obtain ⟨b1,h1⟩:=a1
   obtain ⟨b2,h2⟩:=a2
   obtain ⟨b3,h3⟩:=a3
   refine ⟨i*b1+j*(b3 - b1 - b2)+k*b2,?_⟩
   have:val g (z,w)=(i*f.1+j*f.2.1+k*f.2.2)*val g (z,w):=by rw [e1];omega
   rw [this]
   generalize val g (z,w)=V at *
   have:(i*f.1+j*f.2.1+k*f.2.2)*V=i*(f.1*V)+j*((f.1+f.2.1+f.2.2)*V - f.1*V - f.2.2*V)+k*(f.2.2*V):=by grind
   rw [this,h1,h2,h3]
   grind
  have a1:=E 1 0
  have a2:=E 0 1
  have a3:=E 1 1
  rw [w1] at a1;rw [w2] at a2;rw [w3] at a3
  obtain ⟨b1,h1⟩:=a1
  obtain ⟨b2,h2⟩:=a2
  obtain ⟨b3,h3⟩:=a3
  refine ⟨l*b1+m*(b3 - b1 - b2)+n*b2,?_⟩
  rw [←e2]
  have:l*g.1+m*g.2.1+n*g.2.2=l*g.1+m*((g.1+g.2.1+g.2.2) - g.1 - g.2.2)+n*g.2.2:=by grind
  rw [this,h3,h1,h2]
  grind
 have:=Int.eq_one_of_dvd_one (by omega) one
 omega
theorem Zj {a b c:Int}:Comp (1,b,a*c) (a,b,c) (a,b,c):=by
 have:=Ny (a:=1) (b:=b) (d:=a) (e:=c)
 rw [Int.one_mul,Int.one_mul] at this
 exact this
theorem AaG {a b c:Int}:Comp (a,b,c) (c,b,a) (a*c,b,1):=by
 have:=Ny (a:=a) (b:=b) (d:=c) (e:=1)
 rw [Int.mul_one,Int.mul_one] at this
 exact this
end My
namespace My
open PySem L2
theorem Fb {c pm pi pj qm qi qj rm ri rj sm si sj:Int} (c0:c≠0) (h1:c*(pm*qi - pi*qm)=rm*si - ri*sm) (h2:c*(pm*qj - pj*qm)=rm*sj - rj*sm) (h3:c*(pi*qj - pj*qi)=ri*sj - rj*si) :
  rm*(pi*qj - pj*qi)=pm*(ri*qj - rj*qi)+qm*(pi*rj - pj*ri):=by
 have a1:rm*(c*(pi*qj - pj*qi))=rm*(ri*sj - rj*si):=by rw [h3]
 have a2:ri*(c*(pm*qj - pj*qm))=ri*(rm*sj - rj*sm):=by rw [h2]
 have a3:rj*(c*(pm*qi - pi*qm))=rj*(rm*si - ri*sm):=by rw [h1]
 exact Int.eq_of_mul_eq_mul_left c0 (by grind)
theorem Ey {c pm pi pj qm qi qj rm ri rj sm si sj:Int} (c0:c≠0) (h1:c*(pm*qi - pi*qm)=rm*si - ri*sm) (h2:c*(pm*qj - pj*qm)=rm*sj - rj*sm) (h3:c*(pi*qj - pj*qi)=ri*sj - rj*si) :
  sm*(pi*qj - pj*qi)=pm*(si*qj - sj*qi)+qm*(pi*sj - pj*si):=by
 have a1:sm*(c*(pi*qj - pj*qi))=sm*(ri*sj - rj*si):=by rw [h3]
 have a2:si*(c*(pm*qj - pj*qm))=si*(rm*sj - rj*sm):=by rw [h2]
 have a3:sj*(c*(pm*qi - pi*qm))=sj*(rm*si - ri*sm):=by rw [h1]
 exact Int.eq_of_mul_eq_mul_left c0 (by grind)
noncomputable def lin (x y:Int) (p q:I4):I4:=(x*p.1+y*q.1,x*p.2.1+y*q.2.1,x*p.2.2.1+y*q.2.2.1,x*p.2.2.2+y*q.2.2.2)
theorem Qm {p q r s:I4} {c:Int} (c0:c≠0) (ha:FA r s=(c*(FA p q).1,c*(FA p q).2.1,c*(FA p q).2.2)) (hb:FB r s=(c*(FB p q).1,c*(FB p q).2.1,c*(FB p q).2.2)) (pl:g3 (FA p q)=1) :
  ∃ al be ga de:Int,r=lin al be p q∧s=lin ga de p q:=by
 obtain ⟨i,j,k,hijk⟩:=Ug pl
 obtain ⟨p0,p1,p2,p3⟩:=p
 obtain ⟨q0,q1,q2,q3⟩:=q
 obtain ⟨r0,r1,r2,r3⟩:=r
 obtain ⟨s0,s1,s2,s3⟩:=s
 simp only [FA,FB,Prod.mk.injEq] at ha hb hijk
 obtain ⟨m01,mA,m23⟩:=ha
 obtain ⟨m02,mB,m13⟩:=hb
 have e03:c*(p0*q3 - p3*q0+p2*q1 - p1*q2)+c*(p0*q3 - p3*q0+p1*q2 - p2*q1)=2*(c*(p0*q3 - p3*q0)):=by grind
 have e12:c*(p0*q3 - p3*q0+p1*q2 - p2*q1) - c*(p0*q3 - p3*q0+p2*q1 - p1*q2)=2*(c*(p1*q2 - p2*q1)):=by grind
 have m01:c*(p0*q1 - p1*q0)=r0*s1 - r1*s0:=m01.symm
 have m23:c*(p2*q3 - p3*q2)=r2*s3 - r3*s2:=m23.symm
 have m02:c*(p0*q2 - p2*q0)=r0*s2 - r2*s0:=m02.symm
 have m13:c*(p1*q3 - p3*q1)=r1*s3 - r3*s1:=m13.symm
 have m03:c*(p0*q3 - p3*q0)=r0*s3 - r3*s0:=by omega
 have m12:c*(p1*q2 - p2*q1)=r1*s2 - r2*s1:=by omega
 have h1:i*(p0*q1 - p1*q0)+j*(p0*q3 - p3*q0)+(-j)*(p1*q2 - p2*q1)+k*(p2*q3 - p3*q2)=1:=by rw [←hijk];grind
 have ng:∀ {x y z w:Int},c*(x*y - z*w)=c * -(z*w - x*y):=fun {x y z w}=>by congr 1;omega
 have m10:c*(p1*q0 - p0*q1)=r1*s0 - r0*s1:=by rw [ng,Int.mul_neg,m01];omega
 have m20:c*(p2*q0 - p0*q2)=r2*s0 - r0*s2:=by rw [ng,Int.mul_neg,m02];omega
 have m30:c*(p3*q0 - p0*q3)=r3*s0 - r0*s3:=by rw [ng,Int.mul_neg,m03];omega
 have m21:c*(p2*q1 - p1*q2)=r2*s1 - r1*s2:=by rw [ng,Int.mul_neg,m12];omega
 have m31:c*(p3*q1 - p1*q3)=r3*s1 - r1*s3:=by rw [ng,Int.mul_neg,m13];omega
 have m32:c*(p3*q2 - p2*q3)=r3*s2 - r2*s3:=by rw [ng,Int.mul_neg,m23];omega
 have zz:∀ {x y z w:Int},c*(x*y - x*y)=z*w - z*w:=fun {x y z w}=>by rw [Int.sub_self,Int.mul_zero,Int.sub_self]
 have m00:c*(p0*q0 - p0*q0)=r0*s0 - r0*s0:=zz
 have m11:c*(p1*q1 - p1*q1)=r1*s1 - r1*s1:=zz
 have m22:c*(p2*q2 - p2*q2)=r2*s2 - r2*s2:=zz
 have m33:c*(p3*q3 - p3*q3)=r3*s3 - r3*s3:=zz
 have R0:=EY (Fb c0 m00 m01 m01) (Fb c0 m00 m03 m03) (Fb c0 m01 m02 m12) (Fb c0 m02 m03 m23) h1
 have R1:=EY (Fb c0 m10 m11 m01) (Fb c0 m10 m13 m03) (Fb c0 m11 m12 m12) (Fb c0 m12 m13 m23) h1
 have R2:=EY (Fb c0 m20 m21 m01) (Fb c0 m20 m23 m03) (Fb c0 m21 m22 m12) (Fb c0 m22 m23 m23) h1
 have R3:=EY (Fb c0 m30 m31 m01) (Fb c0 m30 m33 m03) (Fb c0 m31 m32 m12) (Fb c0 m32 m33 m23) h1
 have S0:=EY (Ey c0 m00 m01 m01) (Ey c0 m00 m03 m03) (Ey c0 m01 m02 m12) (Ey c0 m02 m03 m23) h1
 have S1:=EY (Ey c0 m10 m11 m01) (Ey c0 m10 m13 m03) (Ey c0 m11 m12 m12) (Ey c0 m12 m13 m23) h1
 have S2:=EY (Ey c0 m20 m21 m01) (Ey c0 m20 m23 m03) (Ey c0 m21 m22 m12) (Ey c0 m22 m23 m23) h1
 have S3:=EY (Ey c0 m30 m31 m01) (Ey c0 m30 m33 m03) (Ey c0 m31 m32 m12) (Ey c0 m32 m33 m23) h1
 exact ⟨i*(r0*q1 - r1*q0)+j*(r0*q3 - r3*q0) + -j*(r1*q2 - r2*q1)+k*(r2*q3 - r3*q2),i*(p0*r1 - p1*r0)+j*(p0*r3 - p3*r0) + -j*(p1*r2 - p2*r1)+k*(p2*r3 - p3*r2),
  i*(s0*q1 - s1*q0)+j*(s0*q3 - s3*q0) + -j*(s1*q2 - s2*q1)+k*(s2*q3 - s3*q2),i*(p0*s1 - p1*s0)+j*(p0*s3 - p3*s0) + -j*(p1*s2 - p2*s1)+k*(p2*s3 - p3*s2),
  Prod.ext R0 (Prod.ext R1 (Prod.ext R2 R3)),Prod.ext S0 (Prod.ext S1 (Prod.ext S2 S3))⟩
theorem TY {p q:I4} {a b c d:Int}:FA (lin a b p q) (lin c d p q)=((a*d - b*c)*(FA p q).1,(a*d - b*c)*(FA p q).2.1,(a*d - b*c)*(FA p q).2.2):=by
 obtain ⟨p0,p1,p2,p3⟩:=p
 obtain ⟨q0,q1,q2,q3⟩:=q
 simp only [FA,lin,Prod.mk.injEq]
 refine ⟨by grind,by grind,by grind⟩
noncomputable def up0 (r p q:I4):I4:=(r.1*p.1+r.2.2.1*q.1,r.2.1*p.1+r.2.2.2*q.1,r.1*p.2.1+r.2.2.1*q.2.1,r.2.1*p.2.1+r.2.2.2*q.2.1)
noncomputable def up1 (r p q:I4):I4:=(r.1*p.2.2.1+r.2.2.1*q.2.2.1,r.2.1*p.2.2.1+r.2.2.2*q.2.2.1,r.1*p.2.2.2+r.2.2.1*q.2.2.2,r.2.1*p.2.2.2+r.2.2.2*q.2.2.2)
theorem Z9 {A B C x y z w:Int} (d:x*w - y*z≠0) (h1:A*x*x+B*x*y+C*y*y=0) (h2:A*z*z+B*z*w+C*w*w=0) (h3:A*(x+z)*(x+z)+B*(x+z)*(y+w)+C*(y+w)*(y+w)=0):A=0∧B=0∧C=0:=by
 have h4:2*A*x*z+B*(x*w+y*z)+2*C*y*w=0:=by grind
 have d2:(x*w - y*z)*(x*w - y*z)≠0:=Int.mul_ne_zero d d
 refine ⟨?_,?_,?_⟩
 ·refine (Int.mul_eq_zero.mp (?_:(x*w - y*z)*(x*w - y*z)*A=0)).resolve_left d2
  grind
 ·refine (Int.mul_eq_zero.mp (?_:(x*w - y*z)*(x*w - y*z)*B=0)).resolve_left d2
  grind
 ·refine (Int.mul_eq_zero.mp (?_:(x*w - y*z)*(x*w - y*z)*C=0)).resolve_left d2
  grind
theorem Xk {p q r s:I4} {x y:Int} (e:FA r s=FC p q):FA (lin x y (up0 r p q) (up1 r p q)) (lin x y (up0 s p q) (up1 s p q))=(val (FA p q) (x,y)*(FB p q).1,val (FA p q) (x,y)*(FB p q).2.1,val (FA p q) (x,y)*(FB p q).2.2) ∧
  FB (lin x y (up0 r p q) (up1 r p q)) (lin x y (up0 s p q) (up1 s p q))=(val (FA p q) (x,y)*(FB r s).1,val (FA p q) (x,y)*(FB r s).2.1,val (FA p q) (x,y)*(FB r s).2.2):=by
 obtain ⟨p0,p1,p2,p3⟩:=p
 obtain ⟨q0,q1,q2,q3⟩:=q
 obtain ⟨r0,r1,r2,r3⟩:=r
 obtain ⟨s0,s1,s2,s3⟩:=s
 simp only [FA,FC,Prod.mk.injEq] at e
 obtain ⟨e1,e2,e3⟩:=e
 constructor
 ·obtain ⟨X,hX⟩:∃ X,X=x*p0+y*p2:=⟨_,rfl⟩
  obtain ⟨Y,hY⟩:∃ X,X=x*q0+y*q2:=⟨_,rfl⟩
  obtain ⟨Z,hZ⟩:∃ X,X=x*p1+y*p3:=⟨_,rfl⟩
  obtain ⟨U,hU⟩:∃ X,X=x*q1+y*q3:=⟨_,rfl⟩
  have l0:lin x y (up0 (r0,r1,r2,r3) (p0,p1,p2,p3) (q0,q1,q2,q3)) (up1 (r0,r1,r2,r3) (p0,p1,p2,p3) (q0,q1,q2,q3))=(r0*X+r2*Y,r1*X+r3*Y,r0*Z+r2*U,r1*Z+r3*U):=by
   simp only [lin,up0,up1,Prod.mk.injEq,hX,hY,hZ,hU]
   refine ⟨by grind,by grind,by grind,by grind⟩
  have l1:lin x y (up0 (s0,s1,s2,s3) (p0,p1,p2,p3) (q0,q1,q2,q3)) (up1 (s0,s1,s2,s3) (p0,p1,p2,p3) (q0,q1,q2,q3))=(s0*X+s2*Y,s1*X+s3*Y,s0*Z+s2*U,s1*Z+s3*U):=by
   simp only [lin,up0,up1,Prod.mk.injEq,hX,hY,hZ,hU]
   refine ⟨by grind,by grind,by grind,by grind⟩
  rw [l0,l1]
  have k1:(r0*X+r2*Y)*(s1*X+s3*Y) - (r1*X+r3*Y)*(s0*X+s2*Y)=(r0*s1 - r1*s0)*(X*X)+(r0*s3 - r3*s0+r2*s1 - r1*s2)*(X*Y)+(r2*s3 - r3*s2)*(Y*Y):=by grind
  have k3:(r0*Z+r2*U)*(s1*Z+s3*U) - (r1*Z+r3*U)*(s0*Z+s2*U)=(r0*s1 - r1*s0)*(Z*Z)+(r0*s3 - r3*s0+r2*s1 - r1*s2)*(Z*U)+(r2*s3 - r3*s2)*(U*U):=by grind
  have k2:(r0*X+r2*Y)*(s1*Z+s3*U) - (r1*Z+r3*U)*(s0*X+s2*Y)+(r0*Z+r2*U)*(s1*X+s3*Y) - (r1*X+r3*Y)*(s0*Z+s2*U)=(r0*s1 - r1*s0)*(2*X*Z)+(r0*s3 - r3*s0+r2*s1 - r1*s2)*(X*U+Z*Y)+(r2*s3 - r3*s2)*(2*Y*U):=by grind
  rw [e1,e2,e3] at k1 k2 k3
  simp only [FA,FB,val,Prod.mk.injEq]
  refine ⟨?_,?_,?_⟩
  ·rw [k1,hX,hY];grind
  ·rw [k2,hX,hY,hZ,hU];grind
  ·rw [k3,hZ,hU];grind
 ·simp only [FA,FB,val,lin,up0,up1,Prod.mk.injEq]
  refine ⟨by grind,by grind,by grind⟩
theorem YL (r p q:I4):(FA (up0 r p q) (up1 r p q)).1=(FB p q).1*(r.1*r.2.2.2 - r.2.1*r.2.2.1):=by
 simp only [FA,FB,up0,up1]
 grind
theorem AfC (r s p q:I4):(FA (up0 r p q) (up1 s p q)).1+(FA (up0 s p q) (up1 r p q)).1=(FB p q).1*(r.1*s.2.2.2 - r.2.1*s.2.2.1+(s.1*r.2.2.2 - s.2.1*r.2.2.1)):=by
 simp only [FA,FB,up0,up1]
 grind
theorem Ot {t u:I4} {g:I3} (c1:FA t u=g) (a b c d:Int):(FA (lin a b t u) (lin c d t u)).1=(a*d - b*c)*g.1:=by rw [TY,c1]
set_option maxHeartbeats 1000000 in
theorem Adv {f g h V V' W:I3} {p q r s t u m n:I4} (a1:FA p q=f) (a2:FB p q=g) (a3:FC p q=V) (b1:FA r s=V) (b2:FB r s=h) (b3:FC r s=W) (c1:FA t u=g) (c2:FB t u=h) (c3:FC t u=V')
  (fa:FA m n=f) (fc:FC m n=W) (R0:up0 r p q=lin m.1 m.2.1 t u) (S0:up0 s p q=lin n.1 n.2.1 t u) (f1:f.1≠0) (h1:h.1≠0):FB m n=V':=by
 have v10:val f (1,0)=f.1:=by simp [val]
 have fin:∀ y z:Int,val (FB m n) (y*t.1+z*t.2.2.1,y*u.1+z*u.2.2.1)=val V' (y*t.1+z*t.2.2.1,y*u.1+z*u.2.2.1):=fun y z=>by
  have k1:=Ja (p:=m) (q:=n) 1 0 (y*t.1+z*t.2.2.1) (y*u.1+z*u.2.2.1)
  have k2:=Ja (p:=t) (q:=u) y z 1 0
  have k3:=Ja (p:=r) (q:=s) (y*p.1+z*p.2.1) (y*q.1+z*q.2.1) 1 0
  have k4:=Ja (p:=p) (q:=q) 1 0 y z
  have R00:=congrArg (fun v:I4=>v.1) R0
  have R02:=congrArg (fun v:I4=>v.2.2.1) R0
  have S00:=congrArg (fun v:I4=>v.1) S0
  have S02:=congrArg (fun v:I4=>v.2.2.1) S0
  simp only [up0,lin] at R00 R02 S00 S02
  rw [fa,fc,v10] at k1
  rw [c1,c2,c3] at k2
  rw [b1,b2,b3] at k3
  rw [a1,a2,a3,v10] at k4
  have h10:val h (1,0)=h.1:=by simp [val]
  rw [h10] at k2 k3
  simp only [Int.mul_one,Int.mul_zero,Int.one_mul,Int.zero_mul,Int.add_zero] at k1 k2 k3 k4
  rw [Int.mul_comm t.1 y,Int.mul_comm t.2.2.1 z,Int.mul_comm u.1 y,Int.mul_comm u.2.2.1 z] at k2
  rw [Int.mul_comm p.1 y,Int.mul_comm p.2.1 z,Int.mul_comm q.1 y,Int.mul_comm q.2.1 z] at k4
  rw [k4] at k3
  have eX:m.1*(y*t.1+z*t.2.2.1)+m.2.1*(y*u.1+z*u.2.2.1)=r.1*(y*p.1+z*p.2.1)+r.2.2.1*(y*q.1+z*q.2.1):=by grind
  have eY:n.1*(y*t.1+z*t.2.2.1)+n.2.1*(y*u.1+z*u.2.2.1)=s.1*(y*p.1+z*p.2.1)+s.2.2.1*(y*q.1+z*q.2.1):=by grind
  rw [eX,eY,k3] at k1
  rw [k2]
  refine Int.eq_of_mul_eq_mul_left f1 ?_
  rw [←k1]
  grind
 have q1:=fin 1 0
 have q2:=fin 0 1
 have q3:=fin 1 1
 generalize FB m n=X at *
 simp only [Int.one_mul,Int.zero_mul,Int.add_zero,Int.zero_add,val] at q1 q2 q3
 have hd:t.1*u.2.2.1 - u.1*t.2.2.1≠0:=by
  have:t.1*u.2.2.1 - t.2.2.1*u.1=h.1:=congrArg Prod.fst c2
  rw [Int.mul_comm u.1]
  rw [this]
  exact h1
 obtain ⟨z1,z2,z3⟩:=Z9 (A:=X.1 - V'.1) (B:=X.2.1 - V'.2.1) (C:=X.2.2 - V'.2.2) hd (by grind) (by grind) (by grind)
 exact QJ (by omega) (by omega) (by omega)
set_option maxHeartbeats 1000000 in
theorem Comp.assoc {f g h V V' W:I3} (A:Comp f g V) (B:Comp V h W) (C:Comp g h V') (pg:g3 g=1) (f1:f.1≠0) (f3:f.2.2≠0) (g1:g.1≠0) (h1:h.1≠0):Comp f V' W:=by
 obtain ⟨p,q,a1,a2,a3⟩:=A
 obtain ⟨r,s,b1,b2,b3⟩:=B
 obtain ⟨t,u,c1,c2,c3⟩:=C
 have T:=fun x y=>Xk (x:=x) (y:=y) (b1.trans a3.symm)
 rw [a1,a2,b2] at T
 have v10:val f (1,0)=f.1:=by simp [val]
 have v01:val f (0,1)=f.2.2:=by simp [val]
 have l10:∀ a b:I4,lin 1 0 a b=a:=fun a b=>by simp [lin]
 have l01:∀ a b:I4,lin 0 1 a b=b:=fun a b=>by simp [lin]
 have T0:=T 1 0
 have T1:=T 0 1
 have T2:=T 1 1
 rw [l10,l10,v10] at T0
 rw [l01,l01,v01] at T1
 obtain ⟨al,be,ga,de,R0,S0⟩:=Qm (p:=t) (q:=u) (r:=up0 r p q) (s:=up0 s p q) f1 (by rw [c1];exact T0.1) (by rw [c2];exact T0.2) (by rw [c1];exact pg)
 obtain ⟨al',be',ga',de',R1,S1⟩:=Qm (p:=t) (q:=u) (r:=up1 r p q) (s:=up1 s p q) f3 (by rw [c1];exact T1.1) (by rw [c2];exact T1.2) (by rw [c1];exact pg)
 have ll:∀ a b c d:Int,lin 1 1 (lin a b t u) (lin c d t u)=lin (a+c) (b+d) t u:=fun a b c d=>by
  simp only [lin,Prod.mk.injEq]
  refine ⟨by grind,by grind,by grind,by grind⟩
 have d0:al*de - be*ga=f.1:=by
  have e:=T0.1
  rw [R0,S0,TY,c1] at e
  exact Int.eq_of_mul_eq_mul_right g1 (congrArg Prod.fst e)
 have d1:al'*de' - be'*ga'=f.2.2:=by
  have e:=T1.1
  rw [R1,S1,TY,c1] at e
  exact Int.eq_of_mul_eq_mul_right g1 (congrArg Prod.fst e)
 have d2:(al+al')*(de+de') - (be+be')*(ga+ga')=val f (1,1):=by
  have e:=T2.1
  rw [R0,S0,R1,S1,ll,ll,TY,c1] at e
  exact Int.eq_of_mul_eq_mul_right g1 (congrArg Prod.fst e)
 have fa:FA (al,be,al',be') (ga,de,ga',de')=f:=by
  refine QJ d0 ?_ d1
  have:val f (1,1)=f.1+f.2.1+f.2.2:=by simp [val]
  rw [this] at d2
  simp only [FA]
  grind
 have fc:FC (al,be,al',be') (ga,de,ga',de')=W:=by
  rw [←b3]
  have x1:=YL s p q
  have x3:=YL r p q
  have x2:=AfC r s p q
  rw [S0,S1,Ot c1,a2,Int.mul_comm g.1] at x1
  rw [R0,R1,Ot c1,a2,Int.mul_comm g.1] at x3
  rw [R0,R1,S0,S1,Ot c1,Ot c1,a2,←Int.add_mul,Int.mul_comm g.1] at x2
  have y1:=Int.eq_of_mul_eq_mul_right g1 x1
  have y2:=Int.eq_of_mul_eq_mul_right g1 x2
  have y3:=Int.eq_of_mul_eq_mul_right g1 x3
  have k1:=Int.mul_comm s.1 r.2.2.2
  have k2:=Int.mul_comm s.2.1 r.2.2.1
  have k3:=Int.mul_comm ga be'
  have k4:=Int.mul_comm de al'
  refine QJ ?_ ?_ ?_
  ·simp only [FC]
   omega
  ·simp only [FC]
   omega
  ·simp only [FC]
   omega
 exact ⟨_,_,fa,Adv a1 a2 a3 b1 b2 b3 c1 c2 c3 fa fc R0 S0 f1 h1,fc⟩
end My
namespace My
open PySem L2
noncomputable def Eqv (F G:I3):Prop:=∃ t,det t=1∧mov F t=G
theorem Eqv.refl (F:I3):Eqv F F:=⟨(1,0,0,1),by decide,Bq⟩
theorem Eqv.symm {F G:I3} (h:Eqv F G):Eqv G F:=by
 obtain ⟨t,dt,rfl⟩:=h
 exact ⟨Ar t,by rw [Ec];exact dt,Bw dt⟩
theorem Eqv.trans {F G H:I3} (h:Eqv F G) (k:Eqv G H):Eqv F H:=by
 obtain ⟨t,dt,rfl⟩:=h
 obtain ⟨u,du,rfl⟩:=k
 exact ⟨Am t u,by rw [Cq,dt,du];rfl,Bk.symm⟩
theorem Comp.eqv {f g F f' g' F':I3} (C:Comp f g F) (hf:Eqv f f') (hg:Eqv g g') (hF:Eqv F F'):Comp f' g' F':=by
 obtain ⟨t,dt,rfl⟩:=hf
 obtain ⟨u,du,rfl⟩:=hg
 obtain ⟨v,dv,rfl⟩:=hF
 exact ((C.movL dt).movR du).movF dv
structure Gd (D:Int) (f:I3):Prop where
 m:meas f=D
 p:g3 f=1
 n:¬ Hs D
theorem Gd.a {D:Int} {f:I3} (h:Gd D f):f.1≠0:=fun e=>h.n ⟨f.2.1,by rw [←h.m];unfold meas;rw [e];omega⟩
theorem Gd.c {D:Int} {f:I3} (h:Gd D f):f.2.2≠0:=fun e=>h.n ⟨f.2.1,by rw [←h.m];unfold meas;rw [e];omega⟩
theorem Gd.eqv {D:Int} {f g:I3} (h:Gd D f) (e:Eqv f g):Gd D g:=by
 obtain ⟨t,dt,rfl⟩:=e
 exact ⟨by rw [Bs dt];exact h.m,by rw [Xg dt];exact h.p,h.n⟩
theorem Gd.comp {D:Int} {f g F:I3} (hf:Gd D f) (hg:Gd D g) (C:Comp f g F):Gd D F:=⟨by rw [C.meas.2];exact hg.m,C.plain hf.p hg.p,hf.n⟩
theorem Comp.one {D:Int} {f g F G:I3} (hf:Gd D f) (A:Comp f g F) (B:Comp f g G):Eqv F G:=A.same B hf.p
theorem Ma {D:Int} {f h:I3} (hf:Gd D f) (hh:Gd D h):∃ F,Comp f h F:=by
 obtain ⟨u,v,e1⟩:=bez _ f.1 h.1 (Nat.le_refl _)
 obtain ⟨x,y,e2⟩:=bez _ ((Int.gcd f.1 h.1:Nat):Int) (jS f h) (Nat.le_refl _)
 have g0:((Int.gcd ((Int.gcd f.1 h.1:Nat):Int) (jS f h):Nat):Int)≠0:=fun z=>by
  have:=Int.gcd_eq_zero_iff.mp (by omega:Int.gcd ((Int.gcd f.1 h.1:Nat):Int) (jS f h)=0)
  have:=Int.gcd_eq_zero_iff.mp (by omega:Int.gcd f.1 h.1=0)
  exact hf.a this.1
 have d0:((Int.gcd ((Int.gcd f.1 h.1:Nat):Int) (jS f h):Nat):Int)∣((Int.gcd f.1 h.1:Nat):Int):=Int.gcd_dvd_left ..
 have:=Va (i:=x*u) (j:=x*v) (k:=y) hf.a hh.a (hf.m.trans hh.m.symm) g0 (Int.dvd_trans d0 (Int.gcd_dvd_left ..)) (Int.dvd_trans d0 (Int.gcd_dvd_right ..)) (Int.gcd_dvd_right ..) (by rw [←e2,←e1];grind)
 exact ⟨_,_,_,this⟩
theorem asc {D:Int} {f g h V V' W:I3} (hf:Gd D f) (hg:Gd D g) (hh:Gd D h) (A:Comp f g V) (B:Comp V h W) (C:Comp g h V'):Comp f V' W:=A.assoc B C hg.p hf.a hf.c hg.a hh.a
theorem Ut {U V:I3} (h1:U.1=1) (h2:V.1=1) (m:meas U=meas V):Eqv U V:=by
 obtain ⟨a,s,g⟩:=U
 obtain ⟨a',b,c⟩:=V
 dsimp only at h1 h2
 subst h1 h2
 have m:s*s - 4*1*g=b*b - 4*1*c:=m
 have par:∃ n,b=s+2*n:=by
  have hp:b % 2=s % 2:=by
   obtain ⟨k,hk⟩:∃ k,b=2*k+b % 2:=⟨b / 2,by omega⟩
   obtain ⟨l,hl⟩:∃ k,s=2*k+s % 2:=⟨s / 2,by omega⟩
   rcases (show b % 2=0∨b % 2=1 by omega) with z | z <;> rcases (show s % 2=0∨s % 2=1 by omega) with y | y
   ·omega
   ·rw [z] at hk;rw [y] at hl
    have e1:b*b=4*(k*k):=by rw [hk];grind
    have e2:s*s=4*(l*l+l)+1:=by rw [hl];grind
    omega
   ·rw [z] at hk;rw [y] at hl
    have e1:b*b=4*(k*k+k)+1:=by rw [hk];grind
    have e2:s*s=4*(l*l):=by rw [hl];grind
    omega
   ·omega
  exact ⟨b / 2 - s / 2,by omega⟩
 obtain ⟨n,rfl⟩:=par
 refine ⟨(1,n,0,1),by simp [det],?_⟩
 simp only [mov,val,mid,Prod.mk.injEq]
 refine ⟨by omega,by grind,?_⟩
 grind
theorem BZ {D:Int} {U f:I3} (u1:U.1=1) (um:meas U=D) (fm:meas f=D):Comp U f f:=by
 have:=Zj (a:=f.1) (b:=f.2.1) (c:=f.2.2)
 refine this.eqv (Ut rfl u1 ?_) (Eqv.refl _) (Eqv.refl _)
 rw [um,←fm]
 unfold meas
 grind
noncomputable def HW (f:I3):I3:=(f.1,-f.2.1,f.2.2)
theorem JR (f:I3):meas (HW f)=meas f:=by
 unfold meas HW
 grind
theorem ZL (f:I3):g3 (HW f)=g3 f:=by
 unfold g3 HW
 rw [Int.gcd_neg]
theorem Gd.opp {D:Int} {f:I3} (h:Gd D f):Gd D (HW f):=⟨by rw [JR];exact h.m,by rw [ZL];exact h.p,h.n⟩
theorem Nq {D:Int} {U f:I3} (u1:U.1=1) (um:meas U=D) (fm:meas f=D):Comp f (HW f) U:=by
 have:=AaG (a:=f.1) (b:=f.2.1) (c:=f.2.2)
 refine this.eqv (Eqv.refl _) ⟨(0,-1,1,0),by decide,?_⟩ (Eqv.trans ⟨(0,-1,1,0),by decide,rfl⟩ (Ut ?_ u1 ?_))
 ·unfold HW
  simp only [mov,val,mid,Prod.mk.injEq]
  refine ⟨by grind,by grind,by grind⟩
 ·simp only [mov,val]
  grind
 ·rw [Bs (by decide),um,←fm]
  unfold meas
  grind
noncomputable def Az (U f:I3):Nat→I3→Prop
 | 0,G=>Eqv U G
 | n+1,G=>∃ V,Az U f n V∧Comp V f G
section
variable {D:Int} {U f:I3} (u1:U.1=1) (um:meas U=D) (hf:Gd D f)
theorem SM (u1:U.1=1) (um:meas U=D) (hf:Gd D f):Gd D U:=⟨um,by
 unfold g3
 rw [u1,Int.gcd_one_left,Int.natCast_one,Int.gcd_one_left],hf.n⟩
include u1 um hf
theorem Az.gd:∀ {n:Nat} {G:I3},Az U f n G→Gd D G
 | 0,_,h=>(SM u1 um hf).eqv h
 | _+1,_,⟨_,h,C⟩=>(Az.gd h).comp hf C
omit u1 um hf in
theorem Az.eqv:∀ {n:Nat} {G H:I3},Az U f n G→Eqv G H→Az U f n H
 | 0,_,_,h,e=>Eqv.trans h e
 | _+1,_,_,⟨V,h,C⟩,e=>⟨V,h,C.eqv (Eqv.refl _) (Eqv.refl _) e⟩
theorem Az.uniq:∀ {n:Nat} {G H:I3},Az U f n G→Az U f n H→Eqv G H
 | 0,_,_,h,k=>h.symm.trans k
 | _+1,_,_,⟨V,h,C⟩,⟨W,k,B⟩=>Comp.one (Az.gd u1 um hf k) (C.eqv (Az.uniq h k) (Eqv.refl _) (Eqv.refl _)) B
theorem Az.one:Az U f 1 f:=⟨U,Eqv.refl _,BZ u1 um hf.m⟩
theorem Az.add:∀ {n m:Nat} {A B C:I3},Az U f m A→Az U f n B→Comp A B C→Az U f (m+n) C
 | 0,m,A,B,C,h,k,e=>by
  have gA:=Az.gd u1 um hf h
  have e2:Comp A B A:=((BZ u1 um gA.m).swap).eqv (Eqv.refl _) k (Eqv.refl _)
  exact h.eqv (e2.one gA e)
 | n+1,m,A,B,C,h,⟨V,k,cV⟩,e=>by
  have gA:=Az.gd u1 um hf h
  have gV:=Az.gd u1 um hf k
  obtain ⟨E,cE⟩:=Ma gA gV
  have pE:=Az.add h k cE
  obtain ⟨W,cW⟩:=Ma (gA.comp gV cE) hf
  have aW:=asc gA gV hf cE cW cV
  exact Az.eqv (n:=m+n+1) ⟨E,pE,cW⟩ (aW.one gA e)
theorem Az.less {m n:Nat} {A B C:I3} (h:Az U f (m+1) A) (k:Az U (HW f) (n+1) B) (e:Comp A B C):∃ V W,Az U f m V∧Az U (HW f) n W∧Comp V W C:=by
 obtain ⟨V,h,cV⟩:=h
 obtain ⟨W,k,cW⟩:=k
 have gV:=Az.gd u1 um hf h
 have gW:=Az.gd u1 um hf.opp k
 have gB:=gW.comp hf.opp cW
 have x:=asc hf hf.opp gW (Nq u1 um hf.m) (BZ u1 um gW.m) cW.swap
 exact ⟨V,W,h,k,asc gV hf gB cV e x⟩
theorem Az.sub:∀ {n m:Nat} {A B C:I3},Az U f m A→Az U (HW f) n B→Comp A B C→(n≤m→Az U f (m - n) C)∧(m≤n→Az U (HW f) (n - m) C)
 | 0,m,A,B,C,h,k,e=>by
  have gA:=Az.gd u1 um hf h
  have e2:Comp A B A:=((BZ u1 um gA.m).swap).eqv (Eqv.refl _) k (Eqv.refl _)
  refine ⟨fun _=>h.eqv (e2.one gA e),fun l=>?_⟩
  obtain rfl:m=0:=by omega
  have h:Eqv U A:=h
  exact h.trans (e2.one gA e)
 | n+1,0,A,B,C,h,k,e=>by
  have gB:=Az.gd u1 um hf.opp k
  have h:Eqv U A:=h
  have e2:Comp A B B:=(BZ u1 um gB.m).eqv h (Eqv.refl _) (Eqv.refl _)
  have gA:=(SM u1 um hf).eqv h
  exact ⟨fun l=>absurd l (by omega),fun _=>k.eqv (e2.one gA e)⟩
 | n+1,m+1,A,B,C,h,k,e=>by
  obtain ⟨V,W,h',k',e'⟩:=Az.less u1 um hf h k e
  have:=Az.sub h' k' e'
  exact ⟨fun l=>by rw [show m+1 - (n+1)=m - n by omega];exact this.1 (by omega),fun l=>by rw [show n+1 - (m+1)=n - m by omega];exact this.2 (by omega)⟩
end
noncomputable def JN (U f:I3) (n:Int) (G:I3):Prop:=(0≤n→Az U f n.toNat G)∧(n≤0→Az U (HW f) (-n).toNat G)
theorem JN.add {D:Int} {U f:I3} (u1:U.1=1) (um:meas U=D) (hf:Gd D f) {m n:Int} {A B C:I3} (h:JN U f m A) (k:JN U f n B) (e:Comp A B C):JN U f (m+n) C:=by
 have gA:Gd D A:=by
  rcases Int.le_total 0 m with z | z
  ·exact Az.gd u1 um hf (h.1 z)
  ·exact Az.gd u1 um hf.opp (h.2 z)
 rcases Int.le_total 0 m with z | z <;> rcases Int.le_total 0 n with y | y
 ·have p:=Az.add u1 um hf (h.1 z) (k.1 y) e
  rw [←Int.toNat_add z y] at p
  refine ⟨fun _=>p,fun l=>?_⟩
  have e0:m+n=0:=by omega
  rw [e0] at p ⊢
  exact p
 ·have p:=Az.sub u1 um hf (h.1 z) (k.2 y) e
  refine ⟨fun l=>?_,fun l=>?_⟩
  ·have:=p.1 (by omega)
   rw [show m.toNat - (-n).toNat=(m+n).toNat by omega] at this
   exact this
  ·have:=p.2 (by omega)
   rw [show (-n).toNat - m.toNat=(-(m+n)).toNat by omega] at this
   exact this
 ·have p:=Az.sub u1 um hf (k.1 y) (h.2 z) e.swap
  refine ⟨fun l=>?_,fun l=>?_⟩
  ·have:=p.1 (by omega)
   rw [show n.toNat - (-m).toNat=(m+n).toNat by omega] at this
   exact this
  ·have:=p.2 (by omega)
   rw [show (-m).toNat - n.toNat=(-(m+n)).toNat by omega] at this
   exact this
 ·have p:=Az.add u1 um hf.opp (h.2 z) (k.2 y) e
  rw [show (-m).toNat+(-n).toNat=(-(m+n)).toNat by omega] at p
  refine ⟨fun l=>?_,fun _=>p⟩
  have e0:m+n=0:=by omega
  rw [e0] at p ⊢
  exact p
theorem JN.uniq {D:Int} {U f:I3} (u1:U.1=1) (um:meas U=D) (hf:Gd D f) {n:Int} {A B:I3} (h:JN U f n A) (k:JN U f n B):Eqv A B:=by
 rcases Int.le_total 0 n with z | z
 ·exact Az.uniq u1 um hf (h.1 z) (k.1 z)
 ·exact Az.uniq u1 um hf.opp (h.2 z) (k.2 z)
end My
namespace My
open PySem L2
theorem Az.base {U f f':I3} (e:Eqv f f'):∀ {n:Nat} {G:I3},Az U f n G→Az U f' n G
 | 0,_,h=>h
 | _+1,_,⟨V,h,C⟩=>⟨V,Az.base e h,C.eqv (Eqv.refl _) e (Eqv.refl _)⟩
theorem YT {D:Int} {f g:I3} (m:meas f=D) (h:D < 0→0 < f.1) (e:Eqv f g):D < 0→0 < g.1:=fun z=>by
 obtain ⟨t,dt,rfl⟩:=e
 exact (Ln (f:=f) ⟨h z,by rw [m];exact z⟩ dt).1
theorem Mq {D:Int} {f g F:I3} (hf:Gd D f) (hg:Gd D g) (C:Comp f g F) (pf:D < 0→0 < f.1) (pg:D < 0→0 < g.1):D < 0→0 < F.1:=fun z=>by
 have gF:=hf.comp hg C
 obtain ⟨p,q,a,b,c⟩:=C
 have k:=Ja (p:=p) (q:=q) 1 0 1 0
 rw [a,b,c] at k
 have v1:val f (1,0)=f.1:=by simp [val]
 have v2:val g (1,0)=g.1:=by simp [val]
 rw [v1,v2] at k
 have pp:=Int.mul_pos (pf z) (pg z)
 rw [←k] at pp
 generalize (p.1*(1*1)+p.2.1*(1*0)+p.2.2.1*(0*1)+p.2.2.2*(0*0))=x at pp
 generalize (q.1*(1*1)+q.2.1*(1*0)+q.2.2.1*(0*1)+q.2.2.2*(0*0))=y at pp
 have m:=gF.m
 have a0:=gF.a
 obtain ⟨A,B,E⟩:=F
 dsimp only at *
 rcases Int.lt_or_le 0 A with h | h
 ·exact h
 ·exfalso
  have h':A < 0:=by omega
  have id:4*(A*val (A,B,E) (x,y))=(2*A*x+B*y)*(2*A*x+B*y) - D*(y*y):=by
   rw [←m]
   simp only [val,meas]
   grind
  have n1:A*val (A,B,E) (x,y) < 0:=Int.mul_neg_of_neg_of_pos h' pp
  have n2:=sq_nonneg (2*A*x+B*y)
  have n3:0≤-D*(y*y):=Int.mul_nonneg (by omega) (sq_nonneg y)
  have n4:-D*(y*y)=-(D*(y*y)):=Int.neg_mul ..
  omega
end My
namespace My
open PySem L2
theorem JN.eqv {U f:I3} {n:Int} {G H:I3} (h:JN U f n G) (e:Eqv G H):JN U f n H:=⟨fun z=>(h.1 z).eqv e,fun z=>(h.2 z).eqv e⟩
end My
namespace My
open PySem L2
noncomputable def lt3 (f g:I3):Prop:=f.1 < g.1∨(f.1=g.1∧(f.2.1 < g.2.1∨(f.2.1=g.2.1∧f.2.2 < g.2.2)))
noncomputable def rw3 (f:I3):List Int:=[f.1,f.2.1,f.2.2]
theorem Acq {f g:I3} (h:rw3 f=rw3 g):f=g:=by
 obtain ⟨a,b,c⟩:=f
 obtain ⟨x,y,z⟩:=g
 simp only [rw3,List.cons.injEq,and_true] at h
 obtain ⟨rfl,rfl,rfl⟩:=h
 rfl
theorem QV {f:I3}:¬ lt3 f f:=by unfold lt3;omega
theorem Ab2 {f g h:I3} (a:lt3 f g) (b:lt3 g h):lt3 f h:=by unfold lt3 at *;omega
theorem Yu (f g:I3):lt3 f g∨f=g∨lt3 g f:=by
 obtain ⟨a,b,c⟩:=f
 obtain ⟨x,y,z⟩:=g
 unfold lt3
 simp only [Prod.mk.injEq]
 omega
noncomputable def Srt (fs:List I3):Prop:=fs.Pairwise lt3
noncomputable def Rl (far:Int) (f g:I3):Prop:=∃ m,rF far m f=g
theorem Rl.refl {far:Int} {f:I3}:Rl far f f:=⟨0,rfl⟩
theorem Rl.trans {far:Int} {f g h:I3} (a:Rl far f g) (b:Rl far g h):Rl far f h:=by
 obtain ⟨m,rfl⟩:=a
 obtain ⟨n,rfl⟩:=b
 exact ⟨m+n,Cr m n f⟩
theorem Qs {far:Int} {g:I3} {N:Nat} (e:rF far N g=g):∀ q,rF far (N*q) g=g
 | 0=>rfl
 | q+1=>by rw [Nat.mul_succ,Cr,Qs e q,e]
theorem AeP {far:Int} {g:I3} {N:Nat} (e:rF far N g=g) (n0:0 < N) (n:Nat):∃ i,i < N∧rF far n g=rF far i g:=by
 have h1:=Nat.mod_lt n n0
 have h2:=Nat.div_add_mod n N
 refine ⟨n % N,h1,?_⟩
 have:rF far (N*(n / N)+n % N) g=rF far (n % N) g:=by rw [Cr,Qs e]
 rw [h2] at this
 exact this
theorem Rl.symm {far:Int} {f g:I3} (h:Lv far f) (a:Rl far f g):Rl far g f:=by
 obtain ⟨N,n0,_,e,_⟩:=Ib h
 obtain ⟨m,rfl⟩:=a
 refine ⟨N*m - m,?_⟩
 rw [←Cr]
 have:m≤N*m:=Nat.le_mul_of_pos_left m n0
 rw [show m+(N*m - m)=N*m by omega,Qs e]
theorem Rl.lv {far:Int} {f g:I3} (h:Lv far f) (a:Rl far f g):Lv far g:=by
 obtain ⟨m,rfl⟩:=a
 exact Lv.rF m h
theorem Rl.meas {far:Int} {f g:I3} (a:Rl far f g):My.meas g=My.meas f:=by
 obtain ⟨m,rfl⟩:=a
 exact Je m f
theorem Rl.g3 {far:Int} {f g:I3} (a:Rl far f g):My.g3 g=My.g3 f:=by
 obtain ⟨m,rfl⟩:=a
 rw [←Ea,Xg (Lb m f)]
noncomputable def Tp (far:Int) (f:I3):Prop:=∀ g,Rl far f g→¬ lt3 g f
theorem Aex {far:Int} {f:I3} (h:Lv far f):∃ g,Tp far g∧Rl far f g:=by
 obtain ⟨N,n0,_,e,_⟩:=Ib h
 have key:∀ k,∃ i,∀ j,j≤k→¬ lt3 (rF far j f) (rF far i f):=fun k=>by
  induction k with
  | zero=>exact ⟨0,fun j hj=>by rw [show j=0 by omega];exact QV⟩
  | succ k ih =>
   obtain ⟨i,hi⟩:=ih
   by_cases z:lt3 (rF far (k+1) f) (rF far i f)
   ·refine ⟨k+1,fun j hj w=>?_⟩
    rcases Nat.lt_or_ge j (k+1) with y | y
    ·exact hi j (by omega) (Ab2 w z)
    ·rw [show j=k+1 by omega] at w
     exact QV w
   ·refine ⟨i,fun j hj w=>?_⟩
    rcases Nat.lt_or_ge j (k+1) with y | y
    ·exact hi j (by omega) w
    ·rw [show j=k+1 by omega] at w
     exact z w
 obtain ⟨i,hi⟩:=key N
 refine ⟨rF far i f,fun g hg=>?_,⟨i,rfl⟩⟩
 obtain ⟨m,rfl⟩:=(Rl.trans ⟨i,rfl⟩ hg:Rl far f g)
 obtain ⟨j,hj,ej⟩:=AeP e n0 m
 rw [ej]
 exact hi j (by omega)
theorem YF {far:Int} {f g:I3} (h:Lv far f) (a:Tp far f) (b:Tp far g) (r:Rl far f g):f=g:=by
 rcases Yu f g with z | z | z
 ·exact absurd z (b f (r.symm h))
 ·exact z
 ·exact absurd z (a g r)
structure PIn (far:Int) (fs:List I3) (k:Nat) (fnd:List I3) (ks:List (List Int)):Prop where
 srt:Srt fnd
 mem:∀ f,f∈fnd↔f∈fs.take k∧Lv far f∧Tp far f
 seen:∀ x:I3,rw3 x∈ks↔∃ g∈fnd,Rl far g x
theorem Qx {α:Type} {fs:List α} {k:Nat} {f:α} (h:fs[k]? = some f):fs.take (k+1)=fs.take k ++ [f]:=by
 rw [List.take_add_one,h]
 rfl
theorem PIn.start {far:Int} {fs:List I3}:PIn far fs 0 [] [] where
 srt:=List.Pairwise.nil
 mem:=fun f=>by simp
 seen:=fun x=>by simp
theorem PIn.no {far:Int} {fs fnd:List I3} {k:Nat} {ks:List (List Int)} {f:I3} (I:PIn far fs k fnd ks) (hf:fs[k]? = some f) (h:¬ Lv far f∨rw3 f∈ks):PIn far fs (k+1) fnd ks where
 srt:=I.srt
 mem:=fun x=>by
  rw [Qx hf,I.mem x,List.mem_append,List.mem_singleton]
  refine ⟨fun z=>⟨.inl z.1,z.2⟩,fun ⟨z,l,t⟩=>?_⟩
  rcases z with z | rfl
  ·exact ⟨z,l,t⟩
  ·rcases h with h | h
   ·exact absurd l h
   ·obtain ⟨g,hg,r⟩:=(I.seen x).mp h
    obtain ⟨g1,g2,g3⟩:=(I.mem g).mp hg
    rw [←YF g2 g3 t r]
    exact ⟨g1,g2,g3⟩
 seen:=I.seen
theorem PIn.yes {far:Int} {fs fnd:List I3} {k:Nat} {ks ks':List (List Int)} {f:I3} (wk:Srt fs) (cl:∀ f∈fs,Lv far f→∀ g,Rl far f g→g∈fs) (I:PIn far fs k fnd ks) (hf:fs[k]? = some f) (L:Lv far f) (n:rw3 f∉ks)
  (hk:∀ x,rw3 x∈ks'↔rw3 x∈ks∨Rl far f x):PIn far fs (k+1) (fnd ++ [f]) ks':=by
 have hm:=List.mem_of_getElem? hf
 have sp:fs=fs.take k ++ f :: fs.drop (k+1):=by
  obtain ⟨hl,e⟩:=List.getElem?_eq_some_iff.mp hf
  rw [←e,List.getElem_cons_drop hl,List.take_append_drop]
 have wk':=wk
 unfold Srt at wk'
 rw [sp] at wk'
 obtain ⟨_,w2,w3⟩:=List.pairwise_append.mp wk'
 have before:∀ g∈fs,lt3 g f→g∈fs.take k:=fun g hg l=>by
  rw [sp] at hg
  rcases List.mem_append.mp hg with z | z
  ·exact z
  ·rcases List.mem_cons.mp z with rfl | z
   ·exact absurd l QV
   ·exact absurd (Ab2 l ((List.pairwise_cons.mp w2).1 g z)) QV
 have tp:Tp far f:=by
  obtain ⟨g,tg,r⟩:=Aex L
  rcases Yu g f with z | z | z
  ·have hg:=before g (cl f hm L g r) z
   have lg:=r.lv L
   have:g∈fnd:=(I.mem g).mpr ⟨hg,lg,tg⟩
   exact absurd ((I.seen f).mpr ⟨g,this,r.symm L⟩) n
  ·rw [←z];exact tg
  ·exact absurd z (tg f (r.symm L))
 refine ⟨List.pairwise_append.mpr ⟨I.srt,List.pairwise_singleton _ _,fun g hg x hx=>?_⟩,fun x=>?_,fun x=>?_⟩
 ·rw [List.mem_singleton.mp hx]
  exact w3 g ((I.mem g).mp hg).1 f List.mem_cons_self
 ·rw [List.mem_append,List.mem_singleton,Qx hf,List.mem_append,List.mem_singleton,I.mem x]
  refine ⟨fun z=>?_,fun ⟨z,l,t⟩=>?_⟩
  ·rcases z with z | rfl
   ·exact ⟨.inl z.1,z.2⟩
   ·exact ⟨.inr rfl,L,tp⟩
  ·rcases z with z | z
   ·exact .inl ⟨z,l,t⟩
   ·exact .inr z
 ·rw [hk x,I.seen x]
  refine ⟨fun z=>?_,fun ⟨g,hg,r⟩=>?_⟩
  ·rcases z with ⟨g,hg,r⟩ | r
   ·exact ⟨g,List.mem_append_left _ hg,r⟩
   ·exact ⟨f,List.mem_append_right _ (List.mem_singleton.mpr rfl),r⟩
  ·rcases List.mem_append.mp hg with hg | hg
   ·exact .inl ⟨g,hg,r⟩
   ·rw [List.mem_singleton.mp hg] at r
    exact .inr r
noncomputable def PF (n most:Int) (f:I3):Prop:=f.1≠0∧(-most≤f.1∧f.1≤most)∧(-most≤f.2.1∧f.2.1≤most)∧meas f=n∧g3 f=1
theorem Vk {far:Int} {f:I3} (h:Level f far):(-far≤f.1∧f.1≤far)∧(-far≤f.2.1∧f.2.1≤far):=by
 obtain ⟨⟨h1,h2⟩,h3,h4⟩:=h
 split at h4 <;> omega
theorem AbB {n far:Int} {fs:List I3} (mem:∀ f,f∈fs↔PF n far f):∀ f∈fs,Lv far f→∀ g,Rl far f g→g∈fs:=fun f hf L g r=>by
 have P:=(mem f).mp hf
 have lg:=r.lv L
 have ⟨i1,i2⟩:=Vk lg.L
 exact (mem g).mpr ⟨O5 lg.S,i1,i2,by rw [r.meas];exact P.2.2.2.1,by rw [r.g3];exact P.2.2.2.2⟩
theorem Ab5 {far:Int} {f:I3} {t0:I4} {N k:Nat} (L:Lv far f) (d:det t0=1) (v:Lv far (mov f t0)) (e:rF far N (mov f t0)=mov f t0) (n0:0 < N) (x:I3):(∃ i,i < N∧rF far i (rF far k (mov f t0))=x)↔Rl far f x:=by
 have r0:Rl far f (mov f t0):=by
  rcases J0 L v d rfl with ⟨m,s⟩ | ⟨m,s⟩
  ·exact ⟨m,by rw [←Ea,←s.mov]⟩
  ·have e2:rF far m (mov f t0)=f:=by rw [←Ea,←s.mov,Bw d]
   exact Rl.symm v ⟨m,e2⟩
 have rz:Rl far f (rF far k (mov f t0)):=r0.trans ⟨k,rfl⟩
 have ez:rF far N (rF far k (mov f t0))=rF far k (mov f t0):=by rw [←Cr,Nat.add_comm,Cr,e]
 constructor
 ·rintro ⟨i,_,rfl⟩
  exact rz.trans ⟨i,rfl⟩
 ·intro r
  obtain ⟨m,rfl⟩:=(rz.symm L).trans r
  obtain ⟨i,hi,ei⟩:=AeP ez n0 m
  exact ⟨i,hi,ei.symm⟩
theorem O7 {k x:List Int} {ks:List (List Int)}:x∈Jz k ks↔x∈ks∨x=k:=by
 unfold Jz
 split
 ·rename_i h
  refine ⟨.inl,fun z=>?_⟩
  rcases z with z | rfl
  ·exact z
  ·exact h
 ·rw [List.mem_append,List.mem_singleton]
structure NdF (fs:List I3) (ks:List (List Int)):Prop where
 nd:ks.Nodup
 mem:∀ r∈ks,r∈fs.map rw3
theorem NdF.put {fs:List I3} {ks:List (List Int)} {f:I3} (h:NdF fs ks) (hf:f∈fs):NdF fs (Jz (rw3 f) ks):=by
 refine ⟨?_,fun r hr=>?_⟩
 ·unfold Jz
  split
  ·exact h.nd
  ·rename_i z
   exact List.nodup_append.mpr ⟨h.nd,List.pairwise_singleton _ _,fun a ha b hb e=>z (by rw [←List.mem_singleton.mp hb,←e];exact ha)⟩
 ·rcases O7.mp hr with z | rfl
  ·exact h.mem r z
  ·exact List.mem_map.mpr ⟨f,hf,rfl⟩
theorem Mh {α:Type} [DecidableEq α]:∀ {ks ls:List α},ks.Nodup→(∀ r∈ks,r∈ls)→ks.length≤ls.length
 | [],_,_,_=>Nat.zero_le _
 | k :: ks,ls,h,m=>by
  obtain ⟨h1,h2⟩:=List.nodup_cons.mp h
  have hk:=m k List.mem_cons_self
  have:=Mh (ls:=ls.erase k) h2 fun r hr=>(List.mem_erase_of_ne fun e=>h1 (by rw [←e];exact hr)).mpr (m r (List.mem_cons_of_mem _ hr))
  rw [List.length_erase_of_mem hk] at this
  have:=List.length_pos_of_mem hk
  rw [List.length_cons]
  omega
theorem NdF.len {fs:List I3} {ks:List (List Int)} (h:NdF fs ks):ks.length≤fs.length:=by
 have:=Mh h.nd h.mem
 rw [List.length_map] at this
 exact this
theorem NdF.nil {fs:List I3}:NdF fs []:=⟨List.nodup_nil,fun r hr=>(nomatch hr)⟩
end My
namespace My
open PySem L2
theorem ZD (P:Nat→Prop) (h:∃ n,P n):∃ n,P n∧∀ m,m < n→¬ P m:=by
 obtain ⟨n,hn⟩:=h
 induction n using Nat.strongRecOn with
 | _ n ih =>
  by_cases z:∃ m,m < n∧P m
  ·obtain ⟨m,hm,pm⟩:=z
   exact ih m hm pm
  ·exact ⟨n,hn,fun m hm pm=>z ⟨m,hm,pm⟩⟩
theorem V0:∀ n:Nat,∃ r:Nat,r*r≤n∧n < (r+1)*(r+1)
 | 0=>⟨0,by decide,by decide⟩
 | n+1=>by
  obtain ⟨r,h1,h2⟩:=V0 n
  by_cases z:n+1 < (r+1)*(r+1)
  ·exact ⟨r,by omega,z⟩
  ·refine ⟨r+1,by omega,?_⟩
   have:(r+1+1)*(r+1+1)=(r+1)*(r+1)+2*(r+1)+1:=by grind
   omega
theorem AbT {D:Int} (h:0≤D):∃ r,Sq D r:=by
 obtain ⟨n,rfl⟩:=Int.eq_ofNat_of_zero_le h
 obtain ⟨r,h1,h2⟩:=V0 n
 exact ⟨(r:Int),by omega,by exact_mod_cast h1,by exact_mod_cast h2⟩
noncomputable def Lst (D:Int) (G:I3):Prop:=(D < 0∧Dp G)∨(0 < D∧∃ far,Sq D far∧Lv far G∧Tp far G)
structure Jd (D:Int) (f:I3):Prop where
 gd:Gd D f
 pos:D < 0→0 < f.1
theorem Jd.eqv {D:Int} {f g:I3} (h:Jd D f) (e:Eqv f g):Jd D g:=⟨h.gd.eqv e,YT h.gd.m h.pos e⟩
theorem Jd.comp {D:Int} {f g F:I3} (h:Jd D f) (k:Jd D g) (C:Comp f g F):Jd D F:=⟨h.gd.comp k.gd C,Mq h.gd k.gd C h.pos k.pos⟩
theorem Lst.uniq {D:Int} {G H:I3} (mG:meas G=D) (a:Lst D G) (b:Lst D H) (e:Eqv G H):G=H:=by
 obtain ⟨t,dt,et⟩:=e
 rcases a with ⟨n,a⟩ | ⟨p,far,r,L,tp⟩ <;> rcases b with ⟨n',b⟩ | ⟨p',far',r',L',tp'⟩
 ·have:=Dp.one a (t:=t) (by rw [et];exact b) dt
  rw [et] at this
  exact this.symm
 ·omega
 ·omega
 ·obtain rfl:=r.uniq r'
  have rl:Rl far G H:=by
   rcases J0 L L' dt et with ⟨m,s⟩ | ⟨m,s⟩
   ·exact ⟨m,by rw [←Ea,←s.mov,et]⟩
   ·refine Rl.symm L' ⟨m,?_⟩
    rw [←Ea,←s.mov,←et,Bw dt]
  exact YF L tp tp' rl
theorem Aa1:∀ (k:Nat) {f:I3},msr f≤k→Bo f→∃ t,det t=1∧Dp (mov f t):=by
 intro k
 induction k with
 | zero =>
  intro f hk h
  cases s:stands f with
  | true=>exact ⟨(1,0,0,1),rfl,by rw [Bq];exact Bb h.1 s⟩
  | false=>have:=Mw h s;omega
 | succ k ih =>
  intro f hk h
  cases s:stands f with
  | true=>exact ⟨(1,0,0,1),rfl,by rw [Bq];exact Bb h.1 s⟩
  | false =>
   obtain ⟨t,dt,L⟩:=ih (f:=mov f (Dm f)) (by have:=Mw h s;omega) (Ln h J1)
   exact ⟨Am (Dm f) t,by rw [Cq,J1,dt];rfl,by rw [←Bk];exact L⟩
theorem AcS {n:Nat} {far:Int} {f:I3} (hn:12≤n) (S:Sad f) (r:Sq (meas f) far):∀ (k:Nat) {t:I4},eM far (mov f t)≤k→Ob n far f t→∃ u,det u=1∧Level (mov f u) far:=by
 intro k
 induction k with
 | zero =>
  intro t hk I
  by_cases z:Level (mov f t) far
  ·exact ⟨t,I.1,z⟩
  ·have:=(Nk hn S r I z).2.1
   omega
 | succ k ih =>
  intro t hk I
  by_cases z:Level (mov f t) far
  ·exact ⟨t,I.1,z⟩
  ·have h:=Nk hn S r I z
   exact ih (by have:=h.2.1;omega) h.1
theorem AaD {far:Int} {f:I3} (S:Sad f) (r:Sq (meas f) far):∃ u,det u=1∧Level (mov f u) far:=by
 have up:∀ {x:Int} {n:Nat},x.natAbs≤n→Bt n x:=fun {x n} h=>by
  unfold Bt
  exact Nat.lt_of_lt_of_le (Nat.lt_two_pow_self) (Nat.pow_le_pow_right (by decide) h)
 refine AcS (n:=f.1.natAbs+f.2.1.natAbs+f.2.2.natAbs+12) (by omega) S r _ (Nat.le_refl _) (Ob.start (by omega) ⟨up (by omega),up (by omega),up (by omega)⟩)
theorem Ab0 {D:Int} {V:I3} (h:Jd D V) (m:D≤4000):∃ G,Eqv V G∧Lst D G:=by
 rcases Int.lt_or_le D 0 with z | z
 ·obtain ⟨t,dt,L⟩:=Aa1 _ (Nat.le_refl (msr V)) ⟨h.pos z,by rw [h.gd.m];exact z⟩
  exact ⟨_,⟨t,dt,rfl⟩,.inl ⟨z,L⟩⟩
 ·have d0:D≠0:=fun e=>h.gd.n ⟨0,by rw [e];rfl⟩
  have S:Sad V:=⟨by rw [h.gd.m];exact h.gd.n,by rw [h.gd.m];omega,by rw [h.gd.m];exact m⟩
  obtain ⟨far,r⟩:=AbT z
  obtain ⟨u,du,L⟩:=AaD (far:=far) S (by rw [h.gd.m];exact r)
  have Lu:Lv far (mov V u):=⟨S.mov du,by rw [Bs du,h.gd.m];exact r,L⟩
  obtain ⟨g,tp,rl⟩:=Aex Lu
  have Lg:=rl.lv Lu
  obtain ⟨k,rfl⟩:=rl
  exact ⟨_,⟨Am u (rT far k (mov V u)),by rw [Cq,du,Lb];rfl,by rw [←Bk,Ea]⟩,.inr ⟨by omega,far,r,Lg,tp⟩⟩
theorem Comp.cancel {D:Int} {U A B A':I3} (u1:U.1=1) (um:My.meas U=D) (hA:Gd D A) (hB:Gd D B) (C:Comp A B A') (e:Eqv A' A):Eqv B U:=by
 have c1:Comp (HW A) A U:=(Nq u1 um hA.m).swap
 have c2:=asc hA.opp hA hB c1 (BZ u1 um hB.m) C
 exact Comp.one hA.opp (c2.eqv (Eqv.refl _) e (Eqv.refl _)) c1
theorem Comp.left {D:Int} {U A A' B X:I3} (u1:U.1=1) (um:My.meas U=D) (hA:Gd D A) (hA':Gd D A') (hB:Gd D B) (C:Comp A B X) (C':Comp A' B X):Eqv A A':=by
 have c1:Comp (HW B) B U:=(Nq u1 um hB.m).swap
 have c2:=asc hB.opp hB hA c1 (BZ u1 um hA.m) C.swap
 have c3:=asc hB.opp hB hA' c1 (BZ u1 um hA'.m) C'.swap
 exact Comp.one hB.opp c2 c3
theorem Ov {D:Int} {U f:I3} (u1:U.1=1) (um:meas U=D) (hf:Jd D f):∀ n,∃ G,Az U f n G∧Jd D G
 | 0=>⟨U,Eqv.refl _,SM u1 um hf.gd,fun _=>by rw [u1];decide⟩
 | n+1=>by
  obtain ⟨V,h,k⟩:=Ov u1 um hf n
  obtain ⟨F,C⟩:=Ma k.gd hf.gd
  exact ⟨F,⟨V,h,C⟩,k.comp hf C⟩
structure Iv (U f:I3) (d:Nat):Prop where
 d0:0 < d
 u:Az U f d U
 l:∀ j,0 < j→j < d→¬ Az U f j U
theorem Iv.uniq {U f:I3} {d e:Nat} (a:Iv U f d) (b:Iv U f e):d=e:=by
 rcases Nat.lt_trichotomy d e with z | z | z
 ·exact absurd a.u (b.l d a.d0 z)
 ·exact z
 ·exact absurd b.u (a.l e b.d0 z)
theorem Iv.base {U f g:I3} {d:Nat} (a:Iv U f d) (e:Eqv f g):Iv U g d:=⟨a.d0,a.u.base e,fun j h1 h2 z=>a.l j h1 h2 (z.base e.symm)⟩
noncomputable def Rt (f:I3):Nat:=((f.1+64)*128+(f.2.1+64)).toNat
theorem Lst.range {D:Int} {G:I3} (mG:meas G=D) (mm:D.natAbs≤4000) (h:Lst D G):(-63≤G.1∧G.1≤63)∧(-63≤G.2.1∧G.2.1≤63)∧G.1≠0:=by
 rcases h with ⟨n,L⟩ | ⟨p,far,r,L,_⟩
 ·obtain ⟨a0,l1,l2,l3,_⟩:=L
  have ex:G.2.1*G.2.1 - 4*G.1*G.2.2=D:=mG
  have y1:G.2.1*G.2.1≤G.1*G.1:=by
   rcases Int.le_total 0 G.2.1 with z | z
   ·exact Int.mul_le_mul l2 l2 z (by omega)
   ·have:=Int.mul_le_mul (show -G.2.1≤G.1 by omega) (show -G.2.1≤G.1 by omega) (by omega) (by omega)
    rw [Int.neg_mul_neg] at this
    exact this
  have y2:G.1*G.1≤G.1*G.2.2:=Int.mul_le_mul_of_nonneg_left l3 (by omega)
  have y3:4*G.1*G.2.2=4*(G.1*G.2.2):=Int.mul_assoc ..
  have a6:G.1≤63:=by
   rcases Int.lt_or_le 63 G.1 with z | z
   ·have:=Int.mul_le_mul (show 64≤G.1 by omega) (show 64≤G.1 by omega) (by decide) (by omega)
    omega
   ·exact z
  omega
 ·have:=L.range
  have:=O5 L.S
  omega
theorem Adl {D:Int} {G H:I3} (mG:meas G=D) (mH:meas H=D) (mm:D.natAbs≤4000) (a:Lst D G) (b:Lst D H) (e:Rt G=Rt H):G=H:=by
 have r1:=a.range mG mm
 have r2:=b.range mH mm
 unfold Rt at e
 have e1:G.1=H.1:=by omega
 have e2:G.2.1=H.2.1:=by omega
 have x1:G.2.1*G.2.1 - 4*G.1*G.2.2=D:=mG
 have x2:H.2.1*H.2.1 - 4*H.1*H.2.2=D:=mH
 rw [←e1,←e2] at x2
 have e3:4*G.1*G.2.2=4*G.1*H.2.2:=by omega
 exact QJ e1 e2 (Int.eq_of_mul_eq_mul_left (by omega) e3)
theorem Agr {D:Int} {U f:I3} (u1:U.1=1) (um:meas U=D) (hf:Jd D f) (mm:D.natAbs≤4000):∃ d,Iv U f d:=by
 have reps:∀ i,∃ G,Az U f i G∧Lst D G:=fun i=>by
  obtain ⟨P,h,k⟩:=Ov u1 um hf i
  obtain ⟨G,e,l⟩:=Ab0 k (by omega)
  exact ⟨G,h.eqv e,l⟩
 let g:=fun i=>Classical.choose (reps i)
 have hg:∀ i,Az U f i (g i)∧Lst D (g i):=fun i=>Classical.choose_spec (reps i)
 have gm:∀ i,meas (g i)=D:=fun i=>(Az.gd u1 um hf.gd (hg i).1).m
 obtain ⟨i,j,ij,_,e⟩:=AaH 16384 (fun i=>Rt (g i)) (fun i _=>by
  have:=(hg i).2.range (gm i) mm
  show Rt (g i) < 16384
  unfold Rt
  omega)
 have eg:=Adl (gm i) (gm j) mm (hg i).2 (hg j).2 e
 obtain ⟨B,pB,kB⟩:=Ov u1 um hf (j - i)
 have gi:=Az.gd u1 um hf.gd (hg i).1
 obtain ⟨C,cC⟩:=Ma gi kB.gd
 have pC:=Az.add u1 um hf.gd (hg i).1 pB cC
 rw [show i+(j - i)=j by omega] at pC
 have e1:Eqv C (g i):=by rw [eg];exact Az.uniq u1 um hf.gd pC (hg j).1
 have e2:=Comp.cancel u1 um gi kB.gd cC e1
 obtain ⟨d,⟨h1,h2⟩,h3⟩:=ZD (fun d=>0 < d∧Az U f d U) ⟨j - i,by omega,pB.eqv e2⟩
 exact ⟨d,h1,h2,fun k k0 kd z=>h3 k kd ⟨k0,z⟩⟩
noncomputable def itr {α:Type} (φ:α→α):Nat→α→α
 | 0,x=>x
 | n+1,x=>φ (itr φ n x)
theorem Jf {α:Type} (φ:α→α) (x:α) (n:Nat):∀ m,itr φ (m+n) x=itr φ m (itr φ n x)
 | 0=>by rw [Nat.zero_add];rfl
 | m+1=>by
  rw [show m+1+n=(m+n)+1 by omega]
  show φ _=φ _
  rw [Jf φ x n m]
theorem RM {α:Type} {φ:α→α} {d:Nat} {x:α} (h:itr φ d x=x):∀ q,itr φ (d*q) x=x
 | 0=>rfl
 | q+1=>by rw [Nat.mul_succ,Jf,h,RM h q]
theorem AdN {α:Type} {φ:α→α} {d:Nat} {x:α} (h:itr φ d x=x) (m:Nat):itr φ m x=itr φ (m % d) x:=by
 have e:=Nat.mod_add_div m d
 have:itr φ (m % d+d*(m / d)) x=itr φ (m % d) x:=by rw [Jf,RM h]
 rw [e] at this
 exact this
theorem Ue {α:Type} {φ:α→α} {S:List α} (cl:∀ x∈S,φ x∈S) {x:α} (hx:x∈S):∀ n,itr φ n x∈S
 | 0=>hx
 | n+1=>cl _ (Ue cl hx n)
theorem AjQ {α:Type} (p:α→Bool):∀ S:List α,S.length=(S.filter p).length+(S.filter fun y=>!p y).length
 | []=>rfl
 | x :: S=>by
  have:=AjQ p S
  rw [List.filter_cons,List.filter_cons]
  cases h:p x with
  | true =>
   simp only [if_true,Bool.not_true,Bool.false_eq_true,if_false,List.length_cons]
   omega
  | false =>
   simp only [Bool.false_eq_true,if_false,Bool.not_false,if_true,List.length_cons]
   omega
theorem AfD {α:Type} [DecidableEq α] (φ:α→α) (d:Nat) (d0:0 < d):∀ (n:Nat) (S:List α),S.length≤n→S.Nodup→(∀ x∈S,φ x∈S)→(∀ x∈S,itr φ d x=x)→(∀ x∈S,∀ j,0 < j→j < d→itr φ j x≠x)→d∣S.length:=by
 intro n
 induction n with
 | zero =>
  intro S h _ _ _ _
  rw [show S.length=0 by omega]
  exact Nat.dvd_zero d
 | succ n ih =>
  intro S hS nd cl per no
  cases hs:S with
  | nil=>exact Nat.dvd_zero d
  | cons x r =>
   rw [←hs]
   have hx:x∈S:=by rw [hs];exact List.mem_cons_self
   have px:=per x hx
   have inO:∀ m,itr φ m x∈(List.range d).map fun i=>itr φ i x:=fun m=>by
    rw [AdN px m]
    exact List.mem_map.mpr ⟨m % d,List.mem_range.mpr (Nat.mod_lt _ d0),rfl⟩
   have ndO:((List.range d).map fun i=>itr φ i x).Nodup:=by
    have key:∀ i j,i < j→j < d→itr φ i x≠itr φ j x:=fun i j ij jd e=>by
     refine no x hx (d - j+i) (by omega) (by omega) ?_
     rw [Jf,e,←Jf,show d - j+j=d by omega,px]
    refine List.pairwise_iff_getElem.mpr fun i j hi hj ij=>?_
    rw [List.length_map,List.length_range] at hi hj
    simp only [List.getElem_map,List.getElem_range]
    exact key i j ij hj
   obtain ⟨O,eO⟩:∃ O,((List.range d).map fun i=>itr φ i x)=O:=⟨_,rfl⟩
   rw [eO] at inO ndO
   have lO:O.length=d:=by rw [←eO,List.length_map,List.length_range]
   have memO:∀ y∈O,∃ i,y=itr φ i x:=fun y hy=>by
    rw [←eO] at hy
    obtain ⟨i,_,rfl⟩:=List.mem_map.mp hy
    exact ⟨i,rfl⟩
   have sub:∀ y∈O,y∈S:=fun y hy=>by
    obtain ⟨i,rfl⟩:=memO y hy
    exact Ue cl hx i
   have l1:(S.filter fun y=>decide (y∈O)).length=d:=by
    have h1:=Mh (ks:=S.filter fun y=>decide (y∈O)) (ls:=O) (nd.filter _) fun y hy=>of_decide_eq_true (List.mem_filter.mp hy).2
    have h2:=Mh (ks:=O) (ls:=S.filter fun y=>decide (y∈O)) ndO fun y hy=>List.mem_filter.mpr ⟨sub y hy,decide_eq_true hy⟩
    omega
   have l2:=AjQ (fun y=>decide (y∈O)) S
   have d2:=ih (S.filter fun y=>!decide (y∈O)) (by omega) (nd.filter _) (fun y hy=>?_) (fun y hy=>per y (List.mem_filter.mp hy).1) (fun y hy=>no y (List.mem_filter.mp hy).1)
   ·rw [l2,l1]
    exact Nat.dvd_add (Nat.dvd_refl d) d2
   ·obtain ⟨h1,h2⟩:=List.mem_filter.mp hy
    refine List.mem_filter.mpr ⟨cl y h1,?_⟩
    have h2:y∉O:=by simpa using h2
    have:φ y∉O:=fun z=>by
     obtain ⟨i,e⟩:=memO _ z
     refine h2 ?_
     have py:=per y h1
     have e1:itr φ (d - 1) (φ y)=y:=by
      have:=Jf φ y 1 (d - 1)
      rw [show d - 1+1=d by omega,py] at this
      exact this.symm
     rw [←e1,e,←Jf]
     exact inO _
    simpa using this
structure Cl (D:Int) (ls:List I3):Prop where
 nd:ls.Nodup
 mem:∀ G,G∈ls↔meas G=D∧g3 G=1∧Lst D G
theorem Cl.fine {D:Int} {ls:List I3} {G:I3} (C:Cl D ls) (n:¬ Hs D) (h:G∈ls):Jd D G:=by
 obtain ⟨m,p,l⟩:=(C.mem G).mp h
 refine ⟨⟨m,p,n⟩,fun z=>?_⟩
 rcases l with ⟨_,L⟩ | ⟨y,_⟩
 ·exact L.1
 ·omega
theorem Cl.has {D:Int} {ls:List I3} {V:I3} (C:Cl D ls) (h:Jd D V) (m:D≤4000):∃ G,G∈ls∧Eqv V G:=by
 obtain ⟨G,e,l⟩:=Ab0 h m
 have hG:=h.eqv e
 exact ⟨G,(C.mem G).mpr ⟨hG.gd.m,hG.gd.p,l⟩,e⟩
theorem Aap {D:Int} {U f:I3} {ls:List I3} {d:Nat} (u1:U.1=1) (um:meas U=D) (C:Cl D ls) (hf:Jd D f) (m:D≤4000) (O:Iv U f d):d∣ls.length:=by
 classical
 have n:=hf.gd.n
 have mul:∀ c∈ls,∃ c',c'∈ls∧Comp c f c':=fun c hc=>by
  have hc':=C.fine n hc
  obtain ⟨V,cV⟩:=Ma hc'.gd hf.gd
  obtain ⟨G,hG,e⟩:=C.has (hc'.comp hf cV) m
  exact ⟨G,hG,cV.eqv (Eqv.refl _) (Eqv.refl _) e⟩
 let φ:I3→I3:=fun c=>if h:c∈ls then Classical.choose (mul c h) else c
 have hφ:∀ c∈ls,φ c∈ls∧Comp c f (φ c):=fun c h=>by
  have:φ c=Classical.choose (mul c h):=dif_pos h
  rw [this]
  exact Classical.choose_spec (mul c h)
 have cl:∀ c∈ls,φ c∈ls:=fun c h=>(hφ c h).1
 have key:∀ c∈ls,∀ k P,Az U f k P→Comp c P (itr φ k c):=fun c hc k=>by
  have gc:=(C.fine n hc).gd
  induction k with
  | zero =>
   intro P hP
   exact ((BZ u1 um gc.m).swap).eqv (Eqv.refl _) hP (Eqv.refl _)
  | succ k ih =>
   rintro P ⟨V,hV,cV⟩
   have gV:=Az.gd u1 um hf.gd hV
   exact asc gc gV hf.gd (ih V hV) (hφ _ (Ue cl hc k)).2 cV
 have same:∀ a∈ls,∀ b∈ls,Eqv a b→a=b:=fun a ha b hb e=>Lst.uniq ((C.mem a).mp ha).1 ((C.mem a).mp ha).2.2 ((C.mem b).mp hb).2.2 e
 refine AfD φ d O.d0 _ ls (Nat.le_refl _) C.nd cl (fun c hc=>?_) (fun c hc j j0 jd e=>?_)
 ·have gc:=(C.fine n hc).gd
  have c1:=key c hc d U O.u
  exact same _ (Ue cl hc d) _ hc (Comp.one gc c1 (BZ u1 um gc.m).swap)
 ·obtain ⟨P,hP,kP⟩:=Ov u1 um hf j
  have gc:=(C.fine n hc).gd
  have c1:=key c hc j P hP
  rw [e] at c1
  exact O.l j j0 jd (hP.eqv (Comp.cancel u1 um gc kP.gd c1 (Eqv.refl _)))
theorem Nb {D:Int} {U f:I3} {d:Nat} (u1:U.1=1) (um:meas U=D) (hf:Gd D f) (h:Az U f d U):∀ q,Az U f (d*q) U
 | 0=>Eqv.refl _
 | q+1=>by
  rw [Nat.mul_succ]
  exact Az.add u1 um hf (Nb u1 um hf h q) h (BZ u1 um um)
theorem Ad1 {D:Int} {U f:I3} {d:Nat} (u1:U.1=1) (um:meas U=D) (hf:Jd D f) (h:Az U f d U):Az U (HW f) d U:=by
 have ho:Jd D (HW f):=⟨hf.gd.opp,hf.pos⟩
 obtain ⟨B,pB,kB⟩:=Ov u1 um ho d
 have c1:Comp U B B:=BZ u1 um kB.gd.m
 have:=(Az.sub u1 um hf.gd h pB c1).1 (Nat.le_refl d)
 rw [Nat.sub_self] at this
 exact pB.eqv (Eqv.symm this)
theorem Aan {D:Int} {U f G g:I3} {d r:Nat} {q:Int} (u1:U.1=1) (um:meas U=D) (hf:Jd D f) (h:Az U f d U) (hG:JN U f ((r:Int)+d*q) G) (hg:Az U f r g):Eqv G g:=by
 have hq:JN U f (d*q) U:=by
  rcases Int.le_total 0 q with z | z
  ·obtain ⟨k,rfl⟩:=Int.eq_ofNat_of_zero_le z
   have e:((d:Int)*(k:Int)).toNat=d*k:=by rw [←Int.natCast_mul,Int.toNat_natCast]
   refine ⟨fun _=>by rw [e];exact Nb u1 um hf.gd h k,fun y=>?_⟩
   have e2:(-((d:Int)*(k:Int))).toNat=0:=by omega
   rw [e2]
   exact Eqv.refl _
  ·obtain ⟨k,hk⟩:=Int.eq_ofNat_of_zero_le (show 0≤-q by omega)
   have eq':q=-(k:Int):=by omega
   subst eq'
   have e:-((d:Int) * -(k:Int))=((d*k:Nat):Int):=by rw [Int.mul_neg,Int.neg_neg,Int.natCast_mul]
   refine ⟨fun y=>?_,fun _=>by rw [e,Int.toNat_natCast];exact Nb u1 um hf.gd.opp (Ad1 u1 um hf h) k⟩
   have e2:((d:Int) * -(k:Int)).toNat=0:=by omega
   rw [e2]
   exact Eqv.refl _
 have hr:JN U f (r:Int) g:=⟨fun _=>by rw [Int.toNat_natCast];exact hg,fun y=>by
  have:r=0:=by omega
  subst this
  exact hg⟩
 have gg:=Az.gd u1 um hf.gd hg
 exact JN.uniq u1 um hf.gd hG (JN.add u1 um hf.gd hr hq (BZ u1 um gg.m).swap)
end My
namespace My
open PySem L2
local macro_rules | `(tactic| walk_at "sc") => `(tactic| (exact ⟨rfl, rfl, rfl, by decide +kernel, rfl, by decide +kernel, by decide +kernel⟩))
local macro_rules | `(tactic| walk_at "lE") => `(tactic| (exact fun ds Q ⟨p, e, _⟩ => by rw [e]; rfl))
local macro_rules | `(tactic| walk_at "b1") => `(tactic| (intro _ _ _ _ _ _ us hl; exact match us, hl with | [_], _ => rfl))
local macro_rules | `(tactic| walk_at "b2") => `(tactic| (intro _ _ _ _ _ _ us hl; exact match us, hl with | [_, _], _ => rfl))
local macro_rules | `(tactic| walk_at "b3") => `(tactic| (intro _ _ _ _ _ _ us hl; exact match us, hl with | [_, _, _], _ => rfl))
local macro_rules | `(tactic| walk_at "b4") => `(tactic| (intro _ _ _ _ _ _ us hl; exact match us, hl with | [_, _, _, _], _ => rfl))
local macro_rules | `(tactic| walk_at "rd1") => `(tactic| dsimp only [Agz, Aj9, AjB, AeD, dIf, Aav, Ae5, Ady, S8, YB, Akh, Yi, Yt, Te, Ajo, AhR, Yq, dIn, dOp, dUn, Qv, dC, dIx, Alz, Alv, Anu, Al7, AlH, AmE, AlU, AmC, AiQ, AjM, Aim, Akg, Aiu, AnC, AkR, AhJ, dI, dI0, dB0, dLt, dLe, dGt, dGe, dEq, dNe, dIs, AhU, Ak0, dOr, Adf, LC, AeH, AaL, AgM, Anl, Aab, YJ, dTup, AjG, dCall, dCB, Aaq, Aa2, AaO, Ali, Aj4, Aid, AaQ, Yy, Afs, Ql, YS, Lj, inner, Afx, AeR, Aa5, Abx, Aax, Aey, dOf, Ai3, YX, AeG, AbP, AgS, Aho, AiD, Am9, AfH, Ak3, AiI, AfZ, Ag5, AlE, Ab4, Anv, Aix, AmD, AjV, Aiq, AiJ, Ah2, AiL, Afy, Aiv, Ah0, ownAt, AkC, Ahg, AgJ, Ags, Ag2, Aha, Aat, Pa, Afr, Al0, SX, AjW, YQ, Yg, AeI, tabOf,
 List.length_cons,List.length_nil,List.getElem?_cons_zero,List.getElem?_cons_succ,List.set_cons_zero,List.set_cons_succ,Nat.reduceAdd,List.map_cons,List.map_nil,Option.join_some])
local macro_rules | `(tactic| walk_at "rd2") => `(tactic| simp only [AkT, Akw, AhP, AkP, Agj, Ahz, AiM, Air, Ahu, Aj3, Aii, Amd, Alo, AnI, AnJ, Ang, AlQ, Af3, AgX, Ahd, Agp, Ag8, AfT, Ahr, Age, Ahm, AgC, Rw, Akk, V1, Ai4, AhH, Ahw, Ah6, Afm, Afv, Agn, Af7, AfF, Abj, KD, AfG, Ahe, Acp, Yz, Ad8, AcR, Aet, Aeu, AdY, if_true, if_false, Bool.and_true, Bool.true_and, Bool.false_and, Bool.and_false, Bool.not_true, Bool.not_false, Bool.false_eq_true, true_and, and_true, ite_true, ite_false, List.length_map])
local macro_rules | `(tactic| walk_at "rd") => `(tactic| ((try walk_at "rd1"); (try walk_at "rd2")))
local macro_rules | `(tactic| walk_at "go") => `(tactic| ((try simp only [Ur, Vi, Vs]); walk_at "rd"))
local macro_rules | `(tactic| walk_at "bts") => `(tactic| first | assumption | (with_reducible apply Bt.mul <;> walk_at "bts") | (with_reducible apply Bt.add <;> walk_at "bts") | (with_reducible apply Bt.sub <;> walk_at "bts") | (with_reducible apply Bt.neg <;> walk_at "bts") | exact Bt.of_abs (n := 1) (by decide) | exact Bt.of_abs (n := 8) (by decide) | exact Bt.of_abs (n := 400) (by decide))
local macro_rules | `(tactic| walk_at "bt") => `(tactic| exact Bt.le (by walk_at "bts") (by decide))
local macro_rules | `(tactic| walk_at "mul") => `(tactic| exact Bt.mulOk (by walk_at "bts") (by walk_at "bts") (by decide) (by decide))
local macro_rules | `(tactic| walk_at "muls") => `(tactic| repeat (refine ⟨by first | walk_at "mul" | exact Ba (by decide) | decide | exact ⟨by decide, by decide⟩, ?_⟩))
noncomputable def top (i:Nat):Stmt:=PySem.Challenge.pw_formcycle_k48_orders_and_powers.main.body.getD i (.Pass ⟨0,0,0,0⟩)
noncomputable abbrev G9:Stmt:=top 11
theorem Js:Al ["one","other","rest"] ["one","other"] (Ai G9):=by walk_at "sc"
noncomputable abbrev Ir:Stmt:=top 12
theorem Hf:Al ["one","other","row","lower","rest"] ["one","other"] (Ai Ir):=by walk_at "sc"
noncomputable abbrev Gk:Stmt:=top 13
theorem Vw:Al ["row","lower","often"] ["row","lower","often"] (Ai Gk):=by walk_at "sc"
noncomputable abbrev Ii:Stmt:=top 14
theorem Ml:Al ["number","guess","better"] ["number"] (Ai Ii):=by walk_at "sc"
noncomputable abbrev Eh:Stmt:=top 15
theorem Lk:Al ["number","side"] ["number"] (Ai Eh):=by walk_at "sc"
noncomputable abbrev Hg:Stmt:=top 16
theorem Hw:Al ["thing","count","put","first","came","place"] ["thing","count","put","first"] (Ai Hg):=by walk_at "sc"
noncomputable abbrev Cm:Stmt:=top 17
theorem Mu:Al ["number","most"] ["number","most"] (Ai Cm):=by walk_at "sc"
noncomputable abbrev Cz:Stmt:=top 18
theorem Oe:Al ["number","most"] ["number","most"] (Ai Cz):=by walk_at "sc"
noncomputable abbrev G7:Stmt:=top 21
theorem Wy:Al ["turn"] ["turn"] (Ai G7):=by walk_at "sc"
noncomputable abbrev Dc:Stmt:=top 22
theorem QW:Al ["turn"] ["turn"] (Ai Dc):=by walk_at "sc"
noncomputable abbrev RL:Stmt:=top 23
theorem AfI:Al ["turn","point"] ["turn","point"] (Ai RL):=by walk_at "sc"
noncomputable abbrev Dv:Stmt:=top 24
theorem Ri:Al ["one","other"] ["one","other"] (Ai Dv):=by walk_at "sc"
noncomputable abbrev Ms:Stmt:=top 25
theorem AcP:Al ["turn"] ["turn"] (Ai Ms):=by walk_at "sc"
noncomputable abbrev CW:Stmt:=top 27
theorem Xd:Al ["form"] ["form"] (Ai CW):=by walk_at "sc"
noncomputable abbrev J8:Stmt:=top 28
theorem Qd:Al ["form","point","x","y"] ["form","point"] (Ai J8):=by walk_at "sc"
noncomputable abbrev Gq:Stmt:=top 29
theorem XM:Al ["form"] ["form"] (Ai Gq):=by walk_at "sc"
noncomputable abbrev Jq:Stmt:=top 30
theorem Qc:Al ["form","turn","left","right"] ["form","turn"] (Ai Jq):=by walk_at "sc"
noncomputable abbrev Ip:Stmt:=top 31
theorem Rx:Al ["form","left","right","crossed"] ["form","left","right"] (Ai Ip):=by walk_at "sc"
noncomputable abbrev Gv:Stmt:=top 32
theorem V5:Al ["form"] ["form"] (Ai Gv):=by walk_at "sc"
noncomputable abbrev Ig:Stmt:=top 33
theorem Vp:Al ["form","number"] ["form"] (Ai Ig):=by walk_at "sc"
noncomputable abbrev Eo:Stmt:=top 35
theorem Q9:Al ["form"] ["form"] (Ai Eo):=by walk_at "sc"
noncomputable abbrev CJ:Stmt:=top 36
theorem Fe:Al ["form","a","b","c"] ["form"] (Ai CJ):=by walk_at "sc"
noncomputable abbrev Hh:Stmt:=top 37
theorem Ho:Al ["form","turn","lowering"] ["form"] (Ai Hh):=by walk_at "sc"
noncomputable abbrev El:Stmt:=top 38
theorem Ku:Al ["form","often"] ["form"] (Ai El):=by walk_at "sc"
noncomputable abbrev Cd:Stmt:=top 41
theorem Og:Al ["form"] ["form"] (Ai Cd):=by walk_at "sc"
noncomputable abbrev CG:Stmt:=top 42
theorem Jv:Al ["form","far","b"] ["form","far"] (Ai CG):=by walk_at "sc"
noncomputable abbrev DX:Stmt:=top 43
theorem Gb:Al ["form","top","b","c","d"] ["form","top"] (Ai DX):=by walk_at "sc"
noncomputable abbrev Dj:Stmt:=top 44
theorem JZ:Al ["stop","top","turn"] ["stop","top"] (Ai Dj):=by walk_at "sc"
noncomputable abbrev J4:Stmt:=top 45
theorem Lh:Al ["form","far","stop"] ["form"] (Ai J4):=by walk_at "sc"
noncomputable abbrev Di:Stmt:=top 46
theorem Dl:Al ["form","far","first","stops","stop"] ["form"] (Ai Di):=by walk_at "sc"
noncomputable abbrev Fg:Stmt:=top 47
theorem JC:Al ["form","forms","place"] ["form"] (Ai Fg):=by walk_at "sc"
noncomputable abbrev G6:Stmt:=top 48
theorem Xa:Al ["form"] ["form"] (Ai G6):=by walk_at "sc"
noncomputable abbrev Dk:Stmt:=top 53
theorem Ux:Al ["form"] ["form"] (Ai Dk):=by walk_at "sc"
noncomputable abbrev Fi:Stmt:=top 54
theorem Uw:Al ["form"] ["form"] (Ai Fi):=by walk_at "sc"
noncomputable abbrev Gu:Stmt:=top 56
theorem Jt:Al ["one","other","common","form","lowest"] ["one","other"] (Ai Gu):=by walk_at "sc"
noncomputable abbrev Er:Stmt:=top 57
theorem Ih:Al ["one","other","first","second"] ["one","other"] (Ai Er):=by walk_at "sc"
noncomputable abbrev Cv:Stmt:=top 58
theorem Qi:Al ["form"] ["form"] (Ai Cv):=by walk_at "sc"
noncomputable abbrev Bp:Stmt:=top 59
theorem KQ:Al ["one","other"] ["one","other"] (Ai Bp):=by walk_at "sc"
noncomputable abbrev CV:Stmt:=top 60
theorem Gn:Al ["one","other","firsts","whole"] ["one","other"] (Ai CV):=by walk_at "sc"
noncomputable abbrev Et:Stmt:=top 61
theorem Dh:Al ["one","other","common","g","d","e","first","more","middle"] ["one","other","common"] (Ai Et):=by walk_at "sc"
noncomputable abbrev Em:Stmt:=top 62
theorem Cw:Al ["one","other","g","middle","a","b","d","e","s","last","upper"] ["one","other","g","middle"] (Ai Em):=by walk_at "sc"
noncomputable abbrev Du:Stmt:=top 63
theorem Nv:Al ["turn","rows","pairs"] ["turn","rows"] (Ai Du):=by walk_at "sc"
noncomputable abbrev Cj:Stmt:=top 65
theorem Mx:Al ["number"] ["number"] (Ai Cj):=by walk_at "sc"
noncomputable abbrev JL:Stmt:=top 66
theorem X8:Al ["number","middle"] ["number"] (Ai JL):=by walk_at "sc"
noncomputable abbrev Hi:Stmt:=top 67
theorem Xp:Al ["number"] ["number"] (Ai Hi):=by walk_at "sc"
noncomputable abbrev Dg:Stmt:=top 68
theorem QL:Al ["number"] ["number"] (Ai Dg):=by walk_at "sc"
noncomputable abbrev CT:Stmt:=top 69
theorem Cy:Al ["number","far","found","seen","form","other"] ["number"] (Ai CT):=by walk_at "sc"
noncomputable abbrev Cu:Stmt:=top 70
theorem Gg:Al ["number","most","found","a","b"] ["number","most"] (Ai Cu):=by walk_at "sc"
noncomputable abbrev Cp:Stmt:=top 71
theorem Mt:Al ["one","other"] ["one","other"] (Ai Cp):=by walk_at "sc"
noncomputable abbrev J5:Stmt:=top 72
theorem Uz:Al ["form","count","whole"] ["form","count"] (Ai J5):=by walk_at "sc"
noncomputable abbrev Gi:Stmt:=top 73
theorem Ds:Al ["form","whole","first","lowest","came","count"] ["form"] (Ai Gi):=by walk_at "sc"
noncomputable abbrev Ej:Stmt:=top 75
theorem TV:Al ["_law_script","_law_k"] ["_law_script","_law_k"] (Ai Ej):=by walk_at "sc"
noncomputable abbrev DK:Stmt:=top 76
theorem Ra:Al ["_law_found"] ["_law_found"] (Ai DK):=by walk_at "sc"
noncomputable abbrev Df:Stmt:=top 77
theorem O1:Al ["_law_found","_law_many"] ["_law_found","_law_many"] (Ai Df):=by walk_at "sc"
noncomputable abbrev Fo:Stmt:=top 78
theorem Jr:Al ["_law_number_here","_law_near"] ["_law_number_here"] (Ai Fo):=by walk_at "sc"
noncomputable abbrev Fq:Stmt:=top 79
theorem BR:Al ["_law_first","_law_cells","_law_p","_law_q","_law_r","_law_s","_law_cell_here","_law_k"] ["_law_first","_law_cells"] (Ai Fq):=by walk_at "sc"
noncomputable abbrev Es:Stmt:=top 80
theorem Rg:Al ["_law_form","_law_x","_law_y"] ["_law_form","_law_x","_law_y"] (Ai Es):=by walk_at "sc"
noncomputable abbrev Eu:Stmt:=top 81
theorem DP:Al ["_law_form","_law_turn_here","_law_p","_law_q","_law_r","_law_s","_law_middle"] ["_law_form","_law_turn_here"] (Ai Eu):=by walk_at "sc"
noncomputable abbrev DR:Stmt:=top 82
theorem Ed:Al ["_law_script","_law_number_here"] ["_law_script"] (Ai DR):=by walk_at "sc"
noncomputable abbrev DY:Stmt:=top 83
theorem Fw:Al ["_law_form","_law_first","_law_order","_law_found","_law_k","_law_now"] ["_law_form","_law_first","_law_order"] (Ai DY):=by walk_at "sc"
noncomputable abbrev Li:Stmt:=top 84
theorem Hr:Al ["_law_script","_law_number_here","_law_forms","_law_form","_law_far","_law_order","_law_powers_here","_law_count","_law_many","_law_found"] ["_law_script"] (Ai Li):=by walk_at "sc"
noncomputable abbrev IW:Stmt:=inClass (top 50) 0
theorem Y9:Al ["self","form","lowest"] ["self","form","lowest"] (Ai IW):=by walk_at "sc"
noncomputable abbrev J9:Stmt:=inClass (top 51) 0
theorem Abb:Al ["self","form"] ["self","form"] (Ai J9):=by walk_at "sc"
noncomputable abbrev Hj:Stmt:=inClass (top 52) 0
theorem W6:Al ["self","form"] ["self","form"] (Ai Hj):=by walk_at "sc"
noncomputable abbrev Iz:Stmt:=inClass (top 50) 1
theorem Zb:Al ["self"] ["self"] (Ai Iz):=by walk_at "sc"
structure Txt (K:PySem.W.Frag) (mg:Str→Option Value):Prop where
 o_Bowl:∃ C f fd,MkC K mg "Bowl" ["form","measure","lowest"] C f∧Fun K "__init__" "Bowl.__init__" J9 f fd∧Binds K fd ["self","form"] []
 ic_Bowl:IsC K "Bowl"
 na_Bowl_form:Rf K "Bowl" "form"
 na_Bowl_measure:Rf K "Bowl" "measure"
 na_Bowl_lowest:Rf K "Bowl" "lowest"
 o_Saddle:∃ C f fd,MkC K mg "Saddle" ["form","measure","lowest"] C f∧Fun K "__init__" "Saddle.__init__" Hj f fd∧Binds K fd ["self","form"] []
 ic_Saddle:IsC K "Saddle"
 na_Saddle_form:Rf K "Saddle" "form"
 na_Saddle_measure:Rf K "Saddle" "measure"
 na_Saddle_lowest:Rf K "Saddle" "lowest"
 cm_Shape:∃ g fd,YW K mg "Shape" "__init__" g∧Fun K "__init__" "Shape.__init__" IW g fd∧Binds K fd ["self","form","lowest"] []
 me_least:∃ g fd,(∀ c∈(["Bowl","Saddle"]:List Str),Yc K c "least" g)∧PySem.W.keepIn K (.ref g)=true∧Fun K "least" "Shape.least" Iz g fd∧Binds K fd ["self"] []
 t_divisor:∃ f fd,FnT K mg "divisor" G9 ["one","other"] f fd
 t_shares:∃ f fd,FnT K mg "shares" Ir ["one","other"] f fd
 t_row_less:∃ f fd,FnT K mg "row_less" Gk ["row","lower","often"] f fd
 t_root:∃ f fd,FnT K mg "root" Ii ["number"] f fd
 t_is_square:∃ f fd,FnT K mg "is_square" Eh ["number"] f fd
 t_powered:∃ f fd,FnT K mg "powered" Hg ["thing","count","put","first"] f fd
 t_check_at_most:∃ f fd,FnT K mg "check_at_most" Cm ["number","most"] f fd
 t_check_within:∃ f fd,FnT K mg "check_within" Cz ["number","most"] f fd
 t_is_turn:∃ f fd,FnT K mg "is_turn" G7 ["turn"] f fd
 t_check_turn:∃ f fd,FnT K mg "check_turn" Dc ["turn"] f fd
 t_led:∃ f fd,FnT K mg "led" RL ["turn","point"] f fd
 t_put_behind:∃ f fd,FnT K mg "put_behind" Dv ["one","other"] f fd
 t_back:∃ f fd,FnT K mg "back" Ms ["turn"] f fd
 t_measure:∃ f fd,FnT K mg "measure" CW ["form"] f fd
 t_value:∃ f fd,FnT K mg "value" J8 ["form","point"] f fd
 t_content:∃ f fd,FnT K mg "content" Gq ["form"] f fd
 t_moved:∃ f fd,FnT K mg "moved" Jq ["form","turn"] f fd
 t_middle:∃ f fd,FnT K mg "middle" Ip ["form","left","right"] f fd
 t_opposite:∃ f fd,FnT K mg "opposite" Gv ["form"] f fd
 t_shape:∃ f fd,FnT K mg "shape" Ig ["form"] f fd
 t_check_bowl:∃ f fd,FnT K mg "check_bowl" Eo ["form"] f fd
 t_stands_least:∃ f fd,FnT K mg "stands_least" CJ ["form"] f fd
 t_settled:∃ f fd,FnT K mg "settled" Hh ["form"] f fd
 t_turn_lower:∃ f fd,FnT K mg "turn_lower" El ["form"] f fd
 t_check_saddle:∃ f fd,FnT K mg "check_saddle" Cd ["form"] f fd
 t_stands_level:∃ f fd,FnT K mg "stands_level" CG ["form","far"] f fd
 t_turn_behind:∃ f fd,FnT K mg "turn_behind" DX ["form","top"] f fd
 t_stop_behind:∃ f fd,FnT K mg "stop_behind" Dj ["stop","top"] f fd
 t_eased:∃ f fd,FnT K mg "eased" J4 ["form"] f fd
 t_stops_round:∃ f fd,FnT K mg "stops_round" Di ["form"] f fd
 t_round_of:∃ f fd,FnT K mg "round_of" Fg ["form"] f fd
 t_lowered:∃ f fd,FnT K mg "lowered" G6 ["form"] f fd
 t_shape_of:∃ f fd,FnT K mg "shape_of" Dk ["form"] f fd
 t_least_of:∃ f fd,FnT K mg "least_of" Fi ["form"] f fd
 t_product:∃ f fd,FnT K mg "product" Gu ["one","other"] f fd
 t_check_pair:∃ f fd,FnT K mg "check_pair" Er ["one","other"] f fd
 t_check_plain:∃ f fd,FnT K mg "check_plain" Cv ["form"] f fd
 t_half_of_middles:∃ f fd,FnT K mg "half_of_middles" Bp ["one","other"] f fd
 t_common_shares:∃ f fd,FnT K mg "common_shares" CV ["one","other"] f fd
 t_joint_form:∃ f fd,FnT K mg "joint_form" Et ["one","other","common"] f fd
 t_joint_rows:∃ f fd,FnT K mg "joint_rows" Em ["one","other","g","middle"] f fd
 t_rows_led:∃ f fd,FnT K mg "rows_led" Du ["turn","rows"] f fd
 t_check_measure:∃ f fd,FnT K mg "check_measure" Cj ["number"] f fd
 t_unit:∃ f fd,FnT K mg "unit" JL ["number"] f fd
 t_classes:∃ f fd,FnT K mg "classes" Hi ["number"] f fd
 t_least_bowls:∃ f fd,FnT K mg "least_bowls" Dg ["number"] f fd
 t_least_saddles:∃ f fd,FnT K mg "least_saddles" CT ["number"] f fd
 t_plain_forms:∃ f fd,FnT K mg "plain_forms" Cu ["number","most"] f fd
 t_least_product:∃ f fd,FnT K mg "least_product" Cp ["one","other"] f fd
 t_power:∃ f fd,FnT K mg "power" J5 ["form","count"] f fd
 t_order_of:∃ f fd,FnT K mg "order_of" Gi ["form"] f fd
 t__law_cell:∃ f fd,FnT K mg "_law_cell" Ej ["_law_script","_law_k"] f fd
 t__law_whole:∃ f fd,FnT K mg "_law_whole" DK ["_law_found"] f fd
 t__law_wholes:∃ f fd,FnT K mg "_law_wholes" Df ["_law_found","_law_many"] f fd
 t__law_root:∃ f fd,FnT K mg "_law_root" Fo ["_law_number_here"] f fd
 t__law_turn:∃ f fd,FnT K mg "_law_turn" Fq ["_law_first","_law_cells"] f fd
 t__law_value:∃ f fd,FnT K mg "_law_value" Es ["_law_form","_law_x","_law_y"] f fd
 t__law_moved:∃ f fd,FnT K mg "_law_moved" Eu ["_law_form","_law_turn_here"] f fd
 t__law_number:∃ f fd,FnT K mg "_law_number" DR ["_law_script"] f fd
 t__law_powers:∃ f fd,FnT K mg "_law_powers" DY ["_law_form","_law_first","_law_order"] f fd
 t_law:∃ f fd,FnT K mg "law" Li ["_law_script"] f fd
 m_MOST_MEASURE:∃ t,mg "MOST_MEASURE"=some (.int (4000) t)
 z_abs:mg "abs"=none
 z_bool:mg "bool"=none
 z_int:mg "int"=none
 z_isinstance:mg "isinstance"=none
 z_len:mg "len"=none
 z_max:mg "max"=none
 z_min:mg "min"=none
 z_range:mg "range"=none
 z_tuple:mg "tuple"=none
 z_zip:mg "zip"=none
 k_SAME:∃ a,mg "SAME"=some (.ref a)∧∀ H,Rp K H (.tup [.int (1),.int (0),.int (0),.int (1)]) (.ref a)
noncomputable abbrev PX:DSp:=Ca (fun t:I4=>[t4 t]) (B4 300000) fun t=>.bl (decide (det t=1))
noncomputable abbrev Gx:DSp:=Ca (fun t:I4=>[t4 t]) (fun t=>B4 300000 t∧det t=1) fun _=>.non
noncomputable abbrev Abi:DSp:=Ca (fun p:I4 × I2=>[t4 p.1,t2 p.2]) (fun p=>B4 300000 p.1∧det p.1=1∧B2 300000 p.2) fun p=>t2 (HS p.1 p.2)
noncomputable abbrev Il:DSp:=Ca (fun p:I4 × I4=>[t4 p.1,t4 p.2]) (fun p=>B4 400000 p.1∧B4 400000 p.2) fun p=>t4 (Am p.1 p.2)
noncomputable abbrev X6:DSp:=Ca (fun t:I4=>[t4 t]) (fun t=>B4 300000 t∧det t=1) fun t=>t4 (Ar t)
section
variable (P:Program) (w:World) {K:PySem.W.Frag} {mg:Str→Option Value} (base:Heap)
theorem WQ (T:Txt K mg)
  : Pm P w K mg base 1 "is_turn" G7 ["turn"] PX:=by
 obtain ⟨f,fd,F⟩:=T.t_is_turn
 refine ⟨f,fd,F,F.fn.okD Wy (by walk_at "lE") fun cdv A outer s H E hr=>⟨_,(Ah (Aq (YC hr.units (Bu (Ao (Ac (dv 0) Ab) (Ac (dv 0) Ab)) (Ao (Ac (dv 0) Ab) (Ac (dv 0) Ab))) Ab))),fun ds Q h=>?_⟩⟩
 obtain ⟨⟨a,b,c,d⟩,rfl,⟨ha,hb,hc,hd⟩,q⟩:=h
 walk_at "go"
 exact ⟨by walk_at "mul",by walk_at "mul",q _ rfl⟩
theorem Q5 (T:Txt K mg)
  (G_is_turn:Pm P w K mg base 1 "is_turn" G7 ["turn"] PX)
  : Pm P w K mg base 2 "check_turn" Dc ["turn"] Gx:=by
 obtain ⟨f,fd,F⟩:=T.t_check_turn
 refine ⟨f,fd,F,F.fn.okD QW (by walk_at "lE") fun cdv A outer s H E hr=>⟨_,(Ah (Ci (K5 (Ht (Ag Ad G_is_turn (hr.mono (by decide)) rfl (Aa (dv 0) Af)))) (Ah FW) Bg)),fun ds Q h=>?_⟩⟩
 obtain ⟨t,rfl,⟨hb,hd⟩,q⟩:=h
 walk_at "go"
 refine Aj t hb ?_
 walk_at "rd"
 rw [decide_eq_true hd]
 exact q _ rfl
theorem AgU (T:Txt K mg)
  (G_check_turn:Pm P w K mg base 2 "check_turn" Dc ["turn"] Gx)
  : Pm P w K mg base 3 "led" RL ["turn","point"] Abi:=by
 obtain ⟨f,fd,F⟩:=T.t_led
 refine ⟨f,fd,F,F.fn.okD AfI (by walk_at "lE") fun cdv A outer s H E hr=>⟨_,(Ae (CK (Ag Ad G_check_turn (hr.mono (by decide)) rfl (Aa (dv 0) Af))) (Ah (Aq (BK (Aa (BL (Ao (Ac (dv 0) Ab) (Ac (dv 1) Ab)) (Ao (Ac (dv 0) Ab) (Ac (dv 1) Ab))) (Aa (BL (Ao (Ac (dv 0) Ab) (Ac (dv 1) Ab)) (Ao (Ac (dv 0) Ab) (Ac (dv 1) Ab))) Af)))))),fun ds Q h=>?_⟩⟩
 obtain ⟨⟨⟨a,b,c,d⟩,x,y⟩,rfl,⟨hb,hd,hx,hy⟩,q⟩:=h
 walk_at "go"
 refine Aj (a,b,c,d) ⟨hb,hd⟩ ?_
 obtain ⟨ha,hb,hc,hd⟩:=hb
 exact ⟨by walk_at "mul",by walk_at "mul",by walk_at "mul",by walk_at "mul",Ba (by decide),q _ rfl⟩
theorem Rn (T:Txt K mg)
  : Pm P w K mg base 1 "put_behind" Dv ["one","other"] Il:=by
 obtain ⟨f,fd,F⟩:=T.t_put_behind
 refine ⟨f,fd,F,F.fn.okD Ri (by walk_at "lE") fun cdv A outer s H E hr=>⟨_,(Ah (Aq (BK (Aa (BL (Ao (Ac (dv 0) Ab) (Ac (dv 1) Ab)) (Ao (Ac (dv 0) Ab) (Ac (dv 1) Ab))) (Aa (BL (Ao (Ac (dv 0) Ab) (Ac (dv 1) Ab)) (Ao (Ac (dv 0) Ab) (Ac (dv 1) Ab))) (Aa (BL (Ao (Ac (dv 0) Ab) (Ac (dv 1) Ab)) (Ao (Ac (dv 0) Ab) (Ac (dv 1) Ab))) (Aa (BL (Ao (Ac (dv 0) Ab) (Ac (dv 1) Ab)) (Ao (Ac (dv 0) Ab) (Ac (dv 1) Ab))) Af))))))),fun ds Q h=>?_⟩⟩
 obtain ⟨⟨⟨a,b,c,d⟩,e,f,g,i⟩,rfl,⟨⟨ha,hb,hc,hd⟩,he,hf,hg,hi⟩,q⟩:=h
 walk_at "go"
 exact ⟨by walk_at "mul",by walk_at "mul",by walk_at "mul",by walk_at "mul",by walk_at "mul",by walk_at "mul",by walk_at "mul",by walk_at "mul",Ba (by decide),q _ rfl⟩
theorem Adc (T:Txt K mg)
  (G_check_turn:Pm P w K mg base 2 "check_turn" Dc ["turn"] Gx)
  : Pm P w K mg base 3 "back" Ms ["turn"] X6:=by
 obtain ⟨f,fd,F⟩:=T.t_back
 refine ⟨f,fd,F,F.fn.okD AcP (by walk_at "lE") fun cdv A outer s H E hr=>⟨_,(Ae (CK (Ag Ad G_check_turn (hr.mono (by decide)) rfl (Aa (dv 0) Af))) (Ah (Aq (BK (Aa (Ac (dv 0) Ab) (Aa (Ek (Ac (dv 0) Ab)) (Aa (Ek (Ac (dv 0) Ab)) (Aa (Ac (dv 0) Ab) Af)))))))),fun ds Q h=>?_⟩⟩
 obtain ⟨⟨a,b,c,d⟩,rfl,⟨hb,hd⟩,q⟩:=h
 walk_at "go"
 refine Aj (a,b,c,d) ⟨hb,hd⟩ ?_
 exact ⟨Ba (by decide),q _ rfl⟩
theorem Adp (T:Txt K mg)
  : Pm P w K mg base 1 "root" Ii ["number"] J2:=by
 obtain ⟨f,fd,F⟩:=T.t_root
 refine ⟨f,fd,F,F.fn.okD Ml (by walk_at "lE") fun cdv A outer s H E hr=>⟨_,(Ae (Ci (NT (dv 0) Ab) (Ah FW) Bg) (Ae (Ci (Jx hr.units (dv 0) Ab) (Ah (Aq Ab)) Bg) (Ae (Ak 1 Ml.nd (Abo Ab (Ce (BL (S9 (dv 0)) Ab) Ab))) (Ae (Ak 2 Ml.nd (Ce (BL (dv 1) (Ce (dv 0) (dv 1))) Ab)) (Ae (Gf PassesOwn.never (NT (dv 2) (dv 1)) (Ae (Ak 1 Ml.nd (dv 2)) (Ah (Ak 2 Ml.nd (Ce (BL (dv 1) (Ce (dv 0) (dv 1))) Ab))))) (Ah (Aq (dv 1)))))))),fun ds Q h=>?_⟩⟩
 obtain ⟨n,rfl,⟨h0,hb⟩,q⟩:=h
 walk_at "go"
 refine Ft (decide_eq_false (by omega)) ?_
 by_cases hz:n=0
 ·subst hz
  exact ift rfl (q _ ⟨0,rfl,⟨by omega,by omega,by omega⟩,Bt.zero.le (by decide)⟩)
 refine Ft (decide_eq_false hz) ?_
 obtain ⟨c1,c2,c3⟩:=Nt hb
 have hu:=Vm h0
 refine ⟨⟨by decide,by decide⟩,c1,?_⟩
 generalize (1*2 ^ ((((Builtin.Int.intBits n:Nat):Int)+1).fdiv 2).toNat:Int)=g at *
 refine ⟨Bt.divOk c2 (by omega),⟨by decide,by decide⟩,?_⟩
 rw [Tw c3]
 refine FZ (fun m ρ=>∃ g:Int,ρ=[some (.is (.int n)),some (.is (.int g)),some (.is (.int ((g+n / g) / 2)))]∧0 < g∧Bt 2001 g∧n < (g+1)*(g+1)∧m=g.toNat) _ ⟨g,rfl,c3,c2,hu,rfl⟩ ?_
 rintro m _ ⟨g,rfl,hg,hgb,hgu,rfl⟩
 walk_at "rd"
 refine JK (fun hw=>?_) (fun hw=>?_)
 ·have hw:=of_decide_eq_true hw
  have hp:=WD (show 1≤n by omega) hg
  have hu':=RN h0 hg
  have hbb:Bt 2001 ((g+n / g) / 2):=by unfold Bt at *;omega
  generalize (g+n / g) / 2=b at *
  refine ⟨Bt.divOk hbb (by omega),⟨by decide,by decide⟩,?_⟩
  rw [Tw hp]
  exact ⟨_,by omega,b,rfl,hp,hbb,hu',rfl⟩
 ·have hw:¬ (g+n / g) / 2 < g:=fun z=>hw (decide_eq_true z)
  exact q _ ⟨g,rfl,⟨by omega,XJ hg (by omega),hgu⟩,hgb⟩
theorem Ua (T:Txt K mg)
  (G_root:Pm P w K mg base 1 "root" Ii ["number"] J2)
  : Pm P w K mg base 2 "is_square" Eh ["number"] Jh:=by
 obtain ⟨f,fd,F⟩:=T.t_is_square
 refine ⟨f,fd,F,F.fn.okD Lk (by walk_at "lE") fun cdv A outer s H E hr=>⟨_,(Ae (Ci (NT (dv 0) Ab) (Ah (Aq O3)) Bg) (Ae (Ak 1 Lk.nd (Ag Ad G_root (hr.mono (by decide)) rfl (Aa (dv 0) Af))) (Ah (Aq (YC hr.units (Ao (dv 1) (dv 1)) (dv 0)))))),fun ds Q h=>?_⟩⟩
 obtain ⟨n,rfl,hb,q⟩:=h
 walk_at "go"
 refine JK (fun hw=>?_) (fun hw=>?_)
 ·have hw:=of_decide_eq_true hw
  exact q _ ⟨false,rfl,by simp [Lq hw]⟩
 ·have hw:¬ n < 0:=fun z=>hw (decide_eq_true z)
  refine Av n ⟨by omega,hb⟩ ?_
  rintro _ ⟨r,rfl,hs,hr'⟩
  walk_at "rd"
  refine ⟨by walk_at "mul",q _ ⟨_,rfl,?_⟩⟩
  rw [Uy hs];simp
noncomputable abbrev Ef:DSp:=Ca (fun f:I3=>[t3 f]) (B3 20000) fun f=>.int (meas f)
noncomputable abbrev Wf:DSp:=Ca (fun p:I3 × I2=>[t3 p.1,t2 p.2]) (fun p=>B3 20000 p.1∧B2 300000 p.2) fun p=>.int (val p.1 p.2)
noncomputable abbrev R9:DSp:=Ca (fun p:I3 × I2 × I2=>[t3 p.1,t2 p.2.1,t2 p.2.2]) (fun p=>B3 20000 p.1∧B2 300000 p.2.1∧B2 300000 p.2.2) fun p=>.int (mid p.1 p.2.1 p.2.2)
noncomputable abbrev QG:DSp:=Ca (fun p:I3 × I4=>[t3 p.1,t4 p.2]) (fun p=>B3 20000 p.1∧B4 300000 p.2∧det p.2=1) fun p=>t3 (mov p.1 p.2)
theorem XH (T:Txt K mg)
  : Pm P w K mg base 1 "measure" CW ["form"] Ef:=by
 obtain ⟨f,fd,F⟩:=T.t_measure
 refine ⟨f,fd,F,F.fn.okD Xd (by walk_at "lE") fun cdv A outer s H E hr=>⟨_,(Ah (Aq (Bu (Ao (Ac (dv 0) Ab) (Ac (dv 0) Ab)) (Ao (Ao Ab (Ac (dv 0) Ab)) (Ac (dv 0) Ab))))),fun ds Q h=>?_⟩⟩
 obtain ⟨⟨a,b,c⟩,rfl,⟨ha,hb,hc⟩,q⟩:=h
 walk_at "go"
 have h2:Bt 3 4:=Bt.of_abs (by decide)
 exact ⟨by walk_at "mul",by walk_at "mul",by walk_at "mul",q _ rfl⟩
theorem Aar (T:Txt K mg)
  : Pm P w K mg base 1 "value" J8 ["form","point"] Wf:=by
 obtain ⟨f,fd,F⟩:=T.t_value
 refine ⟨f,fd,F,F.fn.okD Qd (by walk_at "lE") fun cdv A outer s H E hr=>⟨_,(Ae (Ak 2 Qd.nd (Ac (dv 1) Ab)) (Ae (Ak 3 Qd.nd (Ac (dv 1) Ab)) (Ah (Aq (BL (BL (Ao (Ao (Ac (dv 0) Ab) (dv 2)) (dv 2)) (Ao (Ao (Ac (dv 0) Ab) (dv 2)) (dv 3))) (Ao (Ao (Ac (dv 0) Ab) (dv 3)) (dv 3))))))),fun ds Q h=>?_⟩⟩
 obtain ⟨⟨⟨a,b,c⟩,x,y⟩,rfl,⟨⟨ha,hb,hc⟩,hx,hy⟩,q⟩:=h
 walk_at "go"
 exact ⟨by walk_at "mul",by walk_at "mul",by walk_at "mul",by walk_at "mul",by walk_at "mul",by walk_at "mul",q _ rfl⟩
theorem Zm (T:Txt K mg)
  : Pm P w K mg base 1 "middle" Ip ["form","left","right"] R9:=by
 obtain ⟨f,fd,F⟩:=T.t_middle
 refine ⟨f,fd,F,F.fn.okD Rx (by walk_at "lE") fun cdv A outer s H E hr=>⟨_,(Ae (Ak 3 Rx.nd (BL (Ao (Ac (dv 1) Ab) (Ac (dv 2) Ab)) (Ao (Ac (dv 2) Ab) (Ac (dv 1) Ab)))) (Ah (Aq (BL (BL (Ao (Ao (Ao Ab (Ac (dv 0) Ab)) (Ac (dv 1) Ab)) (Ac (dv 2) Ab)) (Ao (Ac (dv 0) Ab) (dv 3))) (Ao (Ao (Ao Ab (Ac (dv 0) Ab)) (Ac (dv 1) Ab)) (Ac (dv 2) Ab)))))),fun ds Q h=>?_⟩⟩
 obtain ⟨⟨⟨a,b,c⟩,⟨x,y⟩,u,v⟩,rfl,⟨⟨ha,hb,hc⟩,⟨hx,hy⟩,hu,hv⟩,q⟩:=h
 walk_at "go"
 have h2:Bt 2 2:=Bt.of_abs (by decide)
 walk_at "muls"
 exact q _ rfl
theorem AaW (T:Txt K mg)
  (G_check_turn:Pm P w K mg base 2 "check_turn" Dc ["turn"] Gx)
  (G_value:Pm P w K mg base 1 "value" J8 ["form","point"] Wf)
  (G_middle:Pm P w K mg base 1 "middle" Ip ["form","left","right"] R9)
  : Pm P w K mg base 3 "moved" Jq ["form","turn"] QG:=by
 obtain ⟨f,fd,F⟩:=T.t_moved
 refine ⟨f,fd,F,F.fn.okD Qc (by walk_at "lE") fun cdv A outer s H E hr=>⟨_,(Ae (CK (Ag Ad G_check_turn (hr.mono (by decide)) rfl (Aa (dv 1) Af))) (Ae (Ak 2 Qc.nd (BK (Aa (Ac (dv 1) Ab) (Aa (Ac (dv 1) Ab) Af)))) (Ae (Ak 3 Qc.nd (BK (Aa (Ac (dv 1) Ab) (Aa (Ac (dv 1) Ab) Af)))) (Ah (Aq (BK (Aa (Ag Ad G_value (hr.mono (by decide)) rfl (Aa (dv 0) (Aa (dv 2) Af))) (Aa (Ag Ad G_middle (hr.mono (by decide)) rfl (Aa (dv 0) (Aa (dv 2) (Aa (dv 3) Af)))) (Aa (Ag Ad G_value (hr.mono (by decide)) rfl (Aa (dv 0) (Aa (dv 3) Af))) Af))))))))),fun ds Q h=>?_⟩⟩
 obtain ⟨⟨f,t⟩,rfl,⟨hf,ht,hd⟩,q⟩:=h
 walk_at "go"
 have hl:B2 300000 (t.1,t.2.2.1):=⟨ht.1.le (by decide),ht.2.2.1.le (by decide)⟩
 have hr':B2 300000 (t.2.1,t.2.2.2):=⟨ht.2.1.le (by decide),ht.2.2.2.le (by decide)⟩
 refine Aj t ⟨ht,hd⟩ ⟨Ba (by decide),Ba (by decide),?_⟩
 refine Aj (f,(t.1,t.2.2.1)) ⟨hf,hl⟩ ?_
 refine Aj (f,(t.1,t.2.2.1),(t.2.1,t.2.2.2)) ⟨hf,hl,hr'⟩ ?_
 refine Aj (f,(t.2.1,t.2.2.2)) ⟨hf,hr'⟩ ⟨Ba (by decide),?_⟩
 exact q _ rfl
noncomputable abbrev PN:DSp:=Ca (fun p:I2=>[.int p.1,.int p.2]) (fun _=>True) fun p=>.int ((Int.gcd p.1 p.2:Nat):Int)
theorem Xf (T:Txt K mg)
  : Pm P w K mg base 1 "divisor" G9 ["one","other"] PN:=by
 obtain ⟨f,fd,F⟩:=T.t_divisor
 refine ⟨f,fd,F,F.fn.okD Js (by walk_at "lE") fun cdv A outer s H E hr=>⟨_,(Ae (Gf PassesOwn.never (Ie hr.units (dv 1) Ab) (Ae (Ak 2 Js.nd (Dr (dv 0) (dv 1))) (Ae (Ak 0 Js.nd (dv 1)) (Ah (Ak 1 Js.nd (dv 2)))))) (Ah (Aq (QC T.z_abs (Aa (dv 0) Af))))),fun ds Q h=>?_⟩⟩
 obtain ⟨⟨a,b⟩,rfl,_,q⟩:=h
 simp only [Ur,Vi,Vs]
 refine FZ (fun m ρ=>∃ x y z,ρ=[some (.is (.int x)),some (.is (.int y)),z]∧Int.gcd x y=Int.gcd a b∧m=y.natAbs) _ ⟨a,b,none,rfl,rfl,rfl⟩ ?_
 rintro m _ ⟨x,y,z,rfl,hg,rfl⟩
 walk_at "rd"
 by_cases hy:y=0
 ·subst hy
  simp only [decide_true,Bool.not_true]
  walk_at "rd"
  have q':=q _ rfl
  have e:(if x < 0 then -x else x)=((Int.gcd a b:Nat):Int):=by rw [←hg,Int.gcd_zero_right];split <;> omega
  rw [e]
  exact q'
 ·simp only [decide_eq_false hy,Bool.not_false,if_true]
  exact ⟨hy,_,Kg hy,y,x.fmod y,_,rfl,(Qo x y).trans hg,rfl⟩
noncomputable abbrev K7:DSp:=Ca (fun f:I3=>[t3 f]) (fun _=>True) fun f=>.int (g3 f)
theorem Wx (T:Txt K mg)
  (G_divisor:Pm P w K mg base 1 "divisor" G9 ["one","other"] PN)
  : Pm P w K mg base 2 "content" Gq ["form"] K7:=by
 obtain ⟨f,fd,F⟩:=T.t_content
 refine ⟨f,fd,F,F.fn.okD XM (by walk_at "lE") fun cdv A outer s H E hr=>⟨_,(Ah (Aq (Ag Ad G_divisor (hr.mono (by decide)) rfl (Aa (Ag Ad G_divisor (hr.mono (by decide)) rfl (Aa (Ac (dv 0) Ab) (Aa (Ac (dv 0) Ab) Af))) (Aa (Ac (dv 0) Ab) Af))))),fun ds Q h=>?_⟩⟩
 obtain ⟨f,rfl,_,q⟩:=h
 walk_at "go"
 exact Aj (f.1,f.2.1) trivial (Aj (_,f.2.2) trivial (q _ rfl))
noncomputable abbrev Mp:DSp:=spec (fun f:I3=>[t3 f]) (fun f=>B3 1500 f) Aah
theorem Aaj (T:Txt K mg)
  (G_measure:Pm P w K mg base 1 "measure" CW ["form"] Ef)
  (G_is_square:Pm P w K mg base 2 "is_square" Eh ["number"] Jh)
  : Pm P w K mg base 3 "shape" Ig ["form"] Mp:=by
 obtain ⟨f,fd,F⟩:=T.t_shape
 refine ⟨f,fd,F,F.fn.okD Vp (by walk_at "lE") fun cdv A outer s H E hr=>⟨_,(Ae (Ak 1 Vp.nd (Ag Ad G_measure (hr.mono (by decide)) rfl (Aa (dv 0) Af))) (Ae (Ci (Ht (Ag Ad G_is_square (hr.mono (by decide)) rfl (Aa (dv 1) Af))) (Ah (Aq K9)) Bg) (Ae (Ci (NK (dv 1) Ab) (Ah (Aq K9)) Bg) (Ae (Ci (NK (Ac (dv 0) Ab) Ab) (Ah (Aq K9)) Bg) (Ah (Aq K9)))))),fun ds Q h=>?_⟩⟩
 obtain ⟨f,rfl,hf,q⟩:=h
 walk_at "go"
 refine Aj f (hf.le (by decide)) ?_
 have hm:Bt 4000 (meas f):=by
  obtain ⟨h1,h2,h3⟩:=hf
  have h4:Bt 3 4:=Bt.of_abs (by decide)
  exact ((h2.mul h2).sub ((h4.mul h1).mul h3)).le (by decide)
 refine Av (meas f) hm ?_
 rintro _ ⟨b,rfl,hb⟩
 walk_at "rd"
 refine JK (fun h=>q _ (.flat (hb.mp h))) (fun h=>?_)
 have hn:¬ Hs (meas f):=fun z=>h (hb.mpr z)
 refine JK (fun h=>q _ (.saddle hn (of_decide_eq_true h))) (fun h=>?_)
 have hp:¬ 0 < meas f:=fun z=>h (decide_eq_true z)
 refine JK (fun h=>q _ (.bowl hn hp (of_decide_eq_true h))) (fun h=>q _ (.dome hn hp fun z=>h (decide_eq_true z)))
noncomputable abbrev Ko:DSp:=Ca (fun f:I3=>[t3 f]) (fun f=>B3 1500 f∧Bo f) fun _=>.non
noncomputable abbrev GD:DSp:=Ca (fun f:I3=>[t3 f]) (fun _=>True) fun f=>.bl (stands f)
theorem QX (T:Txt K mg)
  (G_shape:Pm P w K mg base 3 "shape" Ig ["form"] Mp)
  : Pm P w K mg base 4 "check_bowl" Eo ["form"] Ko:=by
 obtain ⟨f,fd,F⟩:=T.t_check_bowl
 refine ⟨f,fd,F,F.fn.okD Q9 (by walk_at "lE") fun cdv A outer s H E hr=>⟨_,(Ah (Ci (Ie hr.units (Ag Ad G_shape (hr.mono (by decide)) rfl (Aa (dv 0) Af)) K9) (Ah FW) Bg)),fun ds Q h=>?_⟩⟩
 obtain ⟨f,rfl,⟨hb,h0,h1⟩,q⟩:=h
 walk_at "go"
 have h0:0 < f.1:=h0
 have h1:meas f < 0:=h1
 refine Av f hb ?_
 rintro _ hw
 cases hw with
 | flat z=>exact absurd z (Lq h1)
 | saddle _ z=>exact absurd z (by omega)
 | dome _ _ z=>exact absurd h0 z
 | bowl _ _ _=>exact ⟨⟨by rw [T5];decide +kernel,by rw [T5];decide +kernel⟩,ifn (by rw [V1];rfl) (q _ rfl)⟩
theorem Oa (T:Txt K mg)
  : Pm P w K mg base 1 "stands_least" CJ ["form"] GD:=by
 obtain ⟨f,fd,F⟩:=T.t_stands_least
 refine ⟨f,fd,F,F.fn.okD Fe (by walk_at "lE") fun cdv A outer s H E hr=>⟨_,(Ae (Ak 1 Fe.nd (Ac (dv 0) Ab)) (Ae (Ak 2 Fe.nd (Ac (dv 0) Ab)) (Ae (Ak 3 Fe.nd (Ac (dv 0) Ab)) (Ae (Ci (K5 (ZX V7 V7 V7 Hl Hl Hl  (Ek (dv 1)) (dv 2) (dv 1) (dv 3))) (Ah (Aq O3)) Bg) (Ah (Aq (Ake (Aja (dv 2) Ab) (Uo (Xj (Afn hr.units (dv 2) (Ek (dv 1))) (Uo (Afn hr.units (dv 1) (dv 3)))))))))))),fun ds Q h=>?_⟩⟩
 obtain ⟨⟨a,b,c⟩,rfl,_,q⟩:=h
 have q':=q _ rfl
 dsimp only [stands] at q'
 walk_at "go"
 simp only [Bool.decide_and,ne_eq,decide_not] at q'
 generalize decide (-a≤b)=x1 at *
 generalize decide (b≤a)=x2 at *
 generalize decide (a≤c)=x3 at *
 generalize decide (0≤b)=x4 at *
 generalize decide (b=-a)=x5 at *
 generalize decide (a=c)=x6 at *
 cases x1 <;> cases x2 <;> cases x3 <;> cases x4 <;> cases x5 <;> cases x6 <;> exact q'
noncomputable abbrev Ks:DSp:=Ca (fun f:I3=>[t3 f]) (fun f=>B3 8000 f∧0 < f.1) fun f=>t4 (Dm f)
theorem Rb (T:Txt K mg)
  : Pm P w K mg base 1 "turn_lower" El ["form"] Ks:=by
 obtain ⟨f,fd,F⟩:=T.t_turn_lower
 refine ⟨f,fd,F,F.fn.okD Ku (by walk_at "lE") fun cdv A outer s H E hr=>⟨_,(Ae (Ak 1 Ku.nd (Ce (Bu (Ac (dv 0) Ab) (Ac (dv 0) Ab)) (Ao Ab (Ac (dv 0) Ab)))) (Ae (Ci (Ie hr.units (dv 1) Ab) (Ah (Aq (BK (Aa Ab (Aa (dv 1) (Aa Ab (Aa Ab Af))))))) Bg) (Ah (Aq (BK (Aa Ab (Aa (Ek Ab) (Aa Ab (Aa Ab Af))))))))),fun ds Q h=>?_⟩⟩
 obtain ⟨⟨a,b,c⟩,rfl,⟨⟨h1,h2,h3⟩,h0⟩,q⟩:=h
 have h0:0 < a:=h0
 have h1:Bt 8000 a:=h1
 have two:Bt 2 2:=Bt.of_abs (by decide)
 have q':=q _ rfl
 dsimp only at q'
 walk_at "go"
 refine ⟨two.mulOk h1,Bt.divOk (two.mul h1) (by omega),?_⟩
 by_cases ho:(a - b).fdiv (2*a)=0
 ·refine Ft (by rw [decide_eq_true ho];rfl) ⟨Ba (by decide),?_⟩
  rw [O6 (f:=(a,b,c)) ho] at q'
  exact q'
 ·refine ift (by rw [decide_eq_false ho];rfl) ⟨Ba (by decide),?_⟩
  rw [Qh (f:=(a,b,c)) ho] at q'
  exact q'
noncomputable def LI (f:I3):Nat→I4
 | 0=>(1,0,0,1)
 | k+1=>Am (LI f k) (Dm (mov f (LI f k)))
noncomputable def LQ (f:I3) (t:I4):Prop:=∃ k,t=LI f k∧(∀ i,i < k→stands (mov f (LI f i))=false)∧stands (mov f (LI f k))=true
theorem LQ.uniq {f:I3} {t u:I4} (a:LQ f t) (b:LQ f u):t=u:=by
 obtain ⟨k,rfl,n1,h1⟩:=a
 obtain ⟨l,rfl,n2,h2⟩:=b
 rcases Nat.lt_trichotomy k l with z | z | z
 ·rw [n2 k z] at h1;cases h1
 ·rw [z]
 ·rw [n1 l z] at h2;cases h2
noncomputable def Ke (f:I3) (d:Dt):Prop:=∃ t:I4,d=.tup [t3 (mov f t),t4 t]∧det t=1∧Dp (mov f t)∧B4 5000 t∧LQ f t
noncomputable abbrev Pb:DSp:=spec (fun f:I3=>[t3 f]) (fun f=>B3 1500 f∧Bo f) Ke
theorem Xr (T:Txt K mg)
  (G_check_bowl:Pm P w K mg base 4 "check_bowl" Eo ["form"] Ko)
  (G_stands_least:Pm P w K mg base 1 "stands_least" CJ ["form"] GD)
  (G_turn_lower:Pm P w K mg base 1 "turn_lower" El ["form"] Ks)
  (G_moved:Pm P w K mg base 3 "moved" Jq ["form","turn"] QG)
  (G_put_behind:Pm P w K mg base 1 "put_behind" Dv ["one","other"] Il)
  : Pm P w K mg base 5 "settled" Hh ["form"] Pb:=by
 obtain ⟨f,fd,F⟩:=T.t_settled
 obtain ⟨a_SAME,m_SAME,q_SAME⟩:=T.k_SAME
 refine ⟨f,fd,F,F.fn.okD Ho (by walk_at "lE") fun cdv A outer s H E hr=>⟨_,(Ae (CK (Ag Ad G_check_bowl (hr.mono (by decide)) rfl (Aa (dv 0) Af))) (Ae (Ak 1 Ho.nd (Jp (v:=.ref a_SAME) rfl m_SAME rfl q_SAME)) (Ae (Gf PassesOwn.never (K5 (Ht (Ag Ad G_stands_least (hr.mono (by decide)) rfl (Aa (dv 0) Af)))) (Ae (Ak 2 Ho.nd (Ag Ad G_turn_lower (hr.mono (by decide)) rfl (Aa (dv 0) Af))) (Ae (Ak 0 Ho.nd (Ag Ad G_moved (hr.mono (by decide)) rfl (Aa (dv 0) (Aa (dv 2) Af)))) (Ah (Ak 1 Ho.nd (Ag Ad G_put_behind (hr.mono (by decide)) rfl (Aa (dv 1) (Aa (dv 2) Af)))))))) (Ah (Aq (BK (Aa (dv 0) (Aa (dv 1) Af)))))))),fun ds Q h=>?_⟩⟩
 obtain ⟨f,rfl,⟨hb,hw⟩,q⟩:=h
 have hw:Bo f:=hw
 have hb:B3 1500 f:=hb
 have hm:Bt 3010 (meas f):=by
  obtain ⟨h1,h2,h3⟩:=hb
  have h4:Bt 3 4:=Bt.of_abs (by decide)
  exact ((h2.mul h2).sub ((h4.mul h1).mul h3)).le (by decide)
 walk_at "go"
 refine Aj f ⟨hb,hw⟩ ?_
 refine FZ (fun m ρ=>∃ t x,(∃ k,t=LI f k∧∀ i,i < k→stands (mov f (LI f i))=false)∧ρ=[some (.is (t3 (mov f t))),some (.is (t4 t)),x]∧det t=1∧Bt 1500 (mov f t).1∧Bt 1500 (mov f t).2.1∧m=msr (mov f t)) _ ⟨(1,0,0,1),none,⟨0,rfl,fun _ h=>absurd h (by omega)⟩,by rw [Bq],rfl,by rw [Bq];exact hb.1,by rw [Bq];exact hb.2.1,rfl⟩ ?_
 rintro m _ ⟨t,x,⟨k,et,nl⟩,rfl,hd,b1,b2,rfl⟩
 have hg:=Ln hw hd
 have hgb:B3 7000 (mov f t):=(AdC hg b1 b2 (by rw [Bs hd];exact hm)).le (by decide)
 have ht:B4 5000 t:=Acj hw hb hgb (by decide)
 walk_at "rd"
 refine Aj (mov f t) trivial ?_
 walk_at "rd"
 by_cases hs:stands (mov f t)=true
 ·refine Ft (by rw [hs];rfl) ⟨Ba (by decide),q _ ⟨t,rfl,hd,Bb hg.1 hs,ht,k,et,nl,by rw [←et];exact hs⟩⟩
 ·have hs:stands (mov f t)=false:=by simpa using hs
  refine ift (by rw [hs];rfl) ?_
  have hl:B4 2000 (Dm (mov f t)):=(Aak hg.1 b1 b2).le (by decide)
  refine Aj (mov f t) ⟨hgb.le (by decide),hg.1⟩ ?_
  refine Aj (mov f t,Dm (mov f t)) ⟨hgb.le (by decide),hl.le (by decide),J1⟩ ?_
  refine Aj (t,Dm (mov f t)) ⟨ht.le (by decide),hl.le (by decide)⟩ ?_
  have hb':=Aae hg hs b1 b2
  have hm':=Mw hg hs
  rw [Bk] at hb' hm'
  dsimp only
  rw [Bk]
  refine ⟨_,hm',Am t (Dm (mov f t)),_,⟨k+1,by rw [et];rfl,fun i hi=>?_⟩,rfl,?_,hb'.1,hb'.2,rfl⟩
  case refine_1 =>
   rcases Nat.lt_or_ge i k with z | z
   ·exact nl i z
   ·rw [show i=k by omega,←et];exact hs
  rw [Cq,hd,J1];rfl
noncomputable abbrev Gj:DSp:=Ca (fun p:I2=>[.int p.1,.int p.2]) (fun p=>p.1≤p.2) fun _=>.non
theorem MP (T:Txt K mg)
  : Pm P w K mg base 1 "check_at_most" Cm ["number","most"] Gj:=by
 obtain ⟨f,fd,F⟩:=T.t_check_at_most
 refine ⟨f,fd,F,F.fn.okD Mu (by walk_at "lE") fun cdv A outer s H E hr=>⟨_,(Ah (Ci (NK (dv 0) (dv 1)) (Ah FW) Bg)),fun ds Q h=>?_⟩⟩
 obtain ⟨⟨n,m⟩,rfl,h0,q⟩:=h
 have h0:n≤m:=h0
 walk_at "go"
 exact Ft (decide_eq_false (by omega)) (q _ rfl)
noncomputable abbrev Fd:DSp:=Ca (fun f:I3=>[t3 f]) (fun f=>B3 1500 f∧Sad f) fun _=>.non
noncomputable abbrev GJ:DSp:=Ca (fun p:I3 × Int=>[t3 p.1,.int p.2]) (fun p=>B3 20000 p.1) fun p=>.bl (decide (Level p.1 p.2))
theorem Oh (T:Txt K mg)
  (G_check_at_most:Pm P w K mg base 1 "check_at_most" Cm ["number","most"] Gj)
  (G_shape:Pm P w K mg base 3 "shape" Ig ["form"] Mp)
  (G_measure:Pm P w K mg base 1 "measure" CW ["form"] Ef)
  : Pm P w K mg base 4 "check_saddle" Cd ["form"] Fd:=by
 obtain ⟨f,fd,F⟩:=T.t_check_saddle
 obtain ⟨t_MOST_MEASURE,m_MOST_MEASURE⟩:=T.m_MOST_MEASURE
 refine ⟨f,fd,F,F.fn.okD Og (by walk_at "lE") fun cdv A outer s H E hr=>⟨_,(Ae (Ci (Ie hr.units (Ag Ad G_shape (hr.mono (by decide)) rfl (Aa (dv 0) Af)) K9) (Ah FW) Bg) (Ah (CK (Ag Ad G_check_at_most (hr.mono (by decide)) rfl (Aa (Ag Ad G_measure (hr.mono (by decide)) rfl (Aa (dv 0) Af)) (Aa (Jp (v:=.int (4000)) (d:=.int (4000)) rfl m_MOST_MEASURE ⟨_,rfl⟩ (fun _=>Bc.mpr rfl)) Af)))))),fun ds Q h=>?_⟩⟩
 obtain ⟨f,rfl,⟨hb,hs⟩,q⟩:=h
 have hs:Sad f:=hs
 have nb:Dt.flat 8 (.str "saddle")=true:=by rw [T5];decide +kernel
 walk_at "go"
 refine Av f hb ?_
 rintro _ hw
 have h0:=hs.pos
 cases hw with
 | flat z=>exact absurd z hs.no
 | bowl _ z _=>exact absurd h0 z
 | dome _ z _=>exact absurd h0 z
 | saddle _ _ =>
  refine ⟨⟨nb,nb⟩,ifn (by rw [V1];rfl) (Aj f (hb.le (by decide)) (Aj (meas f,4000) hs.most (q _ rfl)))⟩
theorem Oc (T:Txt K mg)
  : Pm P w K mg base 1 "stands_level" CG ["form","far"] GJ:=by
 obtain ⟨f,fd,F⟩:=T.t_stands_level
 refine ⟨f,fd,F,F.fn.okD Jv (by walk_at "lE") fun cdv A outer s H E hr=>⟨_,(Ae (Ak 2 Jv.nd (Ac (dv 0) Ab)) (Ah (Aq (Xj (U0 AbM V7 Hl Hl Ab (dv 2) (dv 1)) (Uo (U0 AbM V7 Hl Hl (Bu (dv 1) (dv 2)) (Ao Ab (QC T.z_abs (Aa (Ac (dv 0) Ab) Af))) (BL (dv 1) (dv 2)))))))),fun ds Q h=>?_⟩⟩
 obtain ⟨⟨⟨a,b,c⟩,far⟩,rfl,hb,q⟩:=h
 have q':=q _ rfl
 obtain ⟨ha,_,_⟩:=(show B3 20000 (a,b,c) from hb)
 have ha:Bt 20000 a:=ha
 have two:Bt 2 2:=Bt.of_abs (by decide)
 have ha':Bt 20000 (if a < 0 then -a else a):=by split <;> first | exact ha.neg | exact ha
 have q':Q (.bl (decide (Level (a,b,c) far))):=q'
 walk_at "go"
 have hL:Level (a,b,c) far↔(0 < b∧b≤far)∧far - b < 2*(if a < 0 then -a else a)∧2*(if a < 0 then -a else a)≤far+b:=Iff.rfl
 generalize (if a < 0 then -a else a)=A at *
 by_cases h1:0 < b
 ·refine ift (decide_eq_true h1) ?_
  by_cases h2:b≤far
  ·refine ift (decide_eq_true h2) ⟨two.mulOk ha',?_⟩
   by_cases h3:far - b < 2*A
   ·refine ift (decide_eq_true h3) ?_
    have e:decide (Level (a,b,c) far)=decide (2*A≤far+b):=decide_eq_decide.mpr (hL.trans ⟨fun z=>z.2.2,fun z=>⟨⟨h1,h2⟩,h3,z⟩⟩)
    rw [e] at q'
    exact q'
   ·refine Ft (decide_eq_false h3) ?_
    rw [decide_eq_false fun z=>h3 (hL.mp z).2.1] at q'
    exact q'
  ·refine Ft (decide_eq_false h2) ?_
   rw [decide_eq_false fun z=>h2 (hL.mp z).1.2] at q'
   exact q'
 ·refine Ft (decide_eq_false h1) ?_
  rw [decide_eq_false fun z=>h1 (hL.mp z).1.1] at q'
  exact q'
noncomputable abbrev JV:DSp:=Ca (fun p:I3 × Int=>[t3 p.1,.int p.2]) (fun p=>B3 8000 p.1∧p.1.2.2≠0) fun p=>t4 (CN p.1 p.2)
theorem QB (T:Txt K mg)
  : Pm P w K mg base 1 "turn_behind" DX ["form","top"] JV:=by
 obtain ⟨f,fd,F⟩:=T.t_turn_behind
 refine ⟨f,fd,F,F.fn.okD Gb (by walk_at "lE") fun cdv A outer s H E hr=>⟨_,(Ae (Ak 2 Gb.nd (Ac (dv 0) Ab)) (Ae (Ak 3 Gb.nd (Ac (dv 0) Ab)) (Ae (Ak 4 Gb.nd (Bu (dv 1) (Dr (BL (dv 1) (dv 2)) (Ao Ab (QC T.z_abs (Aa (dv 3) Af)))))) (Ah (Aq (BK (Aa Ab (Aa (Ek Ab) (Aa Ab (Aa (Ce (BL (dv 2) (dv 4)) (Ao Ab (dv 3))) Af)))))))))),fun ds Q h=>?_⟩⟩
 obtain ⟨⟨⟨a,b,c⟩,top⟩,rfl,⟨⟨_,_,hc⟩,h0⟩,q⟩:=h
 have hc:Bt 8000 c:=hc
 have h0:c≠0:=h0
 have two:Bt 2 2:=Bt.of_abs (by decide)
 have hac:2*ab c≠0:=by rcases Ax c with ⟨_,e⟩ | ⟨_,e⟩ <;> omega
 walk_at "go"
 exact ⟨two.mulOk (AkQ hc),hac,two.mulOk hc,Bt.divOk (two.mul hc) (by omega),Ba (by decide),q _ rfl⟩
noncomputable abbrev Kr (f:I3) (t:I4):Dt:=.tup [t3 f,t4 t]
noncomputable abbrev FJ:DSp:=Ca (fun p:I3 × I4 × Int=>[Kr p.1 p.2.1,.int p.2.2]) (fun p=>B3 8000 p.1∧p.1.2.2≠0∧B4 300000 p.2.1∧B4 5000 (CN p.1 p.2.2)) fun p=>Kr (mov p.1 (CN p.1 p.2.2)) (Am p.2.1 (CN p.1 p.2.2))
theorem Qu (T:Txt K mg)
  (G_turn_behind:Pm P w K mg base 1 "turn_behind" DX ["form","top"] JV)
  (G_moved:Pm P w K mg base 3 "moved" Jq ["form","turn"] QG)
  (G_put_behind:Pm P w K mg base 1 "put_behind" Dv ["one","other"] Il)
  : Pm P w K mg base 4 "stop_behind" Dj ["stop","top"] FJ:=by
 obtain ⟨f,fd,F⟩:=T.t_stop_behind
 refine ⟨f,fd,F,F.fn.okD JZ (by walk_at "lE") fun cdv A outer s H E hr=>⟨_,(Ae (Ak 2 JZ.nd (Ag Ad G_turn_behind (hr.mono (by decide)) rfl (Aa (Ac (dv 0) Ab) (Aa (dv 1) Af)))) (Ah (Aq (BK (Aa (Ag Ad G_moved (hr.mono (by decide)) rfl (Aa (Ac (dv 0) Ab) (Aa (dv 2) Af))) (Aa (Ag Ad G_put_behind (hr.mono (by decide)) rfl (Aa (Ac (dv 0) Ab) (Aa (dv 2) Af))) Af)))))),fun ds Q h=>?_⟩⟩
 obtain ⟨⟨f,t,top⟩,rfl,⟨hf,h0,ht,hb⟩,q⟩:=h
 walk_at "go"
 exact Aj (f,top) ⟨hf,h0⟩ (Aj (f,CN f top) ⟨B3.le hf (by decide),B4.le hb (by decide),CZ⟩ (Aj (t,CN f top) ⟨B4.le ht (by decide),B4.le hb (by decide)⟩ ⟨Ba (by decide),q _ rfl⟩))
noncomputable def EI (far:Int) (f:I3):Nat→I4
 | 0=>(1,0,0,1)
 | k+1=>Am (EI far f k) (CN (mov f (EI far f k)) (if far > ab (mov f (EI far f k)).2.2 then far else ab (mov f (EI far f k)).2.2))
noncomputable def Qj (far:Int) (f:I3) (t:I4):Prop:=∃ k,t=EI far f k∧(∀ i,i < k→¬ Level (mov f (EI far f i)) far)∧Level (mov f (EI far f k)) far
theorem Qj.uniq {far:Int} {f:I3} {t u:I4} (a:Qj far f t) (b:Qj far f u):t=u:=by
 obtain ⟨k,rfl,n1,h1⟩:=a
 obtain ⟨l,rfl,n2,h2⟩:=b
 rcases Nat.lt_trichotomy k l with z | z | z
 ·exact absurd h1 (n2 k z)
 ·rw [z]
 ·exact absurd h2 (n1 l z)
noncomputable def Ais (f:I3) (d:Dt):Prop:=∃ (t:I4) (far:Int),d=Kr (mov f t) t∧det t=1∧Sq (meas f) far∧Level (mov f t) far∧B4 7600 t∧Qj far f t
noncomputable abbrev UL:DSp:=spec (fun f:I3=>[t3 f]) (fun f=>B3 1500 f∧Sad f) Ais
theorem Vb {f:I3} (S:Sad f):0≤meas f∧Bt 4000 (meas f):=by
 have:=S.pos
 have:=S.most
 exact ⟨by omega,Bt.le (n:=13) (Bt.of (by omega) (by omega)) (by decide)⟩
theorem Abe (T:Txt K mg)
  (G_check_saddle:Pm P w K mg base 4 "check_saddle" Cd ["form"] Fd)
  (G_root:Pm P w K mg base 1 "root" Ii ["number"] J2)
  (G_measure:Pm P w K mg base 1 "measure" CW ["form"] Ef)
  (G_stands_level:Pm P w K mg base 1 "stands_level" CG ["form","far"] GJ)
  (G_stop_behind:Pm P w K mg base 4 "stop_behind" Dj ["stop","top"] FJ)
  : Pm P w K mg base 5 "eased" J4 ["form"] UL:=by
 obtain ⟨f,fd,F⟩:=T.t_eased
 obtain ⟨a_SAME,m_SAME,q_SAME⟩:=T.k_SAME
 refine ⟨f,fd,F,F.fn.okD Lh (by walk_at "lE") fun cdv A outer s H E hr=>⟨_,(Ae (CK (Ag Ad G_check_saddle (hr.mono (by decide)) rfl (Aa (dv 0) Af))) (Ae (Ak 1 Lh.nd (Ag Ad G_root (hr.mono (by decide)) rfl (Aa (Ag Ad G_measure (hr.mono (by decide)) rfl (Aa (dv 0) Af)) Af))) (Ae (Ak 2 Lh.nd (BK (Aa (dv 0) (Aa (Jp (v:=.ref a_SAME) rfl m_SAME rfl q_SAME) Af)))) (Ae (Gf PassesOwn.never (K5 (Ht (Ag Ad G_stands_level (hr.mono (by decide)) rfl (Aa (Ac (dv 2) Ab) (Aa (dv 1) Af))))) (Ah (Ak 2 Lh.nd (Ag Ad G_stop_behind (hr.mono (by decide)) rfl (Aa (dv 2) (Aa (AfU T.z_max (Aa (QC T.z_abs (Aa (Ac (Ac (dv 2) Ab) Ab) Af)) (Aa (dv 1) Af))) Af)))))) (Ah (Aq (dv 2))))))),fun ds Q h=>?_⟩⟩
 obtain ⟨f,rfl,⟨hb,hS⟩,q⟩:=h
 have hS:Sad f:=hS
 have hb:B3 1500 f:=hb
 walk_at "go"
 refine Aj f ⟨hb,hS⟩ (Aj f (hb.le (by decide)) (Av (meas f) (Vb hS) ?_))
 rintro _ ⟨far,rfl,hr',hfb⟩
 walk_at "rd"
 refine ⟨Ba (by decide),?_⟩
 refine FZ (fun m ρ=>∃ k,(∀ i,i < k→¬ Level (mov f (EI far f i)) far)∧ρ=[some (.is (t3 f)),some (.is (.int far)),some (.is (Kr (mov f (EI far f k)) (EI far f k)))]∧Ob 1500 far f (EI far f k)∧m=eM far (mov f (EI far f k))) _ ⟨0,fun _ h=>absurd h (by omega),by show _=[_,_,some (En.is (Kr (mov f (1,0,0,1)) (1,0,0,1)))];rw [Bq],Ob.start (by decide) hb,rfl⟩ ?_
 rintro m _ ⟨k,nl,rfl,hI,rfl⟩
 have ek:EI far f (k+1)=Am (EI far f k) (CN (mov f (EI far f k)) (if far > ab (mov f (EI far f k)).2.2 then far else ab (mov f (EI far f k)).2.2)):=rfl
 obtain ⟨t,et⟩:∃ t,t=EI far f k:=⟨_,rfl⟩
 rw [←et] at hI ek ⊢
 have hd:=hI.1
 have hg:=hI.2.1
 have ht:=hI.b4
 walk_at "rd"
 refine Aj (mov f t,far) (hg.le (by decide)) ?_
 walk_at "rd"
 by_cases hL:Level (mov f t) far
 ·exact Ft (by rw [decide_eq_true hL];rfl) (q _ ⟨t,far,rfl,hd,hr',hL,ht.le (by decide),k,et,nl,by rw [←et];exact hL⟩)
 ·refine ift (by rw [decide_eq_false hL];rfl) ?_
  have hst:=Nk (by decide) hS hr' hI hL
  refine Aj (mov f t,t,_) ⟨hg.le (by decide),Iw (hS.mov hd),ht.le (by decide),hst.2.2.le (by decide)⟩ ?_
  dsimp only
  rw [Bk]
  refine ⟨_,hst.2.1,k+1,fun i hi=>?_,by rw [ek];rfl,by rw [ek];exact hst.1,by rw [ek]⟩
  rcases Nat.lt_or_ge i k with z | z
  ·exact nl i z
  ·rw [show i=k by omega,←et];exact hL
structure Ju (f:I3) (t0:I4) (far:Int) (N:Nat):Prop where
 d:det t0=1
 r:Sq (meas f) far
 v:Lv far (mov f t0)
 b:B4 7600 t0
 n:0 < N
 m:N≤8128
 e:rF far N (mov f t0)=mov f t0
 l:∀ j,0 < j→j < N→rF far j (mov f t0)≠mov f t0
 a:Qj far f t0
noncomputable abbrev Ew (f:I3) (t0:I4) (far:Int) (i:Nat):Dt:=Kr (rF far i (mov f t0)) (Am t0 (rT far i (mov f t0)))
theorem Ju.bt {f:I3} {t0:I4} {far:Int} {N:Nat} (R:Ju f t0 far N) (i:Nat) (h:i≤N):B4 90000 (Am t0 (rT far i (mov f t0))):=by
 have:=R.m
 exact (B4.then R.b (AeO i R.v)).le (by omega)
noncomputable abbrev HF:DSp:=spec (fun f:I3=>[t3 f]) (fun f=>B3 1500 f∧Sad f) fun f d=>∃ t0 far N,Ju f t0 far N∧d=.lst ((List.range (N+1)).map (Ew f t0 far))
theorem Ti {n:Nat} (h:n≤9000):n < PySem.sizeLine:=by unfold PySem.sizeLine;omega
theorem Pg (T:Txt K mg)
  (G_root:Pm P w K mg base 1 "root" Ii ["number"] J2)
  (G_eased:Pm P w K mg base 5 "eased" J4 ["form"] UL)
  (G_stop_behind:Pm P w K mg base 4 "stop_behind" Dj ["stop","top"] FJ)
  (G_measure:Pm P w K mg base 1 "measure" CW ["form"] Ef)
  : Pm P w K mg base 6 "stops_round" Di ["form"] HF:=by
 obtain ⟨f,fd,F⟩:=T.t_stops_round
 refine ⟨f,fd,F,F.fn.okD Dl (by walk_at "lE") fun cdv A outer s H E hr=>⟨_,(Ae (Ak 1 Dl.nd (Ag Ad G_root (hr.mono (by decide)) rfl (Aa (Ag Ad G_measure (hr.mono (by decide)) rfl (Aa (dv 0) Af)) Af))) (Ae (Ak 2 Dl.nd (Ag Ad G_eased (hr.mono (by decide)) rfl (Aa (dv 0) Af))) (Ae (Sx 3 Dl.nd (Aa (dv 2) Af)) (Ae (Ak 4 Dl.nd (Ag Ad G_stop_behind (hr.mono (by decide)) rfl (Aa (dv 2) (Aa (dv 1) Af)))) (Ae (Gf PassesOwn.never (Ie hr.units (Ac (dv 4) Ab) (Ac (dv 2) Ab)) (Ae (Pq 3 (dv 4)) (Ah (Ak 4 Dl.nd (Ag Ad G_stop_behind (hr.mono (by decide)) rfl (Aa (dv 4) (Aa (dv 1) Af))))))) (Ae (Pq 3 (dv 4)) (Ah (Uc 3 (Aq (dv 3)))))))))),fun ds Q h=>?_⟩⟩
 obtain ⟨f,rfl,⟨hb,hS⟩,q⟩:=h
 have hS:Sad f:=hS
 have hb:B3 1500 f:=hb
 walk_at "go"
 refine Aj f (hb.le (by decide)) (Av (meas f) (Vb hS) ?_)
 rintro _ ⟨far,rfl,hr',hfb⟩
 refine Av f ⟨hb,hS⟩ ?_
 rintro _ ⟨t0,far',rfl,dt,hs,hL,bt,ea⟩
 obtain rfl:=hs.uniq hr'
 have hv:Lv far' (mov f t0):=⟨hS.mov dt,by rw [Bs dt];exact hs,hL⟩
 obtain ⟨N,n0,nm,ne,nl⟩:=Ib hv
 have R:Ju f t0 far' N:=⟨dt,hs,hv,bt,n0,nm,ne,nl,ea⟩
 walk_at "rd"
 refine ⟨Ba (by decide),?_⟩
 have stp:∀ {Q:Dt→Prop} (i:Nat),i≤N→Q (Ew f t0 far' (i+1))→FJ [Ew f t0 far' i,.int far'] Q:=fun {Q} i hi h=>by
  have hi':=Lv.rF i hv
  refine Aj (rF far' i (mov f t0),Am t0 (rT far' i (mov f t0)),far') ⟨(V8 hi'.S hi'.r hi'.L).le (by decide),Iw hi'.S,(R.bt i hi).le (by decide),(Px (Yn hi') (by decide)).le (by decide)⟩ ?_
  have h:Q (Kr (rF far' (i+1) (mov f t0)) (Am t0 (rT far' (i+1) (mov f t0)))):=h
  rw [Ys,XR,←then_assoc] at h
  exact h
 have e0:Kr (mov f t0) t0=Ew f t0 far' 0:=by
  show Kr (mov f t0) t0=Kr (mov f t0) (Am t0 (1,0,0,1))
  rw [G8]
 rw [e0]
 refine stp 0 (by omega) ?_
 have last:(List.range (N+1)).map (Ew f t0 far')=(List.range N).map (Ew f t0 far') ++ [Ew f t0 far' N]:=by rw [List.range_succ,List.map_append];rfl
 refine FZ (fun m ρ=>∃ i:Nat,1≤i∧i≤N∧ρ=[some (.is (t3 f)),some (.is (.int far')),some (.is (Ew f t0 far' 0)),some (.own ((List.range i).map (Ew f t0 far'))),some (.is (Ew f t0 far' i))]∧m=N - i) _ ⟨1,by omega,by omega,rfl,rfl⟩ ?_
 rintro m _ ⟨i,i1,iN,rfl,rfl⟩
 walk_at "rd"
 have hl:(List.range i).length < sizeLine:=by rw [List.length_range];exact Ti (by omega)
 refine JK (fun hw=>?_) (fun hw=>?_)
 ·have hi:i < N:=by
   rcases Nat.lt_or_ge i N with z | z
   ·exact z
   ·exfalso
    have:i=N:=by omega
    subst this
    rw [ne] at hw
    simp [rF] at hw
  refine ⟨hl,stp i iN ⟨N - (i+1),by omega,i+1,by omega,by omega,?_,rfl⟩⟩
  rw [List.range_succ,List.map_append];rfl
 ·have hi:i=N:=by
   rcases Nat.lt_or_ge i N with z | z
   ·exfalso
    refine nl i (by omega) z ?_
    have hw:rF far' i (mov f t0)=rF far' 0 (mov f t0):=by
     generalize rF far' i (mov f t0)=g at *
     generalize rF far' 0 (mov f t0)=g' at *
     obtain ⟨a,b,c⟩:=g
     obtain ⟨a',b',c'⟩:=g'
     simp at hw
     obtain ⟨h1,h2,h3⟩:=hw
     rw [h1,h2,h3]
    exact hw
   ·omega
  subst hi
  refine ⟨hl,q _ ⟨t0,far',i,R,?_⟩⟩
  rw [last]
noncomputable def HJ (f:I3):List Int:=[f.1,f.2.1,f.2.2]
noncomputable def Agw (t:I4):List Int:=[t.1,t.2.1,t.2.2.1,t.2.2.2]
noncomputable def AlP (f:I3) (t0:I4) (far:Int) (N:Nat):List (List Int × List Int):=(List.range (N+1)).map fun i=>(HJ (rF far i (mov f t0)),Agw (Am t0 (rT far i (mov f t0))))
noncomputable def Low (f:I3) (d:Dt):Prop:=∃ t0 far N j,Ju f t0 far N∧j≤N∧(∀ i,i≤N→HT.lexLt (HJ (rF far i (mov f t0))) (HJ (rF far j (mov f t0)))=false)∧d=Ew f t0 far j∧j=La (AlP f t0 far N)
noncomputable abbrev Pr:DSp:=spec (fun f:I3=>[t3 f]) (fun f=>B3 1500 f∧Sad f) Low
theorem K6 (bt:Nat→Nat→Bool):∀ k,argBest bt k≤k
 | 0=>Nat.le_refl _
 | k+1=>by
  have:=K6 bt k
  unfold argBest
  split <;> omega
theorem Gw (bt:Nat→Nat→Bool) (ir:∀ i,bt i i=false) (tr:∀ a b c,bt a b=true→bt b c=true→bt a c=true):∀ k j,j≤k→bt j (argBest bt k)=false
 | 0,j,h=>by
  have:j=0:=by omega
  subst this
  exact ir 0
 | k+1,j,h=>by
  unfold argBest
  split
  ·rename_i hb
   rcases Nat.lt_or_ge j (k+1) with z | z
   ·cases q:bt j (k+1) with
    | false=>rfl
    | true =>
     have:=Gw bt ir tr k j (by omega)
     rw [tr _ _ _ q hb] at this
     cases this
   ·have:j=k+1:=by omega
    subst this
    exact ir _
  ·rename_i hb
   rcases Nat.lt_or_ge j (k+1) with z | z
   ·exact Gw bt ir tr k j (by omega)
   ·have:j=k+1:=by omega
    subst this
    simpa using hb
theorem Xh:∀ a b c:List Int,HT.lexLt a b=true→HT.lexLt b c=true→HT.lexLt a c=true
 | [],[],_,h,_=>by cases h
 | [],_ :: _,[],_,h=>by cases h
 | [],_ :: _,_ :: _,_,_=>rfl
 | _ :: _,[],_,h,_=>by cases h
 | _ :: _,_ :: _,[],_,h=>by cases h
 | x :: a,y :: b,z :: c,h1,h2=>by
  rw [HT.Fl] at h1 h2 ⊢
  by_cases e1:x=y
  ·subst e1
   rw [if_pos rfl] at h1
   by_cases e2:x=z
   ·subst e2
    rw [if_pos rfl] at h2 ⊢
    exact Xh a b c h1 h2
   ·rw [if_neg e2] at h2 ⊢
    exact h2
  ·rw [if_neg e1] at h1
   have h1:=of_decide_eq_true h1
   by_cases e2:y=z
   ·subst e2
    rw [if_neg e1]
    exact decide_eq_true h1
   ·rw [if_neg e2] at h2
    have h2:=of_decide_eq_true h2
    rw [if_neg (by omega)]
    exact decide_eq_true (by omega)
theorem Aee (a b c:List Int × List Int) (h1:Ga a b=true) (h2:Ga b c=true):Ga a c=true:=by
 unfold Ga at *
 by_cases e1:a.1=b.1
 ·rw [if_pos e1] at h1
  by_cases e2:b.1=c.1
  ·rw [if_pos e2] at h2
   rw [if_pos (e1.trans e2)]
   exact Xh _ _ _ h1 h2
  ·rw [if_neg e2] at h2
   rw [if_neg (by rw [e1];exact e2),e1]
   exact h2
 ·rw [if_neg e1] at h1
  by_cases e2:b.1=c.1
  ·rw [←e2,if_neg e1]
   exact h1
  ·rw [if_neg e2] at h2
   have h3:=Xh _ _ _ h1 h2
   by_cases e3:a.1=c.1
   ·rw [e3,Mi] at h3
    cases h3
   ·rw [if_neg e3]
    exact h3
theorem AaC (a:List Int × List Int):Ga a a=false:=by
 unfold Ga
 rw [if_pos rfl,Mi]
theorem Abq {a b:List Int × List Int} (h:Ga a b=false):HT.lexLt a.1 b.1=false:=by
 unfold Ga at h
 by_cases e:a.1=b.1
 ·rw [e];exact Mi _
 ·rw [if_neg e] at h;exact h
theorem W8 (T:Txt K mg)
  (G_check_saddle:Pm P w K mg base 4 "check_saddle" Cd ["form"] Fd)
  (G_stops_round:Pm P w K mg base 6 "stops_round" Di ["form"] HF)
  : Pm P w K mg base 7 "lowered" G6 ["form"] Pr:=by
 obtain ⟨f,fd,F⟩:=T.t_lowered
 refine ⟨f,fd,F,F.fn.okD Xa (by walk_at "lE") fun cdv A outer s H E hr=>⟨_,(Ae (CK (Ag Ad G_check_saddle (hr.mono (by decide)) rfl (Aa (dv 0) Af))) (Ah (Aq (Ac0 T.z_min (AgG hr.units) (Aa (Ag Ad G_stops_round (hr.mono (by decide)) rfl (Aa (dv 0) Af)) Af))))),fun ds Q h=>?_⟩⟩
 obtain ⟨f,rfl,⟨hb,hS⟩,q⟩:=h
 walk_at "go"
 refine Aj f ⟨hb,hS⟩ (Av f ⟨hb,hS⟩ ?_)
 rintro _ ⟨t0,far,N,R,rfl⟩
 have nm:=R.m
 let ps:List (List Int × List Int):=(List.range (N+1)).map fun i=>(HJ (rF far i (mov f t0)),Agw (Am t0 (rT far i (mov f t0))))
 have lp:ps.length=N+1:=by show ((List.range (N+1)).map _).length=_;rw [List.length_map,List.length_range]
 have ep:(List.range (N+1)).map (Ew f t0 far)=ps.map Mv:=by
  show _=((List.range (N+1)).map _).map Mv
  rw [List.map_map]
  rfl
 have at':∀ i,i≤N→ps.getD i ([],[])=(HJ (rF far i (mov f t0)),Agw (Am t0 (rT far i (mov f t0)))):=fun i hi=>by
  show ((List.range (N+1)).map _).getD i _=_
  simp [List.getD,show i < N+1 by omega]
 have kl:La ps≤N:=by
  have:=K6 (fun i j=>Ga (ps.getD i ([],[])) (ps.getD j ([],[]))) (ps.length - 1)
  unfold La
  omega
 have least:∀ i,i≤N→Ga (ps.getD i ([],[])) (ps.getD (La ps) ([],[]))=false:=fun i hi =>
  Gw (fun i j=>Ga (ps.getD i ([],[])) (ps.getD j ([],[]))) (fun _=>AaC _) (fun _ _ _ h1 h2=>Aee _ _ _ h1 h2) _ i (by omega)
 refine ⟨ps,by rw [ep],by omega,by omega,q _ ⟨t0,far,N,La ps,R,kl,fun i hi=>?_,?_,rfl⟩⟩
 ·have:=Abq (least i hi)
  rw [at' i hi,at' _ kl] at this
  exact this
 ·rw [at' _ kl]
  rfl
noncomputable abbrev Qn (c:Str) (f:I3) (d:Dt):Dt:=.obj c ["form","measure","lowest"] [t3 f,.int (meas f),d]
noncomputable abbrev MK:DIn:=Rq (fun p:I3 × Dt=>[t3 p.1,p.2]) (fun p=>B3 1500 p.1) fun p fds=>fds=[t3 p.1,.int (meas p.1),p.2]
noncomputable abbrev Vj:DIn:=Rq (fun f:I3=>[t3 f]) (fun f=>B3 1500 f∧Bo f) fun f fds=>∃ d,Ke f d∧fds=[t3 f,.int (meas f),d]
noncomputable abbrev PK:DIn:=Rq (fun f:I3=>[t3 f]) (fun f=>B3 1500 f∧Sad f) fun f fds=>∃ d,Low f d∧fds=[t3 f,.int (meas f),d]
theorem Zg (T:Txt K mg)
  (G_measure:Pm P w K mg base 1 "measure" CW ["form"] Ef)
  : PmC P w K mg base 2 "Shape" ["form","measure","lowest"] MK:=by
 obtain ⟨g,fd,M,F,B⟩:=T.cm_Shape
 refine ⟨g,fd,_,M,B,F.ok Y9 (fun vs H Q E ⟨x,C,dx,ys,F',ds,e,_,_,_,_,_,r,h⟩=>by obtain ⟨p,ed,_⟩:=h;rw [e,List.length_cons,r.len,ed];rfl) fun cdv A outer s H vs Q E hr ⟨x,C,dx,ys,F',ds,e,hx,cl,no,xF,th,r,h⟩=>?_⟩
 subst e
 refine ⟨_,AbA (dv 1) (Ag Ad G_measure (hr.mono (by decide)) rfl (Aa (dv 1) Af)) (dv 2) (by decide) (by decide) (by decide),mask [x] H,F',Jl ["self","form","lowest"] ds,x,C,dx,(fun fds:List Dt=>∀ (ws:List V) (H':Hp),Same (mask [x] H) H'→H' x=some (.ins C dx (List.zip ["form","measure","lowest"] ws))→List.length ["form","measure","lowest"]=fds.length→RpL K (mask F' H') fds ws→Q .non H'),Ld xF th r,xF,Dw (by simp),rfl,hx,cl,no,?_,fun fds w ws H' s1 h1 h2 h3=>w ws H' s1 h1 h2 h3⟩
 revert h
 generalize (fun fds:List Dt=>∀ (ws:List V) (H':Hp),Same (mask [x] H) H'→H' x=some (.ins C dx (List.zip ["form","measure","lowest"] ws))→List.length ["form","measure","lowest"]=fds.length→RpL K (mask F' H') fds ws→Q .non H')=S
 intro h
 obtain ⟨⟨f,l⟩,rfl,hb,hq⟩:=h
 have hb:B3 1500 f:=hb
 have e:Jl ["self","form","lowest"] [t3 f,l]=[none,some (.is (t3 f)),some (.is l)]:=rfl
 dsimp only
 rw [e]
 walk_at "rd"
 exact Aj f (hb.le (by decide)) (hq _ rfl)
theorem AaS (T:Txt K mg)
  (GC_Shape:PmC P w K mg base 2 "Shape" ["form","measure","lowest"] MK)
  (G_settled:Pm P w K mg base 5 "settled" Hh ["form"] Pb)
  : PmI P w K mg base 6 "Bowl" ["form","measure","lowest"] Vj:=by
 obtain ⟨C0,f,fd,M,F,B⟩:=T.o_Bowl
 obtain ⟨gC,fdC,psC,MC,BC,GC⟩:=GC_Shape
 refine ⟨C0,f,fd,_,M,B,F.ok Abb (fun vs H Q E ⟨x,C,dx,ys,F',ds,e,_,_,_,_,_,r,h⟩=>by obtain ⟨p,ed,_⟩:=h;rw [e,List.length_cons,r.len,ed];rfl) fun cdv A outer s H vs Q E hr ⟨x,C,dx,ys,F',ds,e,hx,cl,no,xF,th,r,h⟩=>?_⟩
 subst e
 refine ⟨_,VN Jo MC rfl GC BC (hr.mono (by decide)) (Aa (dv 1) (Aa (Ag Ad G_settled (hr.mono (by decide)) rfl (Aa (dv 1) Af)) Af)),mask [x] H,F',Jl ["self","form"] ds,x,C,dx,(fun fds:List Dt=>∀ (ws:List V) (H':Hp),Same (mask [x] H) H'→H' x=some (.ins C dx (List.zip ["form","measure","lowest"] ws))→List.length ["form","measure","lowest"]=fds.length→RpL K (mask F' H') fds ws→Q .non H'),Ld xF th r,xF,Dw (by simp),rfl,hx,cl,no,?_,fun fds w ws H' s1 h1 h2 h3=>w ws H' s1 h1 h2 h3⟩
 revert h
 generalize (fun fds:List Dt=>∀ (ws:List V) (H':Hp),Same (mask [x] H) H'→H' x=some (.ins C dx (List.zip ["form","measure","lowest"] ws))→List.length ["form","measure","lowest"]=fds.length→RpL K (mask F' H') fds ws→Q .non H')=S
 intro h
 obtain ⟨f,rfl,⟨hb,hw⟩,hq⟩:=h
 have e:Jl ["self","form"] [t3 f]=[none,some (.is (t3 f))]:=rfl
 rw [e]
 walk_at "rd"
 refine Av f ⟨hb,hw⟩ fun d hd=>?_
 refine Mf (f,d) hb ?_
 rintro _ rfl
 exact hq _ ⟨d,hd,rfl⟩
theorem WR (T:Txt K mg)
  (GC_Shape:PmC P w K mg base 2 "Shape" ["form","measure","lowest"] MK)
  (G_lowered:Pm P w K mg base 7 "lowered" G6 ["form"] Pr)
  : PmI P w K mg base 8 "Saddle" ["form","measure","lowest"] PK:=by
 obtain ⟨C0,f,fd,M,F,B⟩:=T.o_Saddle
 obtain ⟨gC,fdC,psC,MC,BC,GC⟩:=GC_Shape
 refine ⟨C0,f,fd,_,M,B,F.ok W6 (fun vs H Q E ⟨x,C,dx,ys,F',ds,e,_,_,_,_,_,r,h⟩=>by obtain ⟨p,ed,_⟩:=h;rw [e,List.length_cons,r.len,ed];rfl) fun cdv A outer s H vs Q E hr ⟨x,C,dx,ys,F',ds,e,hx,cl,no,xF,th,r,h⟩=>?_⟩
 subst e
 refine ⟨_,VN Jo MC rfl GC BC (hr.mono (by decide)) (Aa (dv 1) (Aa (Ag Ad G_lowered (hr.mono (by decide)) rfl (Aa (dv 1) Af)) Af)),mask [x] H,F',Jl ["self","form"] ds,x,C,dx,(fun fds:List Dt=>∀ (ws:List V) (H':Hp),Same (mask [x] H) H'→H' x=some (.ins C dx (List.zip ["form","measure","lowest"] ws))→List.length ["form","measure","lowest"]=fds.length→RpL K (mask F' H') fds ws→Q .non H'),Ld xF th r,xF,Dw (by simp),rfl,hx,cl,no,?_,fun fds w ws H' s1 h1 h2 h3=>w ws H' s1 h1 h2 h3⟩
 revert h
 generalize (fun fds:List Dt=>∀ (ws:List V) (H':Hp),Same (mask [x] H) H'→H' x=some (.ins C dx (List.zip ["form","measure","lowest"] ws))→List.length ["form","measure","lowest"]=fds.length→RpL K (mask F' H') fds ws→Q .non H')=S
 intro h
 obtain ⟨f,rfl,⟨hb,hw⟩,hq⟩:=h
 have e:Jl ["self","form"] [t3 f]=[none,some (.is (t3 f))]:=rfl
 rw [e]
 walk_at "rd"
 refine Av f ⟨hb,hw⟩ fun d hd=>?_
 refine Mf (f,d) hb ?_
 rintro _ rfl
 exact hq _ ⟨d,hd,rfl⟩
noncomputable abbrev J3:DSp:=Ca (fun p:Str × I3 × Dt=>[Qn p.1 p.2.1 p.2.2]) (fun p=>p.1="Bowl"∨p.1="Saddle") fun p=>p.2.2
theorem Zi (T:Txt K mg)
  : PmM P w K mg base 1 ["Bowl","Saddle"] "least" J3:=by
 obtain ⟨g,fd,hm,kp,F,B⟩:=T.me_least
 refine ⟨g,fd,_,hm,kp,B,F.okD Zb (by walk_at "lE") fun cdv A outer s H E hr=>⟨_,(Ah (Aq (HY (dv 0)))),fun ds Q h=>?_⟩⟩
 obtain ⟨⟨c,f,d⟩,rfl,hc,q⟩:=h
 have q':=q _ rfl
 walk_at "go"
 have na:Rf K c "lowest":=by
  rcases hc with e | e
  ·have e:c="Bowl":=e
   rw [e];exact T.na_Bowl_lowest
  ·have e:c="Saddle":=e
   rw [e];exact T.na_Saddle_lowest
 exact ⟨na,d,rfl,q'⟩
noncomputable abbrev Fp:DSp:=spec (fun f:I3=>[t3 f]) (fun f=>B3 1500 f∧(Bo f∨Sad f)) fun f d=>∃ l,(Bo f∧Ke f l∧d=Qn "Bowl" f l)∨(Sad f∧Low f l∧d=Qn "Saddle" f l)
theorem Vr (T:Txt K mg)
  (GI_Bowl:PmI P w K mg base 6 "Bowl" ["form","measure","lowest"] Vj)
  (GI_Saddle:PmI P w K mg base 8 "Saddle" ["form","measure","lowest"] PK)
  (G_shape:Pm P w K mg base 3 "shape" Ig ["form"] Mp)
  : Pm P w K mg base 10 "shape_of" Dk ["form"] Fp:=by
 obtain ⟨f,fd,F⟩:=T.t_shape_of
 refine ⟨f,fd,F,F.fn.okD Ux (by walk_at "lE") fun cdv A outer s H E hr=>⟨_,(Ae (Ci (Jx hr.units (Ag Ad G_shape (hr.mono (by decide)) rfl (Aa (dv 0) Af)) K9) (Ah (Aq (Wm Jo GI_Bowl (hr.mono (by decide)) rfl (Aa (dv 0) Af)))) Bg) (Ah (Aq (Wm Jo GI_Saddle (hr.mono (by decide)) rfl (Aa (dv 0) Af))))),fun ds Q h=>?_⟩⟩
 obtain ⟨f,rfl,⟨hb,hw⟩,q⟩:=h
 have hb:B3 1500 f:=hb
 have hw:Bo f∨Sad f:=hw
 walk_at "go"
 refine Av f hb ?_
 rintro _ hs
 have fb:∀ x:Str,(PySem.PyData.str x).canLay0=true→Dt.flat 8 (.str x)=true:=fun x h=>by rw [T5];exact h
 have f1:Dt.flat 8 (.str "bowl")=true:=fb _ (by decide +kernel)
 have f2:Dt.flat 8 (.str "saddle")=true:=fb _ (by decide +kernel)
 have mkS:Sad f→Rq (fun f:I3=>[t3 f]) (fun f=>B3 1500 f∧Sad f) (fun f fds=>∃ d,Low f d∧fds=[t3 f,Dt.int (meas f),d]) [t3 f] fun fds=>Q (Dt.obj "Saddle" ["form","measure","lowest"] fds):=fun hS=>by
  refine Mf f ⟨hb,hS⟩ ?_
  rintro _ ⟨l,hl,rfl⟩
  exact q _ ⟨l,.inr ⟨hS,hl,rfl⟩⟩
 cases hs with
 | flat z =>
  rcases hw with hw | hw
  ·exact absurd z (Lq hw.2)
  ·exact absurd z hw.no
 | saddle _ z =>
  rcases hw with hw | hw
  ·have:=hw.2;omega
  ·exact ⟨⟨f2,f1⟩,Ft (by rw [V1];rfl) (mkS hw)⟩
 | dome _ z1 z2 =>
  rcases hw with hw | hw
  ·exact absurd hw.1 z2
  ·exact absurd hw.pos z1
 | bowl _ z1 z2 =>
  rcases hw with hw | hw
  ·refine ⟨⟨f1,f1⟩,ift (by rw [V1];rfl) (Mf f ⟨hb,hw⟩ ?_)⟩
   rintro _ ⟨l,hl,rfl⟩
   exact q _ ⟨l,.inl ⟨hw,hl,rfl⟩⟩
  ·exact absurd hw.pos z1
noncomputable def LF (f g:I3):Prop:=(Bo f∧∃ t,det t=1∧Dp (mov f t)∧g=mov f t)∨(Sad f∧∃ t0 far N j,Ju f t0 far N∧j≤N∧(∀ i,i≤N→HT.lexLt (HJ (rF far i (mov f t0))) (HJ (rF far j (mov f t0)))=false)∧g=rF far j (mov f t0))
theorem Yd {f g:I3} (h1:HT.lexLt (HJ f) (HJ g)=false) (h2:HT.lexLt (HJ g) (HJ f)=false):f=g:=by
 obtain ⟨x1,x2,x3⟩:=f
 obtain ⟨y1,y2,y3⟩:=g
 simp only [HJ,HT.Fl,HT.Gy] at h1 h2
 have e1:x1=y1:=by
  rcases Int.lt_trichotomy x1 y1 with z | z | z
  ·rw [if_neg (by omega)] at h1;simp at h1;omega
  ·exact z
  ·rw [if_neg (by omega)] at h2;simp at h2;omega
 subst e1
 rw [if_pos rfl] at h1 h2
 have e2:x2=y2:=by
  rcases Int.lt_trichotomy x2 y2 with z | z | z
  ·rw [if_neg (by omega)] at h1;simp at h1;omega
  ·exact z
  ·rw [if_neg (by omega)] at h2;simp at h2;omega
 subst e2
 rw [if_pos rfl] at h1 h2
 have e3:x3=y3:=by
  rcases Int.lt_trichotomy x3 y3 with z | z | z
  ·rw [if_neg (by omega)] at h1;simp at h1;omega
  ·exact z
  ·rw [if_neg (by omega)] at h2;simp at h2;omega
 rw [e3]
theorem K4 {far:Int} {g:I3} {N:Nat} (e:rF far N g=g):∀ q,rF far (N*q) g=g
 | 0=>rfl
 | q+1=>by rw [Nat.mul_succ,Cr,K4 e q,e]
theorem Ly {far:Int} {g:I3} {N:Nat} (e:rF far N g=g) (n0:0 < N) (n:Nat):∃ i,i≤N∧rF far n g=rF far i g:=by
 have h1:=Nat.mod_lt n n0
 have h2:=Nat.div_add_mod n N
 refine ⟨n % N,by omega,?_⟩
 have:rF far (N*(n / N)+n % N) g=rF far (n % N) g:=by rw [Cr,K4 e]
 rw [h2] at this
 exact this
theorem J7 {far:Int} {g h:I3} {N m:Nat} (e:rF far N h=h) (n0:0 < N) (k:rF far m h=g):∃ j,rF far j g=h:=by
 refine ⟨N*m - m,?_⟩
 rw [←k,←Cr]
 have:m≤N*m:=Nat.le_mul_of_pos_left m n0
 rw [show m+(N*m - m)=N*m by omega,K4 e]
theorem LF.uniq {f g h:I3} (A:LF f g) (B:LF f h):g=h:=by
 rcases A with ⟨hb,t,dt,Lt,rfl⟩ | ⟨hS,t0,far,N,j,R,jl,lj,rfl⟩ <;> rcases B with ⟨hb',u,du,Lu,rfl⟩ | ⟨hS',t1,far1,N1,k,R1,kl,lk,rfl⟩
 ·have e:mov (mov f t) (Am (Ar t) u)=mov f u:=by rw [←Bk,Bw dt]
  have:=Dp.one Lt (t:=Am (Ar t) u) (by rw [e];exact Lu) (by rw [Cq,Ec,dt,du];rfl)
  rw [e] at this
  exact this.symm
 ·have:=hb.2;have:=hS'.pos;omega
 ·have:=hb'.2;have:=hS.pos;omega
 ·have ef:far=far1:=R.r.uniq R1.r
  subst ef
  have e1:mov (mov f t0) (Am (Ar t0) t1)=mov f t1:=by rw [←Bk,Bw R.d]
  have d1:det (Am (Ar t0) t1)=1:=by rw [Cq,Ec,R.d,R1.d];rfl
  have en:N=N1:=(R7 R.v R1.v d1 e1 R.e R.l R1.e R1.l R.n R1.n).1
  subst en
  have hm:∃ m,rF far m (mov f t0)=mov f t1:=by
   rcases J0 R.v R1.v d1 e1 with ⟨m,s⟩ | ⟨m,s⟩
   ·exact ⟨m,by rw [←Ea,←s.mov,e1]⟩
   ·have e2:mov (mov f t1) (Ar (Am (Ar t0) t1))=mov f t0:=by rw [←e1,Bw d1]
    exact J7 (m:=m) R1.e R1.n (by rw [←Ea,←s.mov,e2])
  obtain ⟨m,hm⟩:=hm
  obtain ⟨m',hm'⟩:=J7 R.e R.n hm
  obtain ⟨i1,a1,b1⟩:=Ly R.e R.n (m+k)
  obtain ⟨i2,a2,b2⟩:=Ly R1.e R1.n (m'+j)
  have h1:=lj i1 a1
  have h2:=lk i2 a2
  rw [←b1,Cr,hm] at h1
  rw [←b2,Cr,hm'] at h2
  exact (Yd h1 h2).symm
theorem MJ {f:I3} {l:Dt} (h:(Bo f∧Ke f l)∨(Sad f∧Low f l)):∃ g:I3,∃ x:Dt,l=.tup [t3 g,x]∧LF f g:=by
 rcases h with ⟨hb,t,rfl,dt,L,_⟩ | ⟨hS,t0,far,N,j,R,jl,lj,rfl,_⟩
 ·exact ⟨_,_,rfl,.inl ⟨hb,t,dt,L,rfl⟩⟩
 ·exact ⟨_,_,rfl,.inr ⟨hS,t0,far,N,j,R,jl,lj,rfl⟩⟩
noncomputable abbrev JF:DSp:=spec (fun f:I3=>[t3 f]) (fun f=>B3 1500 f∧(Bo f∨Sad f)) fun f d=>∃ g,d=t3 g∧LF f g
theorem Vh (T:Txt K mg)
  (G_shape_of:Pm P w K mg base 10 "shape_of" Dk ["form"] Fp)
  : Pm P w K mg base 11 "least_of" Fi ["form"] JF:=by
 obtain ⟨f,fd,F⟩:=T.t_least_of
 refine ⟨f,fd,F,F.fn.okD Uw (by walk_at "lE") fun cdv A outer s H E hr=>⟨_,(Ah (Aq (Ac (HY (Ag Ad G_shape_of (hr.mono (by decide)) rfl (Aa (dv 0) Af))) Ab))),fun ds Q h=>?_⟩⟩
 obtain ⟨f,rfl,⟨hb,hw⟩,q⟩:=h
 walk_at "go"
 refine Av f ⟨hb,hw⟩ ?_
 rintro _ ⟨l,⟨hf,hl,rfl⟩ | ⟨hf,hl,rfl⟩⟩
 ·obtain ⟨g,x,rfl,L⟩:=MJ (.inl ⟨hf,hl⟩)
  walk_at "rd"
  exact ⟨T.na_Bowl_lowest,_,rfl,q _ ⟨g,rfl,L⟩⟩
 ·obtain ⟨g,x,rfl,L⟩:=MJ (.inr ⟨hf,hl⟩)
  walk_at "rd"
  exact ⟨T.na_Saddle_lowest,_,rfl,q _ ⟨g,rfl,L⟩⟩
noncomputable def P0 (f:I3) (l:Dt):Prop:=(Bo f∧Ke f l)∨(Sad f∧Low f l)
theorem P0.uniq {f:I3} {l m:Dt} (A:P0 f l) (B:P0 f m):l=m:=by
 rcases A with ⟨hb,t,rfl,_,_,_,a⟩ | ⟨hS,t0,far,N,j,R,_,_,rfl,ej⟩ <;> rcases B with ⟨hb',u,rfl,_,_,_,b⟩ | ⟨hS',t1,far1,N1,k,R1,_,_,rfl,ek⟩
 ·rw [a.uniq b]
 ·have:=hb.2;have:=hS'.pos;omega
 ·have:=hb'.2;have:=hS.pos;omega
 ·have ef:far=far1:=R.r.uniq R1.r
  subst ef
  have et:=R.a.uniq R1.a
  subst et
  have en:N=N1:=by
   rcases Nat.lt_trichotomy N N1 with z | z | z
   ·exact absurd R.e (R1.l N R.n z)
   ·exact z
   ·exact absurd R1.e (R.l N1 R1.n z)
  subst en
  rw [ej,ek]
theorem LF.same {f h g g':I3} {x:I4} (A:LF f g) (B:LF h g') (dx:det x=1) (ex:mov f x=h):g=g':=by
 have hm:meas h=meas f:=by rw [←ex,Bs dx]
 rcases A with ⟨hb,t,dt,Lt,rfl⟩ | ⟨hS,t0,far,N,j,R,jl,lj,rfl⟩ <;> rcases B with ⟨hb',u,du,Lu,rfl⟩ | ⟨hS',t1,far1,N1,k,R1,kl,lk,rfl⟩
 ·have e:mov (mov f t) (Am (Ar t) (Am x u))=mov h u:=by rw [←Bk,Bw dt,←Bk,ex]
  have:=Dp.one Lt (t:=Am (Ar t) (Am x u)) (by rw [e];exact Lu) (by rw [Cq,Cq,Ec,dt,dx,du];rfl)
  rw [e] at this
  exact this.symm
 ·have:=hb.2;have:=hS'.pos;omega
 ·have:=hb'.2;have:=hS.pos;omega
 ·have ef:far=far1:=R.r.uniq (by rw [←hm];exact R1.r)
  subst ef
  have e1:mov (mov f t0) (Am (Ar t0) (Am x t1))=mov h t1:=by rw [←Bk,Bw R.d,←Bk,ex]
  have d1:det (Am (Ar t0) (Am x t1))=1:=by rw [Cq,Cq,Ec,R.d,dx,R1.d];rfl
  have en:N=N1:=(R7 R.v R1.v d1 e1 R.e R.l R1.e R1.l R.n R1.n).1
  subst en
  have hm:∃ m,rF far m (mov f t0)=mov h t1:=by
   rcases J0 R.v R1.v d1 e1 with ⟨m,s⟩ | ⟨m,s⟩
   ·exact ⟨m,by rw [←Ea,←s.mov,e1]⟩
   ·have e2:mov (mov h t1) (Ar (Am (Ar t0) (Am x t1)))=mov f t0:=by rw [←e1,Bw d1]
    exact J7 (m:=m) R1.e R1.n (by rw [←Ea,←s.mov,e2])
  obtain ⟨m,hm⟩:=hm
  obtain ⟨m',hm'⟩:=J7 R.e R.n hm
  obtain ⟨i1,a1,b1⟩:=Ly R.e R.n (m+k)
  obtain ⟨i2,a2,b2⟩:=Ly R1.e R1.n (m'+j)
  have h1:=lj i1 a1
  have h2:=lk i2 a2
  rw [←b1,Cr,hm] at h1
  rw [←b2,Cr,hm'] at h2
  exact (Yd h1 h2).symm
theorem AjY {f:I3} {l:Dt} (h:P0 f l):∃ (g:I3) (t:I4),l=.tup [t3 g,t4 t]∧LF f g∧det t=1∧mov f t=g∧B4 90000 t:=by
 rcases h with ⟨hb,t,rfl,dt,L,bt,_⟩ | ⟨hS,t0,far,N,j,R,jl,lj,rfl,_⟩
 ·exact ⟨_,t,rfl,.inl ⟨hb,t,dt,L,rfl⟩,dt,rfl,bt.le (by decide)⟩
 ·exact ⟨_,_,rfl,.inr ⟨hS,t0,far,N,j,R,jl,lj,rfl⟩,by rw [Cq,R.d,Lb];rfl,by rw [←Bk,Ea],R.bt j jl⟩
theorem Ud {f:I3} {d:Dt} (h:∃ l,(Bo f∧Ke f l∧d=Qn "Bowl" f l)∨(Sad f∧Low f l∧d=Qn "Saddle" f l)):∃ (c:Str) (l:Dt),(c="Bowl"∨c="Saddle")∧d=Qn c f l∧P0 f l:=by
 obtain ⟨l,⟨h1,h2,rfl⟩ | ⟨h1,h2,rfl⟩⟩:=h
 ·exact ⟨_,l,.inl rfl,rfl,.inl ⟨h1,h2⟩⟩
 ·exact ⟨_,l,.inr rfl,rfl,.inr ⟨h1,h2⟩⟩
theorem YH {K:PySem.W.Frag} {mg:Str→Option Value} (T:Txt K mg) {c:Str} (hc:c="Bowl"∨c="Saddle"):Rf K c "measure":=by
 rcases hc with e | e <;> rw [e]
 ·exact T.na_Bowl_measure
 ·exact T.na_Saddle_measure
theorem HX {n:Nat} {a b:Int} (ha:Bt n a) (h:b≠0):Bt (n+1) (a.fdiv b):=by
 have hb:1≤b.natAbs:=by omega
 have h1:=Kg (a:=a) h
 have e:b*a.fdiv b=a - a.fmod b:=by rw [DQ];grind
 have e2:b.natAbs*(a.fdiv b).natAbs=(a - a.fmod b).natAbs:=by rw [←Int.natAbs_mul,e]
 unfold Bt at *
 rw [Nat.pow_succ]
 by_cases h0:a.fdiv b=0
 ·rw [h0];have:=Nat.two_pow_pos n;simp;omega
 ·rcases Nat.lt_or_ge a.natAbs b.natAbs with hc | hc
  ·have h3:(a - a.fmod b).natAbs < 2*b.natAbs:=by omega
   have h4:(a.fdiv b).natAbs < 2:=by
    refine Nat.lt_of_mul_lt_mul_left (a:=b.natAbs) ?_
    rw [e2];omega
   have:=Nat.two_pow_pos n
   omega
  ·have h3:(a - a.fmod b).natAbs≤2*a.natAbs:=by omega
   have h4:(a.fdiv b).natAbs≤b.natAbs*(a.fdiv b).natAbs:=Nat.le_mul_of_pos_left _ hb
   omega
theorem RP {n:Nat} {t b:Int} (h:Bt n (t*b)) (hb:b≠0):Bt n t:=by
 unfold Bt at *
 rw [Int.natAbs_mul] at h
 have h4:t.natAbs≤t.natAbs*b.natAbs:=Nat.le_mul_of_pos_right _ (by omega)
 omega
structure Rows (a b n u v m s t:Int):Prop where
 r1:n=u*a+v*b
 r2:m=s*a+t*b
 g:Int.gcd n m=Int.gcd a b
 n0:Bt 800 n
 m0:Bt 800 m
 u0:Bt 801 u
 s0:Bt 801 s
 v0:Bt 2000 v
 t0:Bt 2000 t
structure Lat (b n u m s:Int):Prop where
 ex:∃ e d N M U S B:Int,n=e*N∧m=e*M∧u=d*U∧s=d*S∧b=e*B∧(e=1∨e=-1)∧(d=1∨d=-1)∧0 < N∧0≤M∧U≤0∧0≤S∧N*S - M*U=B∧-U≤B
theorem Lat.first {a b:Int} (h:b≠0):Lat b b 0 (a.fmod b) 1:=by
 rcases Int.lt_or_lt_of_ne h with h | h
 ·have e:a.fmod b=-((-a).fmod (-b)):=by rw [DQ,DQ,Int.neg_fdiv_neg];grind
  have h1:=Int.fmod_nonneg_of_pos (-a) (show 0 < -b by omega)
  exact ⟨-1,1,-b,(-a).fmod (-b),0,1,-b,by omega,by omega,by omega,by omega,by omega,.inr rfl,.inl rfl,by omega,h1,by omega,by omega,by simp,by omega⟩
 ·have h1:=Int.fmod_nonneg_of_pos a h
  exact ⟨1,1,b,a.fmod b,0,1,b,by omega,by omega,by omega,by omega,by omega,.inl rfl,.inl rfl,by omega,h1,by omega,by omega,by simp,by omega⟩
theorem Lat.step {b n u m s:Int} (L:Lat b n u m s) (h:m≠0):Lat b m s (n - n.fdiv m*m) (u - n.fdiv m*s):=by
 obtain ⟨e,d,N,M,U,S,B,hn,hm,hu,hs,hb,he,hd,hN,hM,hU,hS,hE,hUB⟩:=L.ex
 have hM':0 < M:=by
  rcases Int.lt_or_eq_of_le hM with z | z
  ·exact z
  ·rw [←z] at hm;simp at hm;exact absurd hm h
 have q1:n.fdiv m=N.fdiv M:=by
  rw [hn,hm]
  rcases he with rfl | rfl
  ·simp
  ·simp [Int.neg_fdiv_neg]
 have q2:0≤N.fdiv M:=Int.fdiv_nonneg (by omega) (by omega)
 have q3:0≤N - M*N.fdiv M:=by rw [←DQ];exact Int.fmod_nonneg_of_pos N hM'
 rw [q1]
 generalize N.fdiv M=q at *
 have hSB:S≤B:=by
  have z1:0≤M*(-U):=Int.mul_nonneg hM (by omega)
  have z2:0≤(N - 1)*S:=Int.mul_nonneg (by omega) hS
  have:N*S - M*U=(N - 1)*S+S+M*(-U):=by grind
  omega
 have z3:0≤q*S:=Int.mul_nonneg q2 hS
 refine ⟨e,-d,M,N - M*q,-S,q*S - U,B,hm,?_,?_,?_,hb,he,?_,hM',q3,by omega,by omega,?_,by omega⟩
 ·rw [hn,hm];grind
 ·rw [hs];grind
 ·rw [hu,hs];grind
 ·rcases hd with rfl | rfl
  ·exact .inr rfl
  ·exact .inl rfl
 ·rw [←hE];grind
theorem Lat.bounds {b n u m s:Int} (L:Lat b n u m s):u.natAbs≤b.natAbs∧s.natAbs≤b.natAbs:=by
 obtain ⟨e,d,N,M,U,S,B,hn,hm,hu,hs,hb,he,hd,hN,hM,hU,hS,hE,hUB⟩:=L.ex
 have z1:0≤M*(-U):=Int.mul_nonneg hM (by omega)
 have z2:0≤(N - 1)*S:=Int.mul_nonneg (by omega) hS
 have:N*S - M*U=(N - 1)*S+S+M*(-U):=by grind
 have hSB:S≤B:=by omega
 rcases he with rfl | rfl <;> rcases hd with rfl | rfl <;> omega
theorem Rows.first {a b:Int} (ha:Bt 800 a) (hb:Bt 800 b):Rows a b a 1 0 b 0 1 :=
 ⟨by omega,by omega,rfl,ha,hb,Bt.one.le (by decide),Bt.zero.le (by decide),Bt.zero.le (by decide),Bt.one.le (by decide)⟩
theorem Rows.step {a b n u v m s t:Int} (R:Rows a b n u v m s t) (ha:Bt 800 a) (hb:Bt 800 b) (hbn:b≠0) (h:m≠0) (L:Lat b m s (n - n.fdiv m*m) (u - n.fdiv m*s)) :
  Rows a b m s t (n - n.fdiv m*m) (u - n.fdiv m*s) (v - n.fdiv m*t):=by
 have e:n - n.fdiv m*m=n.fmod m:=by rw [DQ];grind
 have hl:=Kg (a:=n) h
 have hm:=R.m0
 have hs:Bt 801 (u - n.fdiv m*s):=by
  have:=L.bounds.2
  have hb':=hb.le (m:=801) (by decide)
  unfold Bt at *
  omega
 have hr:Bt 800 (n - n.fdiv m*m):=by rw [e];unfold Bt at *;omega
 have er:n - n.fdiv m*m=(u - n.fdiv m*s)*a+(v - n.fdiv m*t)*b:=by
  have h1:=R.r1
  have h2:=R.r2
  generalize n.fdiv m=q at *
  rw [h1,h2];grind
 refine ⟨R.r2,er,?_,R.m0,hr,R.s0,hs,R.t0,?_⟩
 ·rw [e,Qo];exact R.g
 ·refine RP (b:=b) ?_ hbn
  have:(v - n.fdiv m*t)*b=(n - n.fdiv m*m) - (u - n.fdiv m*s)*a:=by rw [er];grind
  rw [this]
  exact (hr.sub (hs.mul ha)).le (by decide)
noncomputable abbrev NZ:DSp:=Ca (fun p:(Int × Int × Int) × (Int × Int × Int) × Int=>[T3 p.1.1 p.1.2.1 p.1.2.2,T3 p.2.1.1 p.2.1.2.1 p.2.1.2.2,.int p.2.2]) (fun p=>Bt 2000 p.2.2∧Bt 2000 p.2.1.1∧Bt 2000 p.2.1.2.1∧Bt 2000 p.2.1.2.2)
 fun p=>T3 (p.1.1 - p.2.2*p.2.1.1) (p.1.2.1 - p.2.2*p.2.1.2.1) (p.1.2.2 - p.2.2*p.2.1.2.2)
noncomputable abbrev RV:DSp:=spec (fun p:I2=>[.int p.1,.int p.2]) (fun p=>Bt 800 p.1∧Bt 800 p.2) fun p d=>∃ u v:Int,d=T3 ((Int.gcd p.1 p.2:Nat):Int) u v∧u*p.1+v*p.2=((Int.gcd p.1 p.2:Nat):Int)∧Bt 2000 u∧Bt 2000 v
theorem Wn (T:Txt K mg)
  : Pm P w K mg base 1 "row_less" Gk ["row","lower","often"] NZ:=by
 obtain ⟨f,fd,F⟩:=T.t_row_less
 refine ⟨f,fd,F,F.fn.okD Vw (by walk_at "lE") fun cdv A outer s H E hr=>⟨_,(Ah (Aq (BK (Aa (Bu (Ac (dv 0) Ab) (Ao (dv 2) (Ac (dv 1) Ab))) (Aa (Bu (Ac (dv 0) Ab) (Ao (dv 2) (Ac (dv 1) Ab))) (Aa (Bu (Ac (dv 0) Ab) (Ao (dv 2) (Ac (dv 1) Ab))) Af)))))),fun ds Q h=>?_⟩⟩
 obtain ⟨⟨⟨n,u,v⟩,⟨m,s,t⟩,q⟩,rfl,⟨hq,hm,hs,ht⟩,k⟩:=h
 walk_at "go"
 walk_at "muls"
 exact k _ rfl
theorem Z4 (T:Txt K mg)
  (G_row_less:Pm P w K mg base 1 "row_less" Gk ["row","lower","often"] NZ)
  : Pm P w K mg base 2 "shares" Ir ["one","other"] RV:=by
 obtain ⟨f,fd,F⟩:=T.t_shares
 refine ⟨f,fd,F,F.fn.okD Hf (by walk_at "lE") fun cdv A outer s H E hr=>⟨_,(Ae (Ak 2 Hf.nd (BK (Aa (dv 0) (Aa Ab (Aa Ab Af))))) (Ae (Ak 3 Hf.nd (BK (Aa (dv 1) (Aa Ab (Aa Ab Af))))) (Ae (Gf PassesOwn.never (Ie hr.units (Ac (dv 3) Ab) Ab) (Ae (Ak 4 Hf.nd (Ag Ad G_row_less (hr.mono (by decide)) rfl (Aa (dv 2) (Aa (dv 3) (Aa (Ce (Ac (dv 2) Ab) (Ac (dv 3) Ab)) Af))))) (Ae (Ak 2 Hf.nd (dv 3)) (Ah (Ak 3 Hf.nd (dv 4)))))) (Ae (Ci (NT (Ac (dv 2) Ab) Ab) (Ah (Aq (BK (Aa (Ek (Ac (dv 2) Ab)) (Aa (Ek (Ac (dv 2) Ab)) (Aa (Ek (Ac (dv 2) Ab)) Af)))))) Bg) (Ah (Aq (dv 2))))))),fun ds Q h=>?_⟩⟩
 obtain ⟨⟨a,b⟩,rfl,⟨ha,hb⟩,k⟩:=h
 walk_at "go"
 refine ⟨Ba (by decide),Ba (by decide),?_⟩
 refine FZ (fun m ρ=>∃ n u v x s t z,ρ=[some (.is (.int a)),some (.is (.int b)),some (.is (T3 n u v)),some (.is (T3 x s t)),z]∧Rows a b n u v x s t∧((n=a∧u=1∧x=b∧s=0)∨(b≠0∧Lat b n u x s))∧m=x.natAbs) _ ⟨a,1,0,b,0,1,none,rfl,Rows.first ha hb,.inl ⟨rfl,rfl,rfl,rfl⟩,rfl⟩ ?_
 rintro m _ ⟨n,u,v,x,s,t,z,rfl,R,hc,rfl⟩
 walk_at "rd"
 have hG:=R.g
 by_cases hx:x=0
 ·subst hx
  rw [Int.gcd_zero_right] at hG
  simp only [decide_true,Bool.not_true]
  walk_at "rd"
  have r1:=R.r1
  refine JK (fun hn=>⟨Ba (by decide),k _ ⟨-u,-v,?_,?_,(R.u0.neg).le (by decide),R.v0.neg⟩⟩) (fun hn=>k _ ⟨u,v,?_,?_,R.u0.le (by decide),R.v0⟩)
  ·have hn:=of_decide_eq_true hn
   have e:-n=((Int.gcd a b:Nat):Int):=by omega
   rw [e]
  ·have hn:=of_decide_eq_true hn
   have e:-n=((Int.gcd a b:Nat):Int):=by omega
   show -u*a + -v*b=_
   rw [←e,r1];grind
  ·have hn:¬ n < 0:=fun z=>hn (decide_eq_true z)
   have e:n=((Int.gcd a b:Nat):Int):=by omega
   rw [←e]
  ·have hn:¬ n < 0:=fun z=>hn (decide_eq_true z)
   have e:n=((Int.gcd a b:Nat):Int):=by omega
   show u*a+v*b=_
   rw [←e,←r1]
 ·simp only [decide_eq_false hx,Bool.not_false,if_true]
  have hbn:b≠0:=by
   rcases hc with ⟨_,_,e,_⟩ | ⟨e,_⟩
   ·rw [←e];exact hx
   ·exact e
  have L:Lat b x s (n - n.fdiv x*x) (u - n.fdiv x*s):=by
   rcases hc with ⟨rfl,rfl,rfl,rfl⟩ | ⟨_,L⟩
   ·have:=Lat.first (a:=n) hx
    have e:n - n.fdiv x*x=n.fmod x:=by rw [DQ];grind
    have e2:(1:Int) - n.fdiv x*0=1:=by omega
    rw [e,e2];exact this
   ·exact L.step hx
  have hq:=HX R.n0 hx
  refine ⟨Bt.divOk R.m0 hx,?_⟩
  refine Aj ((n,u,v),(x,s,t),n.fdiv x) ⟨hq.le (by decide),R.m0.le (by decide),R.s0.le (by decide),R.t0⟩ ?_
  refine ⟨_,?_,_,_,_,_,_,_,_,rfl,Rows.step R ha hb hbn hx L,.inr ⟨hbn,L⟩,rfl⟩
  have e:n - n.fdiv x*x=n.fmod x:=by rw [DQ];grind
  rw [e]
  exact Kg hx
noncomputable def gJ (f h:I3):Int:=((Int.gcd ((Int.gcd f.1 h.1:Nat):Int) (jS f h):Nat):Int)
theorem Nf {f h:I3} (ha:f.1≠0):0 < gJ f h:=by
 unfold gJ
 have:Int.gcd ((Int.gcd f.1 h.1:Nat):Int) (jS f h)≠0:=fun z=>by
  have h1:=(Int.gcd_eq_zero_iff.mp z).1
  have h2:Int.gcd f.1 h.1=0:=by omega
  exact ha (Int.gcd_eq_zero_iff.mp h2).1
 omega
theorem K8 {f h:I3}:gJ f h∣f.1∧gJ f h∣h.1∧gJ f h∣jS f h:=by
 unfold gJ
 have h1:((Int.gcd ((Int.gcd f.1 h.1:Nat):Int) (jS f h):Nat):Int)∣((Int.gcd f.1 h.1:Nat):Int):=Int.gcd_dvd_left ..
 exact ⟨Int.dvd_trans h1 (Int.gcd_dvd_left ..),Int.dvd_trans h1 (Int.gcd_dvd_right ..),Int.gcd_dvd_right ..⟩
structure Pair (f h:I3):Prop where
 bf:B3 800 f
 bh:B3 800 h
 kf:Bo f∨Sad f
 kh:Bo h∨Sad h
 m:meas f=meas h
 pf:g3 f=1
 ph:g3 h=1
 bm:Bt 600 (meas f)
 bA:Bt 1400 (jA f h (gJ f h))
theorem FN {f:I3} (h:Bo f∨Sad f):f.1≠0:=by
 rcases h with h | h
 ·have:=h.1;omega
 ·exact O5 h
noncomputable abbrev Fz:DSp:=Ca (fun f:I3=>[t3 f]) (fun f=>g3 f=1) fun _=>.non
theorem QF (T:Txt K mg)
  (G_content:Pm P w K mg base 2 "content" Gq ["form"] K7)
  : Pm P w K mg base 3 "check_plain" Cv ["form"] Fz:=by
 obtain ⟨f,fd,F⟩:=T.t_check_plain
 refine ⟨f,fd,F,F.fn.okD Qi (by walk_at "lE") fun cdv A outer s H E hr=>⟨_,(Ah (Ci (Ie hr.units (Ag Ad G_content (hr.mono (by decide)) rfl (Aa (dv 0) Af)) Ab) (Ah FW) Bg)),fun ds Q h=>?_⟩⟩
 obtain ⟨f,rfl,hf,q⟩:=h
 have hf:g3 f=1:=hf
 have q':=q _ rfl
 walk_at "go"
 refine Aj f trivial ⟨KD,Ft ?_ q'⟩
 rw [hf,Rw]
 rfl
noncomputable abbrev Kp:DSp:=Ca (fun p:I3 × I3=>[t3 p.1,t3 p.2]) (fun p=>Pair p.1 p.2) fun _=>.non
theorem Q6 (T:Txt K mg)
  (G_shape_of:Pm P w K mg base 10 "shape_of" Dk ["form"] Fp)
  (G_check_plain:Pm P w K mg base 3 "check_plain" Cv ["form"] Fz)
  : Pm P w K mg base 11 "check_pair" Er ["one","other"] Kp:=by
 obtain ⟨f,fd,F⟩:=T.t_check_pair
 refine ⟨f,fd,F,F.fn.okD Ih (by walk_at "lE") fun cdv A outer s H E hr=>⟨_,(Ae (Ak 2 Ih.nd (Ag Ad G_shape_of (hr.mono (by decide)) rfl (Aa (dv 0) Af))) (Ae (Ak 3 Ih.nd (Ag Ad G_shape_of (hr.mono (by decide)) rfl (Aa (dv 1) Af))) (Ae (Ci (Ie hr.units (HY (dv 2)) (HY (dv 3))) (Ah FW) Bg) (Ae (CK (Ag Ad G_check_plain (hr.mono (by decide)) rfl (Aa (dv 0) Af))) (Ah (CK (Ag Ad G_check_plain (hr.mono (by decide)) rfl (Aa (dv 1) Af)))))))),fun ds Q h=>?_⟩⟩
 obtain ⟨⟨f,h⟩,rfl,hP,q⟩:=h
 have hP:Pair f h:=hP
 have q':=q _ rfl
 walk_at "go"
 refine Av f ⟨hP.bf.le (by decide),hP.kf⟩ ?_
 rintro _ ho
 obtain ⟨c1,l1,hc1,rfl,low1⟩:=Ud ho
 refine Av h ⟨hP.bh.le (by decide),hP.kh⟩ ?_
 rintro _ ho
 obtain ⟨c2,l2,hc2,rfl,low2⟩:=Ud ho
 refine ⟨YH T hc1,.int (meas f),rfl,YH T hc2,.int (meas h),rfl,⟨KD,KD⟩,Ft ?_ (Aj f hP.pf (Aj h hP.ph q'))⟩
 rw [Rw,decide_eq_true hP.m]
 rfl
noncomputable abbrev Dy:DSp:=Ca (fun p:I3 × I3=>[t3 p.1,t3 p.2]) (fun _=>True) fun p=>.int (jS p.1 p.2)
theorem KJ (T:Txt K mg)
  : Pm P w K mg base 1 "half_of_middles" Bp ["one","other"] Dy:=by
 obtain ⟨f,fd,F⟩:=T.t_half_of_middles
 refine ⟨f,fd,F,F.fn.okD KQ (by walk_at "lE") fun cdv A outer s H E hr=>⟨_,(Ah (Aq (Ce (BL (Ac (dv 0) Ab) (Ac (dv 1) Ab)) Ab))),fun ds Q h=>?_⟩⟩
 obtain ⟨⟨f,h⟩,rfl,_,q⟩:=h
 have q':=q _ rfl
 walk_at "go"
 exact ⟨⟨by decide,by decide⟩,q'⟩
theorem PB {n:Nat} {f h:I3} (hf:B3 n f) (hh:B3 n h) (hm:meas f=meas h):Bt n (jS f h):=by
 have:=RK hm
 have h1:=hf.2.1
 have h2:=hh.2.1
 unfold Bt at *
 omega
noncomputable def Common (f h:I3) (g j k:Int):Prop:=g=gJ f h∧(∃ i,i*f.1+j*h.1+k*jS f h=g)∧Bt 4001 j∧Bt 2000 k
noncomputable abbrev IK:DSp:=spec (fun p:I3 × I3=>[t3 p.1,t3 p.2]) (fun p=>Pair p.1 p.2) fun p d=>∃ g j k,d=T3 g j k∧Common p.1 p.2 g j k
theorem Mr (T:Txt K mg)
  (G_shares:Pm P w K mg base 2 "shares" Ir ["one","other"] RV)
  (G_half_of_middles:Pm P w K mg base 1 "half_of_middles" Bp ["one","other"] Dy)
  : Pm P w K mg base 3 "common_shares" CV ["one","other"] IK:=by
 obtain ⟨f,fd,F⟩:=T.t_common_shares
 refine ⟨f,fd,F,F.fn.okD Gn (by walk_at "lE") fun cdv A outer s H E hr=>⟨_,(Ae (Ak 2 Gn.nd (Ag Ad G_shares (hr.mono (by decide)) rfl (Aa (Ac (dv 0) Ab) (Aa (Ac (dv 1) Ab) Af)))) (Ae (Ak 3 Gn.nd (Ag Ad G_shares (hr.mono (by decide)) rfl (Aa (Ac (dv 2) Ab) (Aa (Ag Ad G_half_of_middles (hr.mono (by decide)) rfl (Aa (dv 0) (Aa (dv 1) Af))) Af)))) (Ah (Aq (BK (Aa (Ac (dv 3) Ab) (Aa (Ao (Ac (dv 3) Ab) (Ac (dv 2) Ab)) (Aa (Ac (dv 3) Ab) Af)))))))),fun ds Q h=>?_⟩⟩
 obtain ⟨⟨f,h⟩,rfl,hP,q⟩:=h
 have hP:Pair f h:=hP
 have q:∀ d,(∃ g j k,d=T3 g j k∧Common f h g j k)→Q d:=q
 walk_at "go"
 refine Av (f.1,h.1) ⟨hP.bf.1,hP.bh.1⟩ ?_
 rintro _ ⟨x,y,rfl,e1,bx,by'⟩
 have e1:x*f.1+y*h.1=((Int.gcd f.1 h.1:Nat):Int):=e1
 walk_at "rd"
 refine Aj (f,h) trivial (Av (((Int.gcd f.1 h.1:Nat):Int),jS f h) ⟨K3 hP.bf.1 hP.bh.1,PB hP.bf hP.bh hP.m⟩ ?_)
 rintro _ ⟨u,v,rfl,e2,bu,bv⟩
 have e2:u*((Int.gcd f.1 h.1:Nat):Int)+v*jS f h=gJ f h:=e2
 walk_at "rd"
 refine ⟨bu.mulOk by',Ba (by decide),q _ ⟨_,_,_,rfl,rfl,⟨u*x,?_⟩,(bu.mul by').le (by decide),bv⟩⟩
 show _=gJ f h
 rw [←e2,←e1]
 grind
theorem Ahc {f h:I3} {g j k:Int} (h0:jA f h g≠0):(jB f h g j k).natAbs < 2*(jA f h g).natAbs:=by
 have:=Kg (a:=h.2.1+2*h.1.fdiv g*(j*(jS f h - h.2.1) - k*h.2.2)) (b:=2*jA f h g) (by omega)
 unfold jB
 omega
theorem Ai9 {A B C D:Int} (e:B*B - D=4*A*C) (h0:A≠0) (hB:B.natAbs < 2*A.natAbs) (hA:Bt 1400 A) (hD:Bt 600 D):Bt 1401 C:=by
 have e1:4*(A.natAbs*C.natAbs)=(B*B - D).natAbs:=by rw [e,Int.mul_assoc,Int.natAbs_mul,Int.natAbs_mul];rfl
 have e2:(B*B - D).natAbs≤B.natAbs*B.natAbs+D.natAbs:=by
  have:=Int.natAbs_mul B B
  omega
 have e3:B.natAbs*B.natAbs≤(2*A.natAbs)*(2*A.natAbs):=Nat.mul_le_mul (by omega) (by omega)
 have e4:(2*A.natAbs)*(2*A.natAbs)=4*(A.natAbs*A.natAbs):=by grind
 have a1:1≤A.natAbs:=by omega
 have e5:A.natAbs*C.natAbs≤A.natAbs*(A.natAbs+D.natAbs):=by
  have:D.natAbs≤4*(A.natAbs*D.natAbs):=by
   have:=Nat.le_mul_of_pos_left D.natAbs a1
   omega
  rw [Nat.mul_add]
  omega
 have e6:C.natAbs≤A.natAbs+D.natAbs:=Nat.le_of_mul_le_mul_left e5 a1
 have d1:D.natAbs < 2 ^ 1400:=Nat.lt_of_lt_of_le hD (Nat.pow_le_pow_right (by decide) (by decide))
 unfold Bt at *
 have:(2:Nat) ^ 1401=2*2 ^ 1400:=by rw [Nat.pow_succ];omega
 omega
theorem Pair.joint {f h:I3} {g j k:Int} (P:Pair f h) (C:Common f h g j k):FA (jP f h g (jB f h g j k)) (jQ f h g)=f∧FB (jP f h g (jB f h g j k)) (jQ f h g)=h∧FC (jP f h g (jB f h g j k)) (jQ f h g)=jF f h g j k:=by
 obtain ⟨rfl,⟨i,e⟩,_⟩:=C
 have g0:=Nf (h:=h) (FN P.kf)
 exact Va (FN P.kf) (FN P.kh) P.m (by omega) K8.1 K8.2.1 K8.2.2 e
theorem Pair.ja {f h:I3} {g j k:Int} (P:Pair f h) (C:Common f h g j k):jA f h g*(g*g)=f.1*h.1:=by
 obtain ⟨rfl,_⟩:=C
 have g0:=Nf (h:=h) (FN P.kf)
 obtain ⟨x,hx⟩:=(K8 (f:=f) (h:=h)).1
 obtain ⟨y,hy⟩:=(K8 (f:=f) (h:=h)).2.1
 unfold jA
 have:f.1*h.1=gJ f h*gJ f h*(x*y):=by
  have:f.1*h.1=(gJ f h*x)*(gJ f h*y):=by rw [←hx,←hy]
  rw [this];grind
 rw [this,Int.mul_fdiv_cancel_left _ (Int.mul_ne_zero (by omega) (by omega)),Int.mul_comm]
theorem Pair.ja0 {f h:I3} {g j k:Int} (P:Pair f h) (C:Common f h g j k):jA f h g≠0:=fun z=>by
 have e:=P.ja C
 rw [z,Int.zero_mul] at e
 exact Int.mul_ne_zero (FN P.kf) (FN P.kh) e.symm
theorem Pair.comp {f h:I3} {g j k:Int} (P:Pair f h) (C:Common f h g j k):Comp f h (jF f h g j k):=⟨_,_,P.joint C⟩
theorem Pair.kind {f h:I3} {g j k:Int} (P:Pair f h) (C:Common f h g j k):Bo (jF f h g j k)∨Sad (jF f h g j k):=by
 have hm:=(P.comp C).meas.2
 rw [←P.m] at hm
 rcases P.kf with kf | kf
 ·refine .inl ⟨?_,by rw [hm];exact kf.2⟩
  have kh:0 < h.1:=by
   rcases P.kh with z | z
   ·exact z.1
   ·have h1:=kf.2;have h2:=z.pos;have h3:=P.m;omega
  have e:=P.ja C
  have p1:=Int.mul_pos kf.1 kh
  show 0 < jA f h g
  rcases Int.lt_or_le 0 (jA f h g) with z | z
  ·exact z
  ·have:=Int.mul_nonneg (show 0≤-jA f h g by omega) (sq_nonneg g)
   have:-jA f h g*(g*g)=-(jA f h g*(g*g)):=by grind
   omega
 ·exact .inr ⟨by rw [hm];exact kf.no,by rw [hm];exact kf.pos,by rw [hm];exact kf.most⟩
theorem Pair.bF {f h:I3} {g j k:Int} (P:Pair f h) (C:Common f h g j k):B3 1402 (jF f h g j k):=by
 have h0:=P.ja0 C
 have hB:=Ahc (j:=j) (k:=k) h0
 have hA:Bt 1400 (jA f h g):=by rw [C.1];exact P.bA
 have hm:(jB f h g j k)*(jB f h g j k) - 4*(jF f h g j k).1*(jF f h g j k).2.2=meas f:=by
  have:=(P.comp C).meas.2
  rw [P.m];exact this
 refine ⟨hA.le (by decide),?_,(Ai9 (A:=jA f h g) (B:=jB f h g j k) (D:=meas f) ?_ h0 hB hA P.bm).le (by decide)⟩
 ·show Bt 1402 (jB f h g j k)
  have:(2:Nat) ^ 1402=4*2 ^ 1400:=by decide +kernel
  unfold Bt at *
  omega
 ·show _=4*(jF f h g j k).1*(jF f h g j k).2.2
  omega
noncomputable abbrev Kq:DSp:=Ca (fun p:(I3 × I3) × I3=>[t3 p.1.1,t3 p.1.2,t3 p.2]) (fun p=>Pair p.1.1 p.1.2∧Common p.1.1 p.1.2 p.2.1 p.2.2.1 p.2.2.2) fun p=>t3 (jF p.1.1 p.1.2 p.2.1 p.2.2.1 p.2.2.2)
theorem Q0 (T:Txt K mg)
  (G_half_of_middles:Pm P w K mg base 1 "half_of_middles" Bp ["one","other"] Dy)
  (G_measure:Pm P w K mg base 1 "measure" CW ["form"] Ef)
  : Pm P w K mg base 2 "joint_form" Et ["one","other","common"] Kq:=by
 obtain ⟨f,fd,F⟩:=T.t_joint_form
 refine ⟨f,fd,F,F.fn.okD Dh (by walk_at "lE") fun cdv A outer s H E hr=>⟨_,(Ae (Ak 3 Dh.nd (Ac (dv 2) Ab)) (Ae (Ak 4 Dh.nd (Ac (dv 1) Ab)) (Ae (Ak 5 Dh.nd (Ac (dv 1) Ab)) (Ae (Ak 6 Dh.nd (Ce (Ao (Ac (dv 0) Ab) (dv 4)) (Ao (dv 3) (dv 3)))) (Ae (Ak 7 Dh.nd (Bu (Ao (Ac (dv 2) Ab) (Bu (Ag Ad G_half_of_middles (hr.mono (by decide)) rfl (Aa (dv 0) (Aa (dv 1) Af))) (dv 5))) (Ao (Ac (dv 2) Ab) (Ac (dv 1) Ab)))) (Ae (Ak 8 Dh.nd (Dr (BL (dv 5) (Ao (Ao Ab (Ce (dv 4) (dv 3))) (dv 7))) (Ao Ab (dv 6)))) (Ah (Aq (BK (Aa (dv 6) (Aa (dv 8) (Aa (Ce (Bu (Ao (dv 8) (dv 8)) (Ag Ad G_measure (hr.mono (by decide)) rfl (Aa (dv 0) Af))) (Ao Ab (dv 6))) Af)))))))))))),fun ds Q h=>?_⟩⟩
 obtain ⟨⟨⟨f,h⟩,g,j,k⟩,rfl,⟨hP,hC⟩,q⟩:=h
 have hP:Pair f h:=hP
 have hC:Common f h g j k:=hC
 have q':Q (t3 (jF f h g j k)):=q _ rfl
 have g0:0 < g:=by rw [hC.1];exact Nf (FN hP.kf)
 have bg:Bt 800 g:=by rw [hC.1];exact K3 (K3 hP.bf.1 hP.bh.1) (PB hP.bf hP.bh hP.m)
 have bs:=PB hP.bf hP.bh hP.m
 have h0:=hP.ja0 hC
 have hF:=hP.bF hC
 have hA:Bt 1400 (jA f h g):=by rw [hC.1];exact hP.bA
 have hB:Bt 1402 (jB f h g j k):=hF.2.1
 have two:Bt 2 2:=Bt.of_abs (by decide)
 have four:Bt 3 4:=Bt.of_abs (by decide)
 have bd:Bt 801 (h.1.fdiv g):=HX hP.bh.1 (by omega)
 have bj:=hC.2.2.1
 have bk:=hC.2.2.2
 have bm2:Bt 4803 (j*(jS f h - h.2.1) - k*h.2.2):=((bj.mul (bs.sub hP.bh.2.1)).sub ((bk.mul hP.bh.2.2).le (m:=4802) (by decide))).le (by decide)
 have A0:(f.1*h.1).fdiv (g*g)≠0:=h0
 walk_at "go"
 refine ⟨hP.bf.1.mulOk hP.bh.1,bg.mulOk bg,Bt.divOk (bg.mul bg) (Int.mul_ne_zero (by omega) (by omega)),Aj (f,h) trivial ⟨bj.mulOk (bs.sub hP.bh.2.1),bk.mulOk hP.bh.2.2,Bt.divOk bg (by omega),two.mulOk bd,(two.mul bd).mulOk bm2,two.mulOk hA,by omega,hB.mulOk hB,Aj f (hP.bf.le (by decide)) ⟨four.mulOk hA,Bt.divOk (four.mul hA) (by show 4*(f.1*h.1).fdiv (g*g)≠0;omega),Ba (by decide),q'⟩⟩⟩
noncomputable abbrev N5 (p q:I4):Dt:=.tup [t4 p,t4 q]
noncomputable abbrev Ky:DSp:=Ca (fun p:(I3 × I3) × I3=>[t3 p.1.1,t3 p.1.2,.int p.2.1,.int (jB p.1.1 p.1.2 p.2.1 p.2.2.1 p.2.2.2)]) (fun p=>Pair p.1.1 p.1.2∧Common p.1.1 p.1.2 p.2.1 p.2.2.1 p.2.2.2) fun p=>N5 (jP p.1.1 p.1.2 p.2.1 (jB p.1.1 p.1.2 p.2.1 p.2.2.1 p.2.2.2)) (jQ p.1.1 p.1.2 p.2.1)
theorem QZ (T:Txt K mg)
  (G_half_of_middles:Pm P w K mg base 1 "half_of_middles" Bp ["one","other"] Dy)
  (G_measure:Pm P w K mg base 1 "measure" CW ["form"] Ef)
  : Pm P w K mg base 2 "joint_rows" Em ["one","other","g","middle"] Ky:=by
 obtain ⟨f,fd,F⟩:=T.t_joint_rows
 refine ⟨f,fd,F,F.fn.okD Cw (by walk_at "lE") fun cdv A outer s H E hr=>⟨_,(Ae (Ak 4 Cw.nd (Ac (dv 0) Ab)) (Ae (Ak 5 Cw.nd (Ac (dv 0) Ab)) (Ae (Ak 6 Cw.nd (Ac (dv 1) Ab)) (Ae (Ak 7 Cw.nd (Ac (dv 1) Ab)) (Ae (Ak 8 Cw.nd (Ag Ad G_half_of_middles (hr.mono (by decide)) rfl (Aa (dv 0) (Aa (dv 1) Af)))) (Ae (Ak 9 Cw.nd (Ce (Ao (dv 2) (Bu (BL (Ao (dv 5) (dv 7)) (Ag Ad G_measure (hr.mono (by decide)) rfl (Aa (dv 0) Af))) (Ao (Ao Ab (dv 3)) (dv 8)))) (Ao (Ao Ab (dv 4)) (dv 6)))) (Ae (Ak 10 Cw.nd (BK (Aa (dv 2) (Aa (Ce (Ao (dv 2) (Bu (dv 7) (dv 3))) (Ao Ab (dv 6))) (Aa (Ce (Ao (dv 2) (Bu (dv 5) (dv 3))) (Ao Ab (dv 4))) (Aa (dv 9) Af)))))) (Ah (Aq (BK (Aa (dv 10) (Aa (BK (Aa Ab (Aa (Ce (dv 4) (dv 2)) (Aa (Ce (dv 6) (dv 2)) (Aa (Ce (dv 8) (dv 2)) Af))))) Af)))))))))))),fun ds Q h=>?_⟩⟩
 obtain ⟨⟨⟨f,h⟩,g,j,k⟩,rfl,⟨hP,hC⟩,q⟩:=h
 have hP:Pair f h:=hP
 have hC:Common f h g j k:=hC
 have q':Q (N5 (jP f h g (jB f h g j k)) (jQ f h g)):=q _ rfl
 have g0:0 < g:=by rw [hC.1];exact Nf (FN hP.kf)
 have bg:Bt 800 g:=by rw [hC.1];exact K3 (K3 hP.bf.1 hP.bh.1) (PB hP.bf hP.bh hP.m)
 have bs:=PB hP.bf hP.bh hP.m
 have hB:Bt 1402 (jB f h g j k):=(hP.bF hC).2.1
 have a0:=FN hP.kf
 have d0:=FN hP.kh
 have two:Bt 2 2:=Bt.of_abs (by decide)
 have four:Bt 3 4:=Bt.of_abs (by decide)
 walk_at "go"
 dsimp only at *
 generalize jB f h g j k=B at *
 have bme:Bt 2300 (f.2.1*h.2.1+meas f - 2*B*jS f h):=(((hP.bf.2.1.mul hP.bh.2.1).add (hP.bm.le (m:=1600) (by decide))).sub (((two.mul hB).mul bs).le (m:=2299) (by decide))).le (by decide)
 have n4:4*f.1*h.1≠0:=Int.mul_ne_zero (by omega) d0
 refine Aj (f,h) trivial ⟨hP.bf.2.1.mulOk hP.bh.2.1,Aj f (hP.bf.le (by decide)) ⟨two.mulOk hB,(two.mul hB).mulOk bs,bg.mulOk bme,four.mulOk hP.bf.1,(four.mul hP.bf.1).mulOk hP.bh.1,Bt.divOk ((four.mul hP.bf.1).mul hP.bh.1) n4,bg.mulOk ((hP.bh.2.1.le (m:=1402) (by decide)).sub hB),two.mulOk hP.bh.1,Bt.divOk (two.mul hP.bh.1) (by omega),bg.mulOk ((hP.bf.2.1.le (m:=1402) (by decide)).sub hB),two.mulOk hP.bf.1,Bt.divOk (two.mul hP.bf.1) (by omega),Ba (by decide),Bt.divOk bg (by omega),Bt.divOk bg (by omega),Bt.divOk bg (by omega),Ba (by decide),Ba (by decide),q'⟩⟩
theorem AhL {f h:I3} {g j k:Int} (hP:Pair f h) (hC:Common f h g j k):B4 9000 (jP f h g (jB f h g j k))∧B4 9000 (jQ f h g):=by
 have g0:0 < g:=by rw [hC.1];exact Nf (FN hP.kf)
 have bg:Bt 800 g:=by rw [hC.1];exact K3 (K3 hP.bf.1 hP.bh.1) (PB hP.bf hP.bh hP.m)
 have bs:=PB hP.bf hP.bh hP.m
 have hB:Bt 1402 (jB f h g j k):=(hP.bF hC).2.1
 have a0:=FN hP.kf
 have d0:=FN hP.kh
 have two:Bt 2 2:=Bt.of_abs (by decide)
 generalize jB f h g j k=B at *
 have bme:Bt 2300 (f.2.1*h.2.1+meas f - 2*B*jS f h):=(((hP.bf.2.1.mul hP.bh.2.1).add (hP.bm.le (m:=1600) (by decide))).sub (((two.mul hB).mul bs).le (m:=2299) (by decide))).le (by decide)
 have n4:4*f.1*h.1≠0:=Int.mul_ne_zero (by omega) d0
 exact ⟨⟨bg.le (by decide),(HX (bg.mul ((hP.bh.2.1.le (m:=1402) (by decide)).sub hB)) (by omega)).le (by decide),(HX (bg.mul ((hP.bf.2.1.le (m:=1402) (by decide)).sub hB)) (by omega)).le (by decide),(HX (bg.mul bme) n4).le (by decide)⟩,
  Bt.zero.le (by decide),(HX hP.bf.1 (by omega)).le (by decide),(HX hP.bh.1 (by omega)).le (by decide),(HX bs (by omega)).le (by decide)⟩
noncomputable def Amy (t:I4):Dt→Dt
 | .tup [.int x,.int y]=>t2 (HS t (x,y))
 | _=>.non
noncomputable def Am7:Dt→Dt
 | .tup [.int x,.int _]=>.int x
 | _=>.non
noncomputable def Aly:Dt→Dt
 | .tup [.int _,.int y]=>.int y
 | _=>.non
noncomputable abbrev Nr:DSp:=Ca (fun p:I4 × I4 × I4=>[t4 (Ar p.1),N5 p.2.1 p.2.2]) (fun p=>B4 90000 p.1∧det p.1=1∧B4 9000 p.2.1∧B4 9000 p.2.2) fun p=>N5 (MN p.2.1 p.2.2 p.1) (Ng p.2.1 p.2.2 p.1)
theorem Vn (T:Txt K mg)
  (G_led:Pm P w K mg base 3 "led" RL ["turn","point"] Abi)
  : Pm P w K mg base 4 "rows_led" Du ["turn","rows"] Nr:=by
 obtain ⟨f,fd,F⟩:=T.t_rows_led
 refine ⟨f,fd,F,F.fn.okD Nv (by walk_at "lE") fun cdv A outer s H E hr=>⟨_,(Ae (Abu 2 Nv.nd (Gh (sc:=Ai Du) (NN:=["turn","rows","pairs"]) (x:="pair") (N:=["turn"]) (sl:=[0]) rfl rfl (by decide +kernel)) rfl (Agd rfl T.z_zip (Aa (Ac (dv 1) Ab) (Aa (Ac (dv 1) Ab) Af))) (fun cl C s0 H0 ex=>(Ag Ad G_led (hr.mono (by decide)) rfl (Aa (dv 1) (Aa (dv 0) Af))))) (Ah (Aq (BK (Aa (R6 T.z_tuple (Aa (Yj (Gh (sc:=Ai Du) (NN:=["turn","rows","pairs"]) (x:="pair") (N:=[]) (sl:=[]) rfl rfl (by decide +kernel)) rfl (Jj (dv 2)) (fun cl C s0 H0 ex=>(Ac (dv 0) Ab))) Af)) (Aa (R6 T.z_tuple (Aa (Yj (Gh (sc:=Ai Du) (NN:=["turn","rows","pairs"]) (x:="pair") (N:=[]) (sl:=[]) rfl rfl (by decide +kernel)) rfl (Jj (dv 2)) (fun cl C s0 H0 ex=>(Ac (dv 0) Ab))) Af)) Af)))))),fun ds Q h=>?_⟩⟩
 obtain ⟨⟨t,⟨p0,p1,p2,p3⟩,q0,q1,q2,q3⟩,rfl,⟨bt,dt,bp,bq⟩,q⟩:=h
 have q':=q _ rfl
 have bt:B4 90000 t:=bt
 have dt:det t=1:=dt
 obtain ⟨p0b,p1b,p2b,p3b⟩:B4 9000 (p0,p1,p2,p3):=bp
 obtain ⟨q0b,q1b,q2b,q3b⟩:B4 9000 (q0,q1,q2,q3):=bq
 have bx:∀ x∈[(p0,q0),(p1,q1),(p2,q2),(p3,q3)],B2 300000 x:=fun x hx=>by
  simp only [List.mem_cons,List.not_mem_nil,or_false] at hx
  rcases hx with rfl | rfl | rfl | rfl
  ·exact ⟨p0b.le (by decide),q0b.le (by decide)⟩
  ·exact ⟨p1b.le (by decide),q1b.le (by decide)⟩
  ·exact ⟨p2b.le (by decide),q2b.le (by decide)⟩
  ·exact ⟨p3b.le (by decide),q3b.le (by decide)⟩
 walk_at "go"
 refine Kf ([(p0,q0),(p1,q1),(p2,q2),(p3,q3)].map t2) (Amy (Ar t)) (fun R hR=>?_) (Ba (by show 4≤1000;decide)) (Vo rfl Fj) (fun d hd R hR=>?_) ?_
 ·walk_at "rd"
  exact ⟨_,_,rfl,rfl,hR⟩
 ·obtain ⟨x,hx,rfl⟩:=List.mem_map.mp hd
  unfold inner
  walk_at "rd"
  exact Aj (Ar t,x) ⟨bt.back.le (by decide),by rw [Ec];exact dt,bx x hx⟩ hR
 refine Kf ([HS (Ar t) (p0,q0),HS (Ar t) (p1,q1),HS (Ar t) (p2,q2),HS (Ar t) (p3,q3)].map t2) Am7 (fun R hR=>hR) (Ba (by show 4≤1000;decide)) Fj (fun d hd R hR=>?_) ?_
 ·obtain ⟨x,hx,rfl⟩:=List.mem_map.mp hd
  unfold inner
  walk_at "rd"
  exact hR
 refine ⟨_,rfl,Kf ([HS (Ar t) (p0,q0),HS (Ar t) (p1,q1),HS (Ar t) (p2,q2),HS (Ar t) (p3,q3)].map t2) Aly (fun R hR=>hR) (Ba (by show 4≤1000;decide)) Fj (fun d hd R hR=>?_) ?_⟩
 ·obtain ⟨x,hx,rfl⟩:=List.mem_map.mp hd
  unfold inner
  walk_at "rd"
  exact hR
 refine ⟨_,rfl,Ba (by decide),?_⟩
 have e:N5 (MN (p0,p1,p2,p3) (q0,q1,q2,q3) t) (Ng (p0,p1,p2,p3) (q0,q1,q2,q3) t)=Dt.tup [Dt.tup ([HS (Ar t) (p0,q0),HS (Ar t) (p1,q1),HS (Ar t) (p2,q2),HS (Ar t) (p3,q3)].map fun x=>Dt.int x.1),Dt.tup ([HS (Ar t) (p0,q0),HS (Ar t) (p1,q1),HS (Ar t) (p2,q2),HS (Ar t) (p3,q3)].map fun x=>Dt.int x.2)]:=by
  obtain ⟨a,b,c,d⟩:=t
  simp only [N5,MN,Ng,HS,Ar,List.map_cons,List.map_nil,T4,Dt.tup.injEq,List.cons.injEq,Dt.int.injEq,and_true]
  refine ⟨⟨?_,?_,?_,?_⟩,?_,?_,?_,?_⟩ <;> grind
 dsimp only at q'
 rw [e] at q'
 exact q'
noncomputable def AbR (f h:I3) (d:Dt):Prop:=∃ (F G:I3) (p q:I4),Comp f h F∧LF F G∧FA p q=f∧FB p q=h∧FC p q=G∧d=.tup [t3 G,N5 p q]∧B4 110000 p∧B4 110000 q
noncomputable abbrev Ji:DSp:=spec (fun p:I3 × I3=>[t3 p.1,t3 p.2]) (fun p=>Pair p.1 p.2) fun p d=>AbR p.1 p.2 d
theorem Xq (T:Txt K mg)
  (GM_least:PmM P w K mg base 1 ["Bowl","Saddle"] "least" J3)
  (G_check_pair:Pm P w K mg base 11 "check_pair" Er ["one","other"] Kp)
  (G_common_shares:Pm P w K mg base 3 "common_shares" CV ["one","other"] IK)
  (G_joint_form:Pm P w K mg base 2 "joint_form" Et ["one","other","common"] Kq)
  (G_rows_led:Pm P w K mg base 4 "rows_led" Du ["turn","rows"] Nr)
  (G_shape_of:Pm P w K mg base 10 "shape_of" Dk ["form"] Fp)
  (G_back:Pm P w K mg base 3 "back" Ms ["turn"] X6)
  (G_joint_rows:Pm P w K mg base 2 "joint_rows" Em ["one","other","g","middle"] Ky)
  : Pm P w K mg base 12 "product" Gu ["one","other"] Ji:=by
 obtain ⟨f,fd,F⟩:=T.t_product
 refine ⟨f,fd,F,F.fn.okD Jt (by walk_at "lE") fun cdv A outer s H E hr=>⟨_,(Ae (CK (Ag Ad G_check_pair (hr.mono (by decide)) rfl (Aa (dv 0) (Aa (dv 1) Af)))) (Ae (Ak 2 Jt.nd (Ag Ad G_common_shares (hr.mono (by decide)) rfl (Aa (dv 0) (Aa (dv 1) Af)))) (Ae (Ak 3 Jt.nd (Ag Ad G_joint_form (hr.mono (by decide)) rfl (Aa (dv 0) (Aa (dv 1) (Aa (dv 2) Af))))) (Ae (Ak 4 Jt.nd (MF Ad GM_least (hr.mono (by decide)) (Ag Ad G_shape_of (hr.mono (by decide)) rfl (Aa (dv 3) Af)))) (Ah (Aq (BK (Aa (Ac (dv 4) Ab) (Aa (Ag Ad G_rows_led (hr.mono (by decide)) rfl (Aa (Ag Ad G_back (hr.mono (by decide)) rfl (Aa (Ac (dv 4) Ab) Af)) (Aa (Ag Ad G_joint_rows (hr.mono (by decide)) rfl (Aa (dv 0) (Aa (dv 1) (Aa (Ac (dv 2) Ab) (Aa (Ac (dv 3) Ab) Af))))) Af))) Af))))))))),fun ds Q h=>?_⟩⟩
 obtain ⟨⟨f,h⟩,rfl,hP,q⟩:=h
 have hP:Pair f h:=hP
 have q:∀ d,AbR f h d→Q d:=q
 walk_at "go"
 refine Aj (f,h) hP (Av (f,h) hP ?_)
 rintro _ ⟨g,j,k,rfl,hC⟩
 have hC:Common f h g j k:=hC
 refine Aj ((f,h),g,j,k) ⟨hP,hC⟩ ?_
 dsimp only
 have bF:=hP.bF hC
 have kF:=hP.kind hC
 have cF:=hP.comp hC
 obtain ⟨j1,j2,j3⟩:=hP.joint hC
 have jb:=AhL hP hC
 refine Av (jF f h g j k) ⟨bF.le (by decide),kF⟩ ?_
 rintro _ ho
 obtain ⟨c,l,hc,rfl,h1⟩:=Ud ho
 obtain ⟨G,t,rfl,L,dt,mt,bt⟩:=AjY h1
 have cm:c∈([Str.ofString "Bowl",Str.ofString "Saddle"]:List Str):=by rcases hc with e | e <;> rw [e] <;> simp
 refine ⟨⟨cm,by decide⟩,Aj (c,_,_) hc ?_⟩
 walk_at "rd"
 refine Aj t ⟨bt.le (by decide),dt⟩ (Aj ((f,h),g,j,k) ⟨hP,hC⟩ (Aj (t,jP f h g (jB f h g j k),jQ f h g) ⟨bt,dt,jb.1,jb.2⟩ ⟨Ba (by decide),q _ ?_⟩))
 dsimp only
 generalize jP f h g (jB f h g j k)=p at *
 generalize jQ f h g=r at *
 refine ⟨_,G,MN p r t,Ng p r t,cF,L,by rw [AjI dt,j1],by rw [AkY dt,j2],by rw [Agg,j3,mt],rfl,?_,?_⟩
 ·obtain ⟨⟨a1,a2,a3,a4⟩,b1,b2,b3,b4⟩:=jb
  obtain ⟨t1,t2,t3,t4⟩:=bt
  exact ⟨((t4.mul a1).sub (t2.mul b1)).le (by decide),((t4.mul a2).sub (t2.mul b2)).le (by decide),((t4.mul a3).sub (t2.mul b3)).le (by decide),((t4.mul a4).sub (t2.mul b4)).le (by decide)⟩
 ·obtain ⟨⟨a1,a2,a3,a4⟩,b1,b2,b3,b4⟩:=jb
  obtain ⟨t1,t2,t3,t4⟩:=bt
  exact ⟨((t1.mul b1).sub (t3.mul a1)).le (by decide),((t1.mul b2).sub (t3.mul a2)).le (by decide),((t1.mul b3).sub (t3.mul a3)).le (by decide),((t1.mul b4).sub (t3.mul a4)).le (by decide)⟩
noncomputable def Br (D:Int):I3:=(1,D.fmod 4,(D.fmod 4 - D).fdiv 4)
structure Jb (D:Int):Prop where
 r:D % 4=0∨D % 4=1
 n:¬ Hs D
 m:D≤4000
 b:Bt 600 D
theorem Jb.meas {D:Int} (h:Jb D):My.meas (Br D)=D:=by
 have e:D.fmod 4=D % 4:=Int.fmod_eq_emod_of_nonneg _ (by decide)
 unfold Br
 rw [e]
 have e2:(D % 4 - D).fdiv 4=(D % 4 - D) / 4:=Int.fdiv_eq_ediv_of_nonneg _ (by decide)
 rw [e2]
 show D % 4*(D % 4) - 4*1*((D % 4 - D) / 4)=D
 rcases h.r with z | z <;> rw [z] <;> omega
theorem Jb.kind {D:Int} (h:Jb D):Bo (Br D)∨Sad (Br D):=by
 have hm:=h.meas
 rcases Int.lt_or_le D 0 with z | z
 ·exact .inl ⟨by show (0:Int) < 1;decide,by rw [hm];exact z⟩
 ·have:D≠0:=fun e=>h.n ⟨0,by rw [e];rfl⟩
  exact .inr ⟨by rw [hm];exact h.n,by rw [hm];omega,by rw [hm];exact h.m⟩
theorem Jb.bt {D:Int} (h:Jb D):B3 603 (Br D):=by
 have r:=FQ D (m:=4) (by decide)
 have b:=h.b
 refine ⟨Bt.one.le (by decide),Bt.of (show -(2 ^ 603) < D.fmod 4 by omega) (show D.fmod 4 < 2 ^ 603 by omega),?_⟩
 show Bt 603 ((D.fmod 4 - D).fdiv 4)
 rw [Int.fdiv_eq_ediv_of_nonneg _ (by decide)]
 have e:(2:Nat) ^ 603=8*2 ^ 600:=by decide +kernel
 unfold Bt at *
 omega
noncomputable abbrev Gs:DSp:=Ca (fun D:Int=>[.int D]) (fun D=>Jb D) fun _=>.non
theorem Nm (T:Txt K mg)
  (G_is_square:Pm P w K mg base 2 "is_square" Eh ["number"] Jh)
  : Pm P w K mg base 3 "check_measure" Cj ["number"] Gs:=by
 obtain ⟨f,fd,F⟩:=T.t_check_measure
 refine ⟨f,fd,F,F.fn.okD Mx (by walk_at "lE") fun cdv A outer s H E hr=>⟨_,(Ah (Ci (DW.dt (RQ (NK (Dr (dv 0) Ab) Ab) (Qg (Ht (Ag Ad G_is_square (hr.mono (by decide)) rfl (Aa (dv 0) Af)))))) (Ah FW) Bg)),fun ds Q h=>?_⟩⟩
 obtain ⟨D,rfl,hD,q⟩:=h
 have hD:Jb D:=hD
 have q':=q _ rfl
 have e:D.fmod 4=D % 4:=Int.fmod_eq_emod_of_nonneg _ (by decide)
 walk_at "go"
 have hr:=hD.r
 refine ⟨by decide,Ft (decide_eq_false (by omega)) (Av D (hD.b.le (by decide)) ?_)⟩
 rintro _ ⟨k,rfl,hk⟩
 cases k with
 | true=>exact absurd (hk.mp rfl) hD.n
 | false=>exact Ft rfl q'
noncomputable abbrev Oo:DSp:=spec (fun D:Int=>[.int D]) (fun D=>Jb D) fun D d=>∃ g,d=t3 g∧LF (Br D) g
theorem Aep (T:Txt K mg)
  (G_check_measure:Pm P w K mg base 3 "check_measure" Cj ["number"] Gs)
  (G_check_at_most:Pm P w K mg base 1 "check_at_most" Cm ["number","most"] Gj)
  (G_least_of:Pm P w K mg base 11 "least_of" Fi ["form"] JF)
  : Pm P w K mg base 12 "unit" JL ["number"] Oo:=by
 obtain ⟨f,fd,F⟩:=T.t_unit
 obtain ⟨t_MOST_MEASURE,m_MOST_MEASURE⟩:=T.m_MOST_MEASURE
 refine ⟨f,fd,F,F.fn.okD X8 (by walk_at "lE") fun cdv A outer s H E hr=>⟨_,(Ae (CK (Ag Ad G_check_measure (hr.mono (by decide)) rfl (Aa (dv 0) Af))) (Ae (CK (Ag Ad G_check_at_most (hr.mono (by decide)) rfl (Aa (dv 0) (Aa (Jp (v:=.int (4000)) (d:=.int (4000)) rfl m_MOST_MEASURE ⟨_,rfl⟩ (fun _=>Bc.mpr rfl)) Af)))) (Ae (Ak 1 X8.nd (Dr (dv 0) Ab)) (Ah (Aq (Ag Ad G_least_of (hr.mono (by decide)) rfl (Aa (BK (Aa Ab (Aa (dv 1) (Aa (Ce (Bu (dv 1) (dv 0)) Ab) Af)))) Af))))))),fun ds Q h=>?_⟩⟩
 obtain ⟨D,rfl,hD,q⟩:=h
 have hD:Jb D:=hD
 have q:∀ d,(∃ g,d=t3 g∧LF (Br D) g)→Q d:=q
 walk_at "go"
 refine Aj D hD (Aj (D,4000) hD.m ⟨by decide,⟨by decide,by decide⟩,Ba (by decide),Av (Br D) ⟨hD.bt.le (by decide),hD.kind⟩ q⟩)
theorem Vx (ds:List Dt) (k:Nat) (h:k≤ds.length):cutD ds (some (k:Int)) none=ds.drop k:=by
 unfold cutD
 rw [HT.Yr,HT.V9,Nat.min_eq_left h,List.take_of_length_le (by rw [List.length_drop];omega)]
theorem AaX (ds:List Dt) (k:Nat) (h:k≤ds.length):cutD ds none (some (k:Int))=ds.take k:=by
 unfold cutD
 rw [HT.Yr,HT.V9,Nat.min_eq_left h,List.drop_zero,Nat.sub_zero]
theorem LF.btn {f g:I3} {n:Nat} (L:LF f g) (h:Bt n (meas f)) (hn:7≤n):B3 n g:=by
 rcases L with ⟨_,t,dt,L,rfl⟩ | ⟨hS,t0,far,N,j,R,_,_,rfl⟩
 ·exact L.bt (by rw [Bs dt];exact h)
 ·have hv:=Lv.rF j R.v
  exact (V8 hv.S hv.r hv.L).le hn
theorem LF.turn {f g:I3} (L:LF f g):∃ x,det x=1∧mov f x=g:=by
 rcases L with ⟨_,t,dt,_,rfl⟩ | ⟨_,t0,far,N,j,R,_,_,rfl⟩
 ·exact ⟨t,dt,rfl⟩
 ·exact ⟨Am t0 (rT far j (mov f t0)),by rw [Cq,R.d,Lb];rfl,by rw [←Bk,Ea]⟩
noncomputable def Kd (s:Bool) (f:I3):Prop:=(s=true→Bo f)∧(s=false→Sad f)
theorem Kd.kind {s:Bool} {f:I3} (h:Kd s f):Bo f∨Sad f:=by
 cases s with
 | true=>exact .inl (h.1 rfl)
 | false=>exact .inr (h.2 rfl)
theorem Kd.of {s:Bool} {f g:I3} (h:Kd s f) (m:meas g=meas f) (p:s=true→0 < g.1):Kd s g :=
 ⟨fun z=>⟨p z,by rw [m];exact (h.1 z).2⟩,fun z=>⟨by rw [m];exact (h.2 z).no,by rw [m];exact (h.2 z).pos,by rw [m];exact (h.2 z).most⟩⟩
theorem Abs {f:I3} {t:I4} (h:Bo f∨Sad f) (dt:det t=1):Bo (mov f t)∨Sad (mov f t):=by
 rcases h with h | h
 ·exact .inl (Ln h dt)
 ·exact .inr (h.mov dt)
theorem Ai7 {f h:I3} {n m:Nat} (bf:Bt n f.1) (bh:Bt m h.1) (ha:f.1≠0):Bt (n+m) (jA f h (gJ f h)):=by
 have g0:=Nf (h:=h) ha
 obtain ⟨x,hx⟩:=(K8 (f:=f) (h:=h)).1
 obtain ⟨y,hy⟩:=(K8 (f:=f) (h:=h)).2.1
 have e:f.1*h.1=gJ f h*gJ f h*(x*y):=by
  have:f.1*h.1=(gJ f h*x)*(gJ f h*y):=by rw [←hx,←hy]
  rw [this];grind
 unfold jA
 rw [e,Int.mul_fdiv_cancel_left _ (Int.mul_ne_zero (by omega) (by omega))]
 refine RP (b:=gJ f h*gJ f h) ?_ (Int.mul_ne_zero (by omega) (by omega))
 rw [Int.mul_comm,←e]
 exact bf.mul bh
theorem Pair.of {f h:I3} (bf:B3 690 f) (bh:B3 690 h) (kf:Bo f∨Sad f) (kh:Bo h∨Sad h) (m:meas f=meas h) (pf:g3 f=1) (ph:g3 h=1) (bm:Bt 600 (meas f)):Pair f h :=
 ⟨bf.le (by decide),bh.le (by decide),kf,kh,m,pf,ph,bm,(Ai7 bf.1 bh.1 (FN kf)).le (by decide)⟩
theorem Qq {sl:List Nat} {ti:DTI} {tt:DTT} {te:DTE} {ρ:BX} {Q:Dt→Prop} (h:ti ρ fun items=>Jc sl (fun _ R=>R items) tt te ρ Q):Jc sl ti tt te ρ Q:=h
noncomputable def Bh (far:Int) (g:I3) (N:Nat):List (List Int):=(List.range N).map fun i=>HJ (rF far (i+1) g)
theorem U6 {far:Int} {g:I3} {N:Nat} (hv:Lv far g) (l:∀ j,0 < j→j < N→rF far j g≠g) {i j:Nat} (hij:i < j) (hj:j < N):rF far (i+1) g≠rF far (j+1) g:=fun e=>by
 have e2:rF far (j+1) g=rF far (i+1) (rF far (j - i) g):=by rw [←Cr,show j - i+(i+1)=j+1 by omega]
 rw [e2] at e
 have:=Kl (i+1) hv (Lv.rF (j - i) hv) (Je (j - i) g).symm e
 exact l (j - i) (by omega) (by omega) this.symm
theorem Za (f g:I3):HT.lexLt (HJ f) (HJ g)=true↔f.1 < g.1∨(f.1=g.1∧(f.2.1 < g.2.1∨(f.2.1=g.2.1∧f.2.2 < g.2.2))):=by
 unfold HJ
 rw [HT.Fl,HT.Fl,HT.Fl,HT.Gy]
 split
 ·split
  ·split
   ·simp;omega
   ·simp;omega
  ·simp;omega
 ·simp;omega
noncomputable abbrev AgO (far:Int) (z:I3) (N:Nat):Dt:=.lst ((List.range N).map fun i=>t3 (rF far i z))
noncomputable abbrev Nu:DSp:=spec (fun f:I3=>[t3 f]) (fun f=>B3 1500 f∧Sad f) fun f d=>∃ t0 far N k,Ju f t0 far N∧k < N∧(∀ i,i < N→HT.lexLt (HJ (rF far (i+1) (mov f t0))) (HJ (rF far (k+1) (mov f t0)))=false)∧d=AgO far (rF far (k+1) (mov f t0)) N
theorem Uu (T:Txt K mg)
  (G_check_saddle:Pm P w K mg base 4 "check_saddle" Cd ["form"] Fd)
  (G_stops_round:Pm P w K mg base 6 "stops_round" Di ["form"] HF)
  : Pm P w K mg base 7 "round_of" Fg ["form"] Nu:=by
 obtain ⟨f,fd,F⟩:=T.t_round_of
 refine ⟨f,fd,F,F.fn.okD JC (by walk_at "lE") fun cdv A outer s H E hr=>⟨_,(Ae (CK (Ag Ad G_check_saddle (hr.mono (by decide)) rfl (Aa (dv 0) Af))) (Ae (AcV 1 JC.nd (Gh (sc:=Ai Fg) (NN:=["form","forms","place"]) (x:="stop") (N:=[]) (sl:=[]) rfl rfl (by decide +kernel)) rfl (Jj (UG (Ag Ad G_stops_round (hr.mono (by decide)) rfl (Aa (dv 0) Af)) (Ls Ab) TJ)) (fun cl C s0 H0 ex=>(Ac (dv 0) Ab))) (Ae (Ak 2 JC.nd (ZW 1 hr.units (AhF hr.units) (Acy T.z_min (AgF hr.units) (Aa (dv 1) Af)))) (Ah (Aq (DF.de (AgA (Uv (dv 1) (Ls (dv 2)) TJ) (Uv (dv 1) TJ (Ls (dv 2)))))))))),fun ds Q h=>?_⟩⟩
 obtain ⟨f,rfl,⟨hb,hS⟩,q⟩:=h
 have hS:Sad f:=hS
 have hb:B3 1500 f:=hb
 walk_at "go"
 refine Aj f ⟨hb,hS⟩ (Qq ?_)
 walk_at "rd"
 refine Av f ⟨hb,hS⟩ ?_
 rintro _ ⟨t0,far,N,R,rfl⟩
 walk_at "rd"
 have n0:=R.n
 have nm:=R.m
 have ec:cutD ((List.range (N+1)).map (Ew f t0 far)) (some 1) none=(List.range N).map fun i=>Ew f t0 far (i+1):=by
  have:=Vx ((List.range (N+1)).map (Ew f t0 far)) 1 (by rw [List.length_map,List.length_range];omega)
  refine this.trans ?_
  rw [List.range_succ_eq_map,List.map_cons,List.drop_succ_cons,List.drop_zero,List.map_map]
  rfl
 rw [ec]
 have hl:∀ {α:Type} (F:Nat→α),((List.range N).map F).length=N:=fun F=>by rw [List.length_map,List.length_range]
 refine Kf _ (fun d=>match d with | .tup (a :: _)=>a | _=>.non) (fun R h=>h) (by rw [hl];exact Nat.le_of_lt (Ti (by omega))) Fj (fun d hd R hR=>?_) ?_
 ·obtain ⟨i,_,rfl⟩:=List.mem_map.mp hd
  unfold inner
  walk_at "rd"
  exact hR
 have en:((List.range N).map fun i=>Ew f t0 far (i+1)).map (fun d=>match d with | .tup (a :: _)=>a | _=>.non)=(Bh far (mov f t0) N).map Dn:=by
  unfold Bh
  rw [List.map_map,List.map_map]
  rfl
 rw [en]
 have lr:(Bh far (mov f t0) N).length=N:=hl _
 have kl:Jg (Bh far (mov f t0) N) < N:=by
  have:=K6 (fun i j=>HT.lexLt ((Bh far (mov f t0) N).getD i []) ((Bh far (mov f t0) N).getD j [])) ((Bh far (mov f t0) N).length - 1)
  rw [lr] at this
  unfold Jg
  rw [lr]
  omega
 have at':∀ i,i < N→(Bh far (mov f t0) N).getD i []=HJ (rF far (i+1) (mov f t0)):=fun i hi=>by
  unfold Bh
  simp [List.getD,hi]
 have least:∀ i,i < N→HT.lexLt (HJ (rF far (i+1) (mov f t0))) (HJ (rF far (Jg (Bh far (mov f t0) N)+1) (mov f t0)))=false:=fun i hi=>by
  have cs:∀ n:Nat,(∃ h:I3,(Bh far (mov f t0) N).getD n []=HJ h)∨(Bh far (mov f t0) N).getD n []=[]:=fun n=>by
   rcases Nat.lt_or_ge n N with z | z
   ·exact .inl ⟨_,at' n z⟩
   ·exact .inr (by simp [Bh,List.getD,z])
  have un:Jg (Bh far (mov f t0) N)=argBest (fun i j=>HT.lexLt ((Bh far (mov f t0) N).getD i []) ((Bh far (mov f t0) N).getD j [])) ((Bh far (mov f t0) N).length - 1):=rfl
  rw [←at' i hi,←at' _ kl,un]
  refine Gw (fun i j=>HT.lexLt ((Bh far (mov f t0) N).getD i []) ((Bh far (mov f t0) N).getD j [])) (fun a=>?_) (fun a b c h1 h2=>?_) _ i (by omega)
  ·rcases cs a with ⟨h,e⟩ | e
   ·rw [e]
    exact Bool.eq_false_iff.mpr fun z=>by have:=(Za h h).mp z;omega
   ·rw [e];rfl
  ·rcases cs a with ⟨x,ea⟩ | ea <;> rcases cs b with ⟨y,eb⟩ | eb <;> rcases cs c with ⟨z,ec'⟩ | ec' <;> rw [ea,eb] at h1 <;> rw [eb,ec'] at h2 <;> rw [ea,ec']
   ·have a1:=(Za _ _).mp h1
    have a2:=(Za _ _).mp h2
    exact (Za _ _).mpr (by omega)
   all_goals first | rfl | (cases h1;done) | (cases h2;done)
 generalize hk:Jg (Bh far (mov f t0) N)=k at *
 refine ⟨Bh far (mov f t0) N,rfl,?_⟩
 walk_at "rd"
 refine ⟨Bh far (mov f t0) N,rfl,by omega,by rw [hk,lr];exact kl,?_⟩
 rw [hk]
 have dl:((Bh far (mov f t0) N).map Dn).length=N:=by rw [List.length_map,lr]
 refine ⟨_,k,rfl,by omega,rfl,fun m hm e=>?_,?_⟩
 ·rw [at' m (by omega),at' k kl] at e
  unfold HJ at e
  simp only [List.cons.injEq,and_true] at e
  exact U6 R.v R.l hm kl (Prod.ext e.1 (Prod.ext e.2.1 e.2.2))
 ·rw [Vx _ k (by omega),AaX _ k (by omega)]
  have er:=congrArg (List.map t3) (rotate R.e kl)
  have e5:((Bh far (mov f t0) N).map Dn).drop k ++ ((Bh far (mov f t0) N).map Dn).take k=(List.range N).map fun i=>t3 (rF far i (rF far (k+1) (mov f t0))):=by
   have e6:(Bh far (mov f t0) N).map Dn=((List.range N).map fun i=>rF far (i+1) (mov f t0)).map t3:=by
    unfold Bh
    rw [List.map_map,List.map_map]
    rfl
   rw [e6,←List.map_drop,←List.map_take,←List.map_append,rotate R.e kl,List.map_map]
   rfl
  rw [e5]
  refine ⟨?_,q _ ⟨t0,far,N,k,R,kl,least,rfl⟩⟩
  rw [List.length_drop,List.length_take,dl]
  have:=Ti (n:=N) (by omega)
  omega
noncomputable abbrev GF:DSp:=Ca (fun p:I2=>[.int p.1,.int p.2]) (fun p=>(p.1.natAbs:Int)≤p.2) fun _=>.non
theorem N8 (T:Txt K mg)
  : Pm P w K mg base 1 "check_within" Cz ["number","most"] GF:=by
 obtain ⟨f,fd,F⟩:=T.t_check_within
 refine ⟨f,fd,F,F.fn.okD Oe (by walk_at "lE") fun cdv A outer s H E hr=>⟨_,(Ah (Ci (NK (QC T.z_abs (Aa (dv 0) Af)) (dv 1)) (Ah FW) Bg)),fun ds Q h=>?_⟩⟩
 obtain ⟨⟨n,m⟩,rfl,h0,q⟩:=h
 have h0:(n.natAbs:Int)≤m:=h0
 walk_at "go"
 exact Ft (decide_eq_false (by omega)) (q _ rfl)
theorem JD {n:Nat} (h:n≤20000):n < PySem.sizeLine:=by unfold PySem.sizeLine;omega
theorem O9 {sl:List Nat} {ti:DTI} {tt:DTT} {te:DTE} {ρ:BX} {Q:Dt→Prop} (fs:List I3) (p:I3→Bool) (hi:∀ R:List Dt→Prop,R (fs.map t3)→ti ρ R) (hl:fs.length≤20000) (hc:caught sl ρ)
  (ht:∀ f∈fs,∀ R:Bool→Prop,R (p f)→tt (inner sl ρ (t3 f)) R) (he:∀ f∈fs,∀ R:Dt→Prop,R (t3 f)→te (inner sl ρ (t3 f)) R) (hq:Q (.lst ((fs.filter p).map t3))):Jc sl ti tt te ρ Q:=by
 refine Mg (fs.map t3) (fun d=>match d with | .tup [.int a,.int b,.int c]=>p (a,b,c) | _=>false) id hi (by rw [List.length_map];exact Nat.le_of_lt (JD hl)) hc (fun d hd R hR=>?_) (fun d hd _ R hR=>?_) ?_
 ·obtain ⟨f,hf,rfl⟩:=List.mem_map.mp hd
  exact ht f hf R hR
 ·obtain ⟨f,hf,rfl⟩:=List.mem_map.mp hd
  exact he f hf R hR
 ·rw [List.filter_map,List.map_id]
  exact hq
structure PG (n most:Int) (k j:Nat) (fs:List I3):Prop where
 srt:Srt fs
 mem:∀ f,f∈fs↔f.1≠0∧-most≤f.1∧(f.1 < -most+k∨(f.1=-most+k∧f.2.1 < -most+j))∧(-most≤f.2.1∧f.2.1≤most)∧meas f=n
 len:fs.length≤127*k+j
theorem PG.start {n most:Int}:PG n most 0 0 []:=⟨List.Pairwise.nil,fun f=>by
 constructor
 ·intro z
  cases z
 ·rintro ⟨_,h1,h2,h3,_⟩
  omega,Nat.zero_le _⟩
theorem PG.row {n most:Int} {k j:Nat} {fs:List I3} (h:PG n most k j fs) (hj:-most+j=most+1) (hm:most≤63):PG n most (k+1) 0 fs:=⟨h.srt,fun f=>by
 rw [h.mem f]
 constructor
 ·rintro ⟨h0,h1,h2,h3,h4⟩
  exact ⟨h0,h1,by omega,h3,h4⟩
 ·rintro ⟨h0,h1,h2,h3,h4⟩
  exact ⟨h0,h1,by omega,h3,h4⟩,by have:=h.len;omega⟩
theorem PG.skip {n most a b:Int} {k j:Nat} {fs:List I3} (h:PG n most k j fs) (ha:-most+k=a) (hb:-most+j=b) (no:∀ c,a≠0→b*b - n=4*a*c→False):PG n most k (j+1) fs:=⟨h.srt,fun f=>by
 rw [h.mem f]
 constructor
 ·rintro ⟨h0,h1,h2,h3,h4⟩
  exact ⟨h0,h1,by omega,h3,h4⟩
 ·rintro ⟨h0,h1,h2,h3,h4⟩
  refine ⟨h0,h1,?_,h3,h4⟩
  rcases Int.lt_or_le f.1 a with z | z
  ·exact .inl (by omega)
  ·refine .inr ⟨by omega,?_⟩
   rcases Int.lt_or_le f.2.1 b with y | y
   ·omega
   ·exfalso
    have e1:f.1=a:=by omega
    have e2:f.2.1=b:=by omega
    have h4:f.2.1*f.2.1 - 4*f.1*f.2.2=n:=h4
    rw [e1,e2] at h4
    exact no f.2.2 (by omega) (by omega),by have:=h.len;omega⟩
theorem PG.add {n most a b c:Int} {k j:Nat} {fs:List I3} (h:PG n most k j fs) (ha:-most+k=a) (hb:-most+j=b) (hb2:b≤most) (a0:a≠0) (e:b*b - n=4*a*c):PG n most k (j+1) (fs ++ [(a,b,c)]):=by
 refine ⟨List.pairwise_append.mpr ⟨h.srt,List.pairwise_singleton _ _,fun g hg x hx=>?_⟩,fun f=>?_,by rw [List.length_append,List.length_singleton];have:=h.len;omega⟩
 ·rw [List.mem_singleton.mp hx]
  obtain ⟨_,_,h2,_⟩:=(h.mem g).mp hg
  unfold lt3
  show g.1 < a∨(g.1=a∧(g.2.1 < b∨_))
  omega
 ·rw [List.mem_append,List.mem_singleton,h.mem f]
  constructor
  ·rintro (⟨h0,h1,h2,h3,h4⟩ | rfl)
   ·exact ⟨h0,h1,by omega,h3,h4⟩
   ·refine ⟨a0,by show -most≤a;omega,.inr ⟨by show a=_;omega,by show b < _;omega⟩,⟨by show -most≤b;omega,hb2⟩,?_⟩
    show b*b - 4*a*c=n
    omega
  ·rintro ⟨h0,h1,h2,h3,h4⟩
   by_cases z:f.1=a∧f.2.1=b
   ·right
    have h4:f.2.1*f.2.1 - 4*f.1*f.2.2=n:=h4
    rw [z.1,z.2] at h4
    have e3:4*a*f.2.2=4*a*c:=by omega
    have e4:=Int.eq_of_mul_eq_mul_left (by omega) e3
    exact Prod.ext z.1 (Prod.ext z.2 e4)
   ·left
    exact ⟨h0,h1,by omega,h3,h4⟩
noncomputable abbrev Hq:DSp:=spec (fun p:I2=>[.int p.1,.int p.2]) (fun p=>Bt 20 p.1∧0≤p.2∧p.2≤63) fun p d=>∃ fs:List I3,d=.lst (fs.map t3)∧Srt fs∧(∀ f,f∈fs↔PF p.1 p.2 f)∧fs.length≤16200
theorem Qz (T:Txt K mg)
  (G_content:Pm P w K mg base 2 "content" Gq ["form"] K7)
  : Pm P w K mg base 3 "plain_forms" Cu ["number","most"] Hq:=by
 obtain ⟨f,fd,F⟩:=T.t_plain_forms
 refine ⟨f,fd,F,F.fn.okD Gg (by walk_at "lE") fun cdv A outer s H E hr=>⟨_,(Ae (Sx 2 Gg.nd Af) (Ae (JQ PassesOwn.never rfl (Yk rfl T.z_range (Aa (Ek (dv 1)) (Aa (BL (dv 1) Ab) Af))) (Cg 3 Gg.nd) (Ah (JQ PassesOwn.never rfl (Yk rfl T.z_range (Aa (Ek (dv 1)) (Aa (BL (dv 1) Ab) Af))) (Cg 4 Gg.nd) (Ah (Ci (DW.dt (XQ (Ie hr.units (dv 3) Ab) (SJ (Jx hr.units (Dr (Bu (Ao (dv 4) (dv 4)) (dv 0)) (Ao Ab (dv 3))) Ab)))) (Ah (Pq 2 (BK (Aa (dv 3) (Aa (dv 4) (Aa (Ce (Bu (Ao (dv 4) (dv 4)) (dv 0)) (Ao Ab (dv 3))) Af)))))) Bg))))) (Ah (Uc 2 (Aq (Ph (Gh (sc:=Ai Cu) (NN:=["number","most","found","a","b"]) (x:="form") (N:=[]) (sl:=[]) rfl rfl (by decide +kernel)) rfl (Jj (dv 2)) (fun cl C s0 H0 ex=>(Jx hr.units (Ag Ad G_content (hr.mono (by decide)) rfl (Aa (dv 0) Af)) Ab)) (fun cl C s0 H0 ex=>(dv 0)))))))),fun ds Q h=>?_⟩⟩
 obtain ⟨⟨n,most⟩,rfl,⟨bn,m0,m6⟩,q⟩:=h
 have bn:Bt 20 n:=bn
 have m0:0≤most:=m0
 have m6:most≤63:=m6
 have q:∀ d,(∃ fs:List I3,d=.lst (fs.map t3)∧Srt fs∧(∀ f,f∈fs↔PF n most f)∧fs.length≤16200)→Q d:=q
 have four:Bt 3 4:=Bt.of_abs (by decide)
 have in7:∀ {k:Nat},k < (most+1 - -most).toNat→Bt 7 (-most+k)∧-most+(k:Int)≤most:=fun {k} h=>⟨Bt.of (by omega) (by omega),by omega⟩
 have rng:(-(2 ^ 62)≤-most∧-most < 2 ^ 62∧-(2 ^ 62)≤most+1∧most+1 < 2 ^ 62):=by omega
 have cnt:((most+1 - -most).toNat:Int)=2*most+1:=by omega
 walk_at "go"
 refine ⟨Nat.zero_le _,?_⟩
 refine Ia (ups (-most) (most+1 - -most).toNat) (fun R hR=>⟨rng,hR⟩) (fun k ρ=>∃ fs x y,ρ=[some (.is (.int n)),some (.is (.int most)),some (.own (fs.map t3)),x,y]∧PG n most k 0 fs) ⟨[],none,none,rfl,PG.start⟩ ?_ ?_
 ·rintro k d _ hk ⟨fs,x,y,rfl,pg⟩
  obtain ⟨hk',rfl⟩:=Oj hk
  obtain ⟨ba,ha⟩:=in7 hk'
  generalize ea:-most+(k:Int)=a at *
  walk_at "rd"
  refine Ia (ups (-most) (most+1 - -most).toNat) (fun R hR=>⟨rng,hR⟩) (fun j ρ=>∃ fs y,ρ=[some (.is (.int n)),some (.is (.int most)),some (.own (fs.map t3)),some (.is (.int a)),y]∧PG n most k j fs) ⟨fs,y,rfl,pg⟩ ?_ ?_
  ·rintro j d _ hj ⟨fs,y,rfl,pg⟩
   obtain ⟨hj',rfl⟩:=Oj hj
   obtain ⟨bb,hb⟩:=in7 hj'
   generalize eb:-most+(j:Int)=b at *
   have len:=pg.len
   have big:fs.length < sizeLine:=JD (by omega)
   walk_at "rd"
   by_cases a0:a=0
   ·exact Ft (by simp [a0]) ⟨fs,_,rfl,pg.skip ea eb fun c z=>absurd a0 z⟩
   ·have hd:=Int.fmod_add_mul_fdiv (b*b - n) (4*a)
    refine ift (by simp [a0]) ⟨bb.mulOk bb,four.mulOk ba,by omega,?_⟩
    by_cases hm:(b*b - n).fmod (4*a)=0
    ·refine ift (decide_eq_true hm) ⟨bb.mulOk bb,four.mulOk ba,Bt.divOk (four.mul ba) (by omega),Ba (by decide),big,fs ++ [(a,b,(b*b - n).fdiv (4*a))],_,by rw [List.map_append];rfl,pg.add ea eb hb a0 (by omega)⟩
    ·refine Ft (decide_eq_false hm) ⟨fs,_,rfl,pg.skip ea eb fun c _ e=>hm ?_⟩
     rw [e,Int.mul_comm (4*a) c,Int.mul_fmod_left]
  ·rintro _ ⟨fs,y,rfl,pg⟩
   rw [Oi] at pg
   exact ⟨fs,_,_,rfl,pg.row (by omega) m6⟩
 ·rintro _ ⟨fs,x,y,rfl,pg⟩
  rw [Oi] at pg
  have len:=pg.len
  walk_at "rd"
  refine O9 fs (fun f=>decide (g3 f=1)) (fun R hR=>hR) (by omega) Fj (fun f hf R hR=>?_) (fun f hf R hR=>hR) ?_
  ·unfold inner
   walk_at "rd"
   refine Aj f trivial ⟨KD,?_⟩
   rw [Rw]
   have e:decide (((g3 f:Nat):Int)=1)=decide (g3 f=1):=decide_eq_decide.mpr ⟨fun z=>by omega,fun z=>by omega⟩
   rw [e]
   exact hR
  ·exact q _ ⟨_,rfl,pg.srt.filter _,fun f=>by
    rw [List.mem_filter,pg.mem f,decide_eq_true_eq]
    constructor
    ·rintro ⟨⟨h0,h1,h2,h3,h4⟩,h5⟩
     exact ⟨h0,⟨h1,by omega⟩,h3,h4,h5⟩
    ·rintro ⟨h0,h1,h3,h4,h5⟩
     exact ⟨⟨h0,h1.1,by omega,h3,h4⟩,h5⟩,Nat.le_trans (List.length_filter_le _ _) (by omega)⟩
structure Qt (n:Int) (ls:List I3):Prop where
 srt:Srt ls
 mem:∀ f,f∈ls↔meas f=n∧g3 f=1∧LF f f
 len:ls.length≤16200
theorem LF.bowl {f:I3} (h:meas f < 0):LF f f↔Dp f:=by
 constructor
 ·rintro (⟨_,t,dt,L,e⟩ | ⟨S,_⟩)
  ·rw [e];exact L
  ·have:=S.pos;omega
 ·intro L
  exact .inl ⟨⟨L.1,h⟩,(1,0,0,1),rfl,by rw [Bq];exact L,by rw [Bq]⟩
theorem LF.tp {f:I3} {far:Int} (S:Sad f) (r:Sq (meas f) far):LF f f↔Lv far f∧Tp far f:=by
 constructor
 ·rintro (⟨b,_⟩ | ⟨_,t0,far',N,j,R,jl,lj,e⟩)
  ·have:=b.2;have:=S.pos;omega
  ·obtain rfl:=R.r.uniq r
   have e:rF far' j (mov f t0)=f:=e.symm
   have L:Lv far' f:=by have:=Lv.rF j R.v;rw [e] at this;exact this
   refine ⟨L,fun g ⟨m,hm⟩ z=>?_⟩
   have hg:rF far' (j+m) (mov f t0)=g:=by rw [Cr,e];exact hm
   obtain ⟨i,hi,ei⟩:=Ly R.e R.n (j+m)
   have:=lj i hi
   rw [←ei,hg,e] at this
   rw [(Za g f).mpr z] at this
   cases this
 ·rintro ⟨L,t⟩
  obtain ⟨N,n0,nm,ne,nl⟩:=Ib L
  have R:Ju f (1,0,0,1) far N:=⟨rfl,r,by rw [Bq];exact L,⟨Bt.one.le (by decide),Bt.zero.le (by decide),Bt.zero.le (by decide),Bt.one.le (by decide)⟩,n0,nm,by rw [Bq];exact ne,by rw [Bq];exact nl,0,rfl,fun i hi=>absurd hi (by omega),by show Level (mov f (1,0,0,1)) far;rw [Bq];exact L.L⟩
  refine .inr ⟨S,(1,0,0,1),far,N,0,R,Nat.zero_le _,fun i _=>?_,by show f=mov f _;rw [Bq]⟩
  rw [Bq]
  exact Bool.eq_false_iff.mpr fun z=>t _ ⟨i,rfl⟩ ((Za _ _).mp z)
noncomputable abbrev JB:DSp:=spec (fun n:Int=>[.int n]) (fun n=>n < 0∧-4000≤n) fun n d=>∃ ls,d=.lst (ls.map t3)∧Qt n ls
theorem O8 (T:Txt K mg)
  (G_plain_forms:Pm P w K mg base 3 "plain_forms" Cu ["number","most"] Hq)
  (G_stands_least:Pm P w K mg base 1 "stands_least" CJ ["form"] GD)
  (G_root:Pm P w K mg base 1 "root" Ii ["number"] J2)
  : Pm P w K mg base 4 "least_bowls" Dg ["number"] JB:=by
 obtain ⟨f,fd,F⟩:=T.t_least_bowls
 refine ⟨f,fd,F,F.fn.okD QL (by walk_at "lE") fun cdv A outer s H E hr=>⟨_,(Ah (Aq (Ph (Gh (sc:=Ai Dg) (NN:=["number"]) (x:="form") (N:=[]) (sl:=[]) rfl rfl (by decide +kernel)) rfl (Jj (Ag Ad G_plain_forms (hr.mono (by decide)) rfl (Aa (dv 0) (Aa (Ag Ad G_root (hr.mono (by decide)) rfl (Aa (Ce (Ek (dv 0)) Ab) Af)) Af)))) (fun cl C s0 H0 ex=>(Ht (Ag Ad G_stands_least (hr.mono (by decide)) rfl (Aa (dv 0) Af)))) (fun cl C s0 H0 ex=>(dv 0))))),fun ds Q h=>?_⟩⟩
 obtain ⟨n,rfl,⟨n0,n4⟩,q⟩:=h
 have n0:n < 0:=n0
 have n4:-4000≤n:=n4
 have q:∀ d,(∃ ls,d=.lst (ls.map t3)∧Qt n ls)→Q d:=q
 have x0:0≤(-n).fdiv 3:=by rw [Int.fdiv_eq_ediv_of_nonneg _ (by decide)];omega
 have x1:3*(-n).fdiv 3≤-n∧-n < 3*(-n).fdiv 3+3:=by rw [Int.fdiv_eq_ediv_of_nonneg _ (by decide)];omega
 walk_at "go"
 refine Qq ?_
 walk_at "rd"
 refine ⟨⟨by decide,by decide⟩,Av ((-n).fdiv 3) ⟨x0,(Bt.of (by omega) (by omega):Bt 20 _).le (by decide)⟩ ?_⟩
 rintro _ ⟨r,rfl,hr',_⟩
 have hr':Sq ((-n).fdiv 3) r:=hr'
 have r0:=hr'.1
 have r6:r≤63:=M4 hr' (by omega)
 refine Av (n,r) ⟨Bt.of (show -(2 ^ 20) < n by omega) (show n < 2 ^ 20 by omega),r0,r6⟩ ?_
 rintro _ ⟨fs,rfl,sr,mem,len⟩
 have mem:∀ f,f∈fs↔PF n r f:=mem
 refine O9 fs stands (fun R hR=>hR) (by omega) Fj (fun f hf R hR=>?_) (fun f hf R hR=>hR) ?_
 ·unfold inner
  walk_at "rd"
  exact Aj f trivial hR
 ·refine q _ ⟨_,rfl,sr.filter _,fun f=>?_,Nat.le_trans (List.length_filter_le _ _) len⟩
  rw [List.mem_filter,mem f]
  constructor
  ·rintro ⟨⟨h0,h1,h2,h3,h4⟩,h5⟩
   refine ⟨h3,h4,(LF.bowl (by omega)).mpr (Bb ?_ h5)⟩
   simp only [stands,Bool.and_eq_true,Bool.or_eq_true,decide_eq_true_eq] at h5
   omega
  ·rintro ⟨h3,h4,h5⟩
   have L:=(LF.bowl (by omega)).mp h5
   obtain ⟨a0,l1,l2,l3,_⟩:=L
   have ex:f.2.1*f.2.1 - 4*f.1*f.2.2=n:=h3
   have y1:f.2.1*f.2.1≤f.1*f.1:=by
    rcases Int.le_total 0 f.2.1 with z | z
    ·exact Int.mul_le_mul l2 l2 z (by omega)
    ·have:=Int.mul_le_mul (show -f.2.1≤f.1 by omega) (show -f.2.1≤f.1 by omega) (by omega) (by omega)
     have e:-f.2.1 * -f.2.1=f.2.1*f.2.1:=Int.neg_mul_neg _ _
     omega
   have y2:f.1*f.1≤f.1*f.2.2:=Int.mul_le_mul_of_nonneg_left l3 (by omega)
   have y3:4*f.1*f.2.2=4*(f.1*f.2.2):=Int.mul_assoc ..
   have ar:f.1≤r:=by
    rcases Int.lt_or_le r f.1 with z | z
    ·have:=Int.mul_le_mul (show r+1≤f.1 by omega) (show r+1≤f.1 by omega) (by omega) (by omega)
     have:=hr'.2.2
     omega
    ·exact z
   exact ⟨⟨by omega,by omega,by omega,h3,h4⟩,Dp.stands ((LF.bowl (by omega)).mp h5)⟩
theorem Ad6 {n:Nat} {t b:Int} (h:Bt n (t*b)) (hb:b≠0):Bt n t:=by
 unfold Bt at *
 rw [Int.natAbs_mul] at h
 exact Nat.lt_of_le_of_lt (Nat.le_mul_of_pos_right _ (by omega)) h
theorem AjE {n most:Int} {f:I3} (h:PF n most f) (hn:n.natAbs≤4000) (m6:most≤63):B3 14 f:=by
 obtain ⟨h0,h1,h2,h3,_⟩:=h
 have ex:f.2.1*f.2.1 - 4*f.1*f.2.2=n:=h3
 refine ⟨(Bt.of (by omega) (by omega):Bt 7 _).le (by decide),(Bt.of (by omega) (by omega):Bt 7 _).le (by decide),?_⟩
 have b2:Bt 7 f.2.1:=Bt.of (by omega) (by omega)
 have bn:Bt 13 n:=Bt.of (by omega) (by omega)
 have e:f.2.2*(4*f.1)=f.2.1*f.2.1 - n:=by rw [Int.mul_comm];omega
 have q0:=sq_nonneg f.2.1
 have q1:f.2.1*f.2.1≤63*63:=by
  rcases Int.le_total 0 f.2.1 with z | z
  ·exact Int.mul_le_mul (by omega) (by omega) z (by decide)
  ·have:=Int.mul_le_mul (show -f.2.1≤63 by omega) (show -f.2.1≤63 by omega) (by omega) (by decide)
   rw [Int.neg_mul_neg] at this
   exact this
 refine (Ad6 (t:=f.2.2) (b:=4*f.1) ?_ (by omega):Bt 14 _)
 rw [e]
 exact Bt.of (show -(2 ^ 14) < f.2.1*f.2.1 - n by omega) (show f.2.1*f.2.1 - n < 2 ^ 14 by omega)
noncomputable abbrev IV:DSp:=spec (fun n:Int=>[.int n]) (fun n=>0 < n∧n≤4000∧¬ Hs n) fun n d=>∃ ls,d=.lst (ls.map t3)∧Qt n ls
theorem M6 (T:Txt K mg)
  (G_root:Pm P w K mg base 1 "root" Ii ["number"] J2)
  (G_plain_forms:Pm P w K mg base 3 "plain_forms" Cu ["number","most"] Hq)
  (G_stands_level:Pm P w K mg base 1 "stands_level" CG ["form","far"] GJ)
  (G_round_of:Pm P w K mg base 7 "round_of" Fg ["form"] Nu)
  : Pm P w K mg base 8 "least_saddles" CT ["number"] IV:=by
 obtain ⟨f,fd,F⟩:=T.t_least_saddles
 refine ⟨f,fd,F,F.fn.okD Cy (by walk_at "lE") fun cdv A outer s H E hr=>⟨_,(Ae (Ak 1 Cy.nd (Ag Ad G_root (hr.mono (by decide)) rfl (Aa (dv 0) Af))) (Ae (Sx 2 Cy.nd Af) (Ae (Ahn 3 Cy.nd) (Ae (JQ PassesOwn.never rfl (Jj (Ag Ad G_plain_forms (hr.mono (by decide)) rfl (Aa (dv 0) (Aa (dv 1) Af)))) (Cg 4 Cy.nd) (Ah (Ci (DW.dt (XQ (Ht (Ag Ad G_stands_level (hr.mono (by decide)) rfl (Aa (dv 4) (Aa (dv 1) Af)))) (SJ (Aba 3 (un1 hr.units) (dv 4))))) (Ae (Pq 2 (dv 4)) (Ah (JQ PassesOwn.never rfl (Jj (Ag Ad G_round_of (hr.mono (by decide)) rfl (Aa (dv 4) Af))) (Cg 5 Cy.nd) (Ah (ZV 3 (un1 hr.units) O3 (dv 5)))))) Bg))) (Ah (Uc 2 (Aq (dv 2)))))))),fun ds Q h=>?_⟩⟩
 obtain ⟨n,rfl,⟨n0,n4,ns⟩,q⟩:=h
 have n0:0 < n:=n0
 have n4:n≤4000:=n4
 have ns:¬ Hs n:=ns
 have q:∀ d,(∃ ls,d=.lst (ls.map t3)∧Qt n ls)→Q d:=q
 walk_at "go"
 refine Av n ⟨by omega,(Bt.of (by omega) (by omega):Bt 20 _).le (by decide)⟩ ?_
 rintro _ ⟨far,rfl,hr',_⟩
 have hr':Sq n far:=hr'
 have r0:=hr'.1
 have r6:far≤63:=M4 hr' n4
 walk_at "rd"
 refine ⟨Nat.zero_le _,M7 ?_⟩
 walk_at "rd"
 refine Av (n,far) ⟨Bt.of (show -(2 ^ 20) < n by omega) (show n < 2 ^ 20 by omega),r0,r6⟩ ?_
 rintro _ ⟨fs,rfl,sr,mem,len⟩
 have mem:∀ f,f∈fs↔PF n far f:=mem
 have len:fs.length≤16200:=len
 have cl:=AbB mem
 have sad:∀ {f:I3},meas f=n→Sad f:=fun {f} e=>⟨by rw [e];exact ns,by rw [e];exact n0,by rw [e];exact n4⟩
 refine Ia (fs.map t3) (fun R h=>h) (fun k ρ=>∃ fnd ks x y,ρ=[some (.is (.int n)),some (.is (.int far)),some (.own (fnd.map t3)),some (.tab ks),x,y]∧PIn far fs k fnd ks∧NdF fs ks∧fnd.length≤k) ⟨[],[],none,none,rfl,PIn.start,NdF.nil,Nat.le_refl _⟩ ?_ ?_
 ·rintro k d _ hk ⟨fnd,ks,x,y,rfl,I,nd,lk⟩
  obtain ⟨f,hf,rfl⟩:∃ f,fs[k]? = some f∧d=t3 f:=by
   rw [List.getElem?_map] at hk
   cases e:fs[k]? with
   | none=>rw [e] at hk;cases hk
   | some f=>rw [e] at hk;cases hk;exact ⟨f,rfl,rfl⟩
  have hm:=List.mem_of_getElem? hf
  have P:=(mem f).mp hm
  have kl:k < fs.length:=(List.getElem?_eq_some_iff.mp hf).1
  have bf:B3 14 f:=AjE P (by omega) r6
  have S:=sad P.2.2.2.1
  walk_at "rd"
  refine Aj (f,far) (bf.le (by decide)) ?_
  by_cases hL:Level f far
  ·have L:Lv far f:=⟨S,by rw [P.2.2.2.1];exact hr',hL⟩
   refine ift (decide_eq_true hL) ⟨rw3 f,rfl,?_⟩
   by_cases hs:rw3 f∈ks
   ·exact Ft (by rw [decide_eq_true hs];rfl) ⟨fnd,ks,_,_,rfl,I.no hf (.inr hs),nd,by omega⟩
   ·refine ift (by rw [decide_eq_false hs];rfl) ⟨JD (by omega),M7 ?_⟩
    walk_at "rd"
    refine Av f ⟨bf.le (by decide),S⟩ ?_
    rintro _ ⟨t0,far',N,kk,R,kN,_,rfl⟩
    have R:Ju f t0 far' N:=R
    have ef:far'=far:=R.r.uniq L.r
    subst ef
    have rs:=Ab5 (k:=kk+1) L R.d R.v R.e R.n
    obtain ⟨z,ez⟩:∃ z,rF far' (kk+1) (mov f t0)=z:=⟨_,rfl⟩
    rw [ez] at rs ⊢
    walk_at "rd"
    refine Ia ((List.range N).map fun i=>t3 (rF far' i z)) (fun R h=>h) (fun j ρ=>∃ ks' y,ρ=[some (.is (.int n)),some (.is (.int far')),some (.own (fnd.map t3 ++ [t3 f])),some (.tab ks'),some (.is (t3 f)),y]∧(∀ x,rw3 x∈ks'↔rw3 x∈ks∨∃ i,i < j∧rF far' i z=x)∧NdF fs ks') ⟨ks,_,rfl,fun x=>⟨.inl,fun w=>w.resolve_right fun ⟨i,hi,_⟩=>absurd hi (by omega)⟩,nd⟩ ?_ ?_
    ·rintro j d _ hj ⟨ks',y,rfl,h1,nd'⟩
     rw [List.getElem?_map] at hj
     obtain ⟨hjN,rfl⟩:j < N∧d=t3 (rF far' j z):=by
      rcases Nat.lt_or_ge j N with w | w
      ·rw [List.getElem?_range w] at hj
       cases hj
       exact ⟨w,rfl⟩
      ·rw [List.getElem?_eq_none (by rw [List.length_range];exact w)] at hj
       cases hj
     have inn:rF far' j z∈fs:=cl f hm L _ ((rs _).mp ⟨j,hjN,rfl⟩)
     have ln:=nd'.len
     walk_at "rd"
     refine ⟨⟨true,rfl⟩,rw3 (rF far' j z),rfl,Nat.le_of_lt (JD (by omega)),_,_,rfl,fun x=>?_,nd'.put inn⟩
     rw [O7,h1 x]
     constructor
     ·rintro ((w | ⟨i,hi,e⟩) | w)
      ·exact .inl w
      ·exact .inr ⟨i,by omega,e⟩
      ·exact .inr ⟨j,by omega,(Acq w).symm⟩
     ·rintro (w | ⟨i,hi,e⟩)
      ·exact .inl (.inl w)
      ·rcases Nat.lt_or_ge i j with v | v
       ·exact .inl (.inr ⟨i,v,e⟩)
       ·have:i=j:=by omega
        subst this
        exact .inr (by rw [e])
    ·rintro _ ⟨ks',y,rfl,h1,nd'⟩
     rw [List.length_map,List.length_range] at h1
     refine ⟨fnd ++ [f],ks',_,_,by rw [List.map_append];rfl,PIn.yes sr cl I hf L hs fun x=>?_,nd',by rw [List.length_append,List.length_singleton];omega⟩
     rw [h1 x,rs x]
  ·exact Ft (decide_eq_false hL) ⟨fnd,ks,_,_,rfl,I.no hf (.inl fun L=>hL L.L),nd,by omega⟩
 ·rintro _ ⟨fnd,ks,x,y,rfl,I,nd,lk⟩
  rw [List.length_map] at I lk
  refine q _ ⟨fnd,rfl,I.srt,fun f=>?_,by omega⟩
  rw [I.mem f,List.take_length,mem f]
  constructor
  ·rintro ⟨⟨h0,h1,h2,h3,h4⟩,L,t⟩
   exact ⟨h3,h4,(LF.tp L.S L.r).mpr ⟨L,t⟩⟩
  ·rintro ⟨h3,h4,h5⟩
   obtain ⟨L,t⟩:=(LF.tp (sad h3) (by rw [h3];exact hr')).mp h5
   have ⟨i1,i2⟩:=Vk L.L
   exact ⟨⟨O5 L.S,i1,i2,h3,h4⟩,L,t⟩
structure VL (n:Int):Prop where
 r:n % 4=0∨n % 4=1
 q:¬ Hs n
 m:n.natAbs≤4000
theorem VL.u {n:Int} (h:VL n):Jb n:=⟨h.r,h.q,by have:=h.m;omega,(by have:=h.m;exact Bt.of (by omega) (by omega):Bt 13 n).le (by decide)⟩
noncomputable abbrev Oz:DSp:=spec (fun n:Int=>[.int n]) (fun n=>VL n) fun n d=>∃ ls,d=.lst (ls.map t3)∧Qt n ls
theorem Wt (T:Txt K mg)
  (G_check_measure:Pm P w K mg base 3 "check_measure" Cj ["number"] Gs)
  (G_check_within:Pm P w K mg base 1 "check_within" Cz ["number","most"] GF)
  (G_least_saddles:Pm P w K mg base 8 "least_saddles" CT ["number"] IV)
  (G_least_bowls:Pm P w K mg base 4 "least_bowls" Dg ["number"] JB)
  : Pm P w K mg base 9 "classes" Hi ["number"] Oz:=by
 obtain ⟨f,fd,F⟩:=T.t_classes
 obtain ⟨t_MOST_MEASURE,m_MOST_MEASURE⟩:=T.m_MOST_MEASURE
 refine ⟨f,fd,F,F.fn.okD Xp (by walk_at "lE") fun cdv A outer s H E hr=>⟨_,(Ae (CK (Ag Ad G_check_measure (hr.mono (by decide)) rfl (Aa (dv 0) Af))) (Ae (CK (Ag Ad G_check_within (hr.mono (by decide)) rfl (Aa (dv 0) (Aa (Jp (v:=.int (4000)) (d:=.int (4000)) rfl m_MOST_MEASURE ⟨_,rfl⟩ (fun _=>Bc.mpr rfl)) Af)))) (Ae (Ci (NT (dv 0) Ab) (Ah (Aq (Ag Ad G_least_bowls (hr.mono (by decide)) rfl (Aa (dv 0) Af)))) Bg) (Ah (Aq (Ag Ad G_least_saddles (hr.mono (by decide)) rfl (Aa (dv 0) Af))))))),fun ds Q h=>?_⟩⟩
 obtain ⟨n,rfl,hD,q⟩:=h
 have hD:VL n:=hD
 have m:=hD.m
 walk_at "go"
 refine Aj n hD.u (Aj (n,4000) (by show ((n.natAbs:Nat):Int)≤4000;omega) ?_)
 rcases Int.lt_or_le n 0 with z | z
 ·exact ift (decide_eq_true z) (Av n ⟨z,by show -4000≤n;omega⟩ q)
 ·exact Ft (decide_eq_false (by omega)) (Av n ⟨by
   show 0 < n
   have:n≠0:=fun e=>hD.q ⟨0,by rw [e];rfl⟩
   omega,by show n≤4000;omega,hD.q⟩ q)
structure LK (D:Int) (G:I3):Prop where
 gd:Gd D G
 pos:D < 0→0 < G.1
 bt:B3 600 G
 lf:∃ F,LF F G
theorem LF.eqv {f g:I3} (L:LF f g):Eqv f g:=L.turn
theorem LK.kind {D:Int} {G:I3} (hD:Jb D) (h:LK D G):Bo G∨Sad G:=by
 rcases Int.lt_or_le D 0 with z | z
 ·exact .inl ⟨h.pos z,by rw [h.gd.m];exact z⟩
 ·have:D≠0:=fun e=>hD.n ⟨0,by rw [e];rfl⟩
  exact .inr ⟨by rw [h.gd.m];exact hD.n,by rw [h.gd.m];omega,by rw [h.gd.m];exact hD.m⟩
theorem LK.pair {D:Int} {G H:I3} (hD:Jb D) (h:LK D G) (k:LK D H):Pair G H :=
 Pair.of (h.bt.le (by decide)) (k.bt.le (by decide)) (h.kind hD) (k.kind hD) (by rw [h.gd.m,k.gd.m]) h.gd.p k.gd.p (by rw [h.gd.m];exact hD.b)
theorem LK.of {D:Int} {F G:I3} (hD:Jb D) (gF:Gd D F) (pF:D < 0→0 < F.1) (L:LF F G):LK D G :=
 ⟨gF.eqv L.eqv,YT gF.m pF L.eqv,L.btn (by rw [gF.m];exact hD.b) (by decide),F,L⟩
theorem LK.uniq {D:Int} {G H:I3} (h:LK D G) (k:LK D H) (e:Eqv G H):G=H:=by
 obtain ⟨F,L⟩:=h.lf
 obtain ⟨F',L'⟩:=k.lf
 obtain ⟨x,dx,ex⟩:=(L.eqv.trans e).trans L'.eqv.symm
 exact L.same L' dx ex
theorem Vz {D:Int} (hD:Jb D):Gd D (Br D):=⟨hD.meas,by unfold Br g3;simp,hD.n⟩
noncomputable abbrev Nx:DSp:=Ca (fun f:I3=>[t3 f]) (fun _=>True) fun f=>t3 (HW f)
theorem Vf (T:Txt K mg)
  : Pm P w K mg base 1 "opposite" Gv ["form"] Nx:=by
 obtain ⟨f,fd,F⟩:=T.t_opposite
 refine ⟨f,fd,F,F.fn.okD V5 (by walk_at "lE") fun cdv A outer s H E hr=>⟨_,(Ah (Aq (BK (Aa (Ac (dv 0) Ab) (Aa (Ek (Ac (dv 0) Ab)) (Aa (Ac (dv 0) Ab) Af)))))),fun ds Q h=>?_⟩⟩
 obtain ⟨⟨a,b,c⟩,rfl,_,q⟩:=h
 walk_at "go"
 exact ⟨Ba (by decide),q _ rfl⟩
noncomputable abbrev Dq:DSp:=spec (fun p:I3 × I3=>[t3 p.1,t3 p.2]) (fun p=>Pair p.1 p.2) fun p d=>∃ F G,d=t3 G∧Comp p.1 p.2 F∧LF F G
theorem M5 (T:Txt K mg)
  (G_product:Pm P w K mg base 12 "product" Gu ["one","other"] Ji)
  : Pm P w K mg base 13 "least_product" Cp ["one","other"] Dq:=by
 obtain ⟨f,fd,F⟩:=T.t_least_product
 refine ⟨f,fd,F,F.fn.okD Mt (by walk_at "lE") fun cdv A outer s H E hr=>⟨_,(Ah (Aq (Ac (Ag Ad G_product (hr.mono (by decide)) rfl (Aa (dv 0) (Aa (dv 1) Af))) Ab))),fun ds Q h=>?_⟩⟩
 obtain ⟨⟨f,h⟩,rfl,hP,q⟩:=h
 walk_at "go"
 refine Av (f,h) hP ?_
 rintro _ ⟨F,G,p,r,C,L,_,_,_,rfl,_⟩
 walk_at "rd"
 exact q _ ⟨F,G,rfl,C,L⟩
theorem Aaz {n:Nat} (h:0 < n):((Builtin.Int.intBits (n:Int):Nat):Int)=(n.log2:Int)+1:=by
 have:Builtin.Int.intBits (n:Int)=n.log2+1:=by
  unfold Builtin.Int.intBits
  have hb:((n:Int) == 0)=false:=by simp;omega
  rw [hb];simp
 rw [this];push_cast;rfl
theorem AdH {n:Nat} (h:0 < n):n / 2 ^ n.log2=1:=by
 have h1:=Nat.log2_self_le (n:=n) (by omega)
 have h2:=Nat.lt_log2_self (n:=n)
 have h3:n < 2 ^ n.log2*2:=by rw [←Nat.pow_succ];exact h2
 refine Nat.div_eq_of_lt_le (by omega) (by omega)
noncomputable abbrev KH (P:Program) (w:World) (K:PySem.W.Frag) (mg:Str→Option Value) (base:Heap):DSp:=spec (fun p:I3 × Nat × Addr × I3 × Int=>[t3 p.1,.int p.2.1,.fn p.2.2.1,t3 p.2.2.2.1])
 (fun p=>VJ P w K mg base 13 p.2.2.1 Dq∧p.2.1≤1000000∧Jb p.2.2.2.2∧LK p.2.2.2.2 p.1∧LK p.2.2.2.2 p.2.2.2.1∧Eqv (Br p.2.2.2.2) p.2.2.2.1) fun p d=>∃ G,d=t3 G∧Az (Br p.2.2.2.2) p.1 p.2.1 G∧LK p.2.2.2.2 G
theorem W9 (T:Txt K mg)
  : Pm P w K mg base 14 "powered" Hg ["thing","count","put","first"] (KH P w K mg base):=by
 obtain ⟨f,fd,F⟩:=T.t_powered
 refine ⟨f,fd,F,F.fn.okD Hw (by walk_at "lE") fun cdv A outer s H E hr=>⟨_,(Ae (Ci (Jx hr.units (dv 1) Ab) (Ah (Aq (dv 3))) Bg) (Ae (Ak 4 Hw.nd (dv 0)) (Ae (JQ PassesOwn.never rfl (Aeb rfl T.z_range (Aa (Bu (S9 (dv 1)) Ab) (Aa (Ek Ab) (Aa (Ek Ab) Af)))) (Cg 5 Hw.nd) (Ae (Ak 4 Hw.nd (Vq (k:=13) (hr.mono (by decide)) (dv 2) (Aa (dv 4) (Aa (dv 4) Af)))) (Ah (Ci (Jx hr.units (Dr (Af2 (dv 1) (dv 5)) Ab) Ab) (Ah (Ak 4 Hw.nd (Vq (k:=13) (hr.mono (by decide)) (dv 2) (Aa (dv 4) (Aa (dv 0) Af))))) Bg)))) (Ah (Aq (dv 4)))))),fun ds Q h=>?_⟩⟩
 obtain ⟨⟨t,n,a,u,D⟩,rfl,⟨fv,hn,hD,ht,hu,eu⟩,q⟩:=h
 have hk:PySem.W.keepIn K (.ref a)=true:=by obtain ⟨_,_,_,_,z⟩:=fv;exact z
 have q:∀ d,(∃ G,d=t3 G∧Az (Br D) t n G∧LK D G)→Q d:=q
 have hn:n≤1000000:=hn
 have hD:Jb D:=hD
 have ht:LK D t:=ht
 have hu:LK D u:=hu
 have eu:Eqv (Br D) u:=eu
 have put:∀ {x y:I3} {i j:Nat} {R:Dt→Prop},LK D x→Az (Br D) t i x→LK D y→Az (Br D) t j y→(∀ G,LK D G→Az (Br D) t (i+j) G→R (t3 G))→Dq [t3 x,t3 y] R:=fun {x y i j R} hx px hy py k=>by
  refine Av (x,y) (hx.pair hD hy) ?_
  rintro _ ⟨F,G,rfl,C,L⟩
  have C:Comp x y F:=C
  have gF:=hx.gd.comp hy.gd C
  exact k G (LK.of hD gF (Mq hx.gd hy.gd C hx.pos hy.pos) L) ((Az.add rfl hD.meas ht.gd px py C).eqv L.eqv)
 have p1:Az (Br D) t 1 t:=Az.one rfl hD.meas ht.gd
 walk_at "go"
 by_cases h0:n=0
 ·subst h0
  exact ift rfl (q _ ⟨u,rfl,eu,hu⟩)
 have h0':0 < n:=by omega
 have hlog:n.log2 < 20:=(Nat.log2_lt h0).mpr (by omega)
 refine Ft (decide_eq_false (by omega)) ?_
 refine Ia (downs ((n.log2:Int) - 1) n.log2) (fun R hR=>?_) (fun k ρ=>∃ z G,Az (Br D) t (n / 2 ^ (n.log2 - k)) G∧LK D G∧ρ=[some (.is (t3 t)),some (.is (.int n)),some (.is (.fn a)),some (.is (t3 u)),some (.is (t3 G)),z]) ⟨none,t,by rw [Nat.sub_zero,AdH h0'];exact p1,ht,rfl⟩ ?_ ?_
 ·walk_at "rd"
  rw [Aaz h0']
  refine ⟨⟨by omega,by omega,by decide,by decide⟩,?_⟩
  have e1:(n.log2:Int)+1 - 2=(n.log2:Int) - 1:=by omega
  have e2:((n.log2:Int) - 1 - -1).toNat=n.log2:=by omega
  rw [e1,e2]
  exact hR
 ·rintro k d _ hi ⟨z,G,pG,lG,rfl⟩
  obtain ⟨hk',rfl⟩:=RD hi
  walk_at "rd"
  refine ⟨hk,_,Ad,fv,put lG pG lG pG fun H lH pH=>?_⟩
  refine ⟨by omega,by decide,?_⟩
  have e1:n.log2 - k=(n.log2 - (k+1))+1:=by omega
  have e2:((n.log2:Int) - 1 - (k:Int)).toNat=n.log2 - (k+1):=by omega
  have e3:n / 2 ^ (n.log2 - (k+1))=(n / 2 ^ (n.log2 - k)+n / 2 ^ (n.log2 - k))+(n / 2 ^ (n.log2 - (k+1))) % 2:=by
   rw [e1,Nat.pow_succ,←Nat.div_div_eq_div_mul];omega
  rw [e2]
  have e4:((n:Int) / 2 ^ (n.log2 - (k+1))).fmod 2=(((n / 2 ^ (n.log2 - (k+1))) % 2:Nat):Int):=by
   rw [Int.fmod_eq_emod_of_nonneg _ (by decide)];push_cast;rfl
  rw [e4]
  refine JK (fun hz=>?_) (fun hz=>?_)
  ·have hz:=of_decide_eq_true hz
   have h1:n / 2 ^ (n.log2 - (k+1)) % 2=1:=by omega
   refine ⟨hk,_,Ad,fv,put lH pH ht p1 fun E lE pE=>?_⟩
   exact ⟨_,E,by rw [e3,h1];exact pE,lE,rfl⟩
  ·have hz:¬ ((((n / 2 ^ (n.log2 - (k+1))) % 2:Nat):Int)=1):=fun z=>hz (decide_eq_true z)
   have h1:n / 2 ^ (n.log2 - (k+1)) % 2=0:=by omega
   exact ⟨_,H,by rw [e3,h1,Nat.add_zero];exact pH,lH,rfl⟩
 ·rintro _ ⟨z,G,pG,lG,rfl⟩
  walk_at "rd"
  rw [R5,Nat.sub_self,Nat.pow_zero,Nat.div_one] at pG
  exact q _ ⟨G,rfl,pG,lG⟩
structure JT (f:I3) (n:Int):Prop where
 bf:B3 690 f
 kf:Bo f∨Sad f
 pf:g3 f=1
 hD:Jb (meas f)
 lo:-1000000≤n
 hi:n≤1000000
theorem JT.gd {f:I3} {n:Int} (h:JT f n):Gd (meas f) f:=⟨rfl,h.pf,h.hD.n⟩
theorem JT.pos {f:I3} {n:Int} (h:JT f n):meas f < 0→0 < f.1:=fun z=>by
 rcases h.kf with k | k
 ·exact k.1
 ·have:=k.pos
  omega
theorem Aa9 {f:I3} (h:Bo f∨Sad f):Bo (HW f)∨Sad (HW f):=by
 rcases h with k | k
 ·exact .inl ⟨k.1,by rw [JR];exact k.2⟩
 ·exact .inr ⟨by rw [JR];exact k.no,by rw [JR];exact k.pos,by rw [JR];exact k.most⟩
theorem Agi {n:Nat} {f:I3} (h:B3 n f):B3 n (HW f):=⟨h.1,h.2.1.neg,h.2.2⟩
theorem Uj {D:Int} {g:I3} (hD:Jb D) (L:LF (Br D) g):LK D g:=LK.of hD (Vz hD) (fun _=>by show (0:Int) < 1;decide) L
theorem JT.lk {f g:I3} {n:Int} (h:JT f n) (L:LF f g):LK (meas f) g:=LK.of h.hD h.gd h.pos L
noncomputable abbrev U9:DSp:=spec (fun p:I3 × Int=>[t3 p.1,.int p.2]) (fun p=>JT p.1 p.2) fun p d=>∃ G,d=t3 G∧JN (Br (meas p.1)) p.1 p.2 G∧LK (meas p.1) G
theorem Abt (T:Txt K mg)
  (GM_least:PmM P w K mg base 1 ["Bowl","Saddle"] "least" J3)
  (G_shape_of:Pm P w K mg base 10 "shape_of" Dk ["form"] Fp)
  (G_check_plain:Pm P w K mg base 3 "check_plain" Cv ["form"] Fz)
  (G_powered:Pm P w K mg base 14 "powered" Hg ["thing","count","put","first"] (KH P w K mg base))
  (G_least_product:Pm P w K mg base 13 "least_product" Cp ["one","other"] Dq)
  (G_unit:Pm P w K mg base 12 "unit" JL ["number"] Oo)
  (G_least_of:Pm P w K mg base 11 "least_of" Fi ["form"] JF)
  (G_opposite:Pm P w K mg base 1 "opposite" Gv ["form"] Nx)
  : Pm P w K mg base 15 "power" J5 ["form","count"] U9:=by
 obtain ⟨f,fd,F⟩:=T.t_power
 obtain ⟨f_least_product,m_least_product,v_least_product⟩:=Pm.val G_least_product
 refine ⟨f,fd,F,F.fn.okD Uz (by walk_at "lE") fun cdv A outer s H E hr=>⟨_,(Ae (Ak 2 Uz.nd (Ag Ad G_shape_of (hr.mono (by decide)) rfl (Aa (dv 0) Af))) (Ae (CK (Ag Ad G_check_plain (hr.mono (by decide)) rfl (Aa (dv 0) Af))) (Ae (Ci (NT (dv 1) Ab) (Ah (Aq (Ag Ad G_powered (hr.mono (by decide)) rfl (Aa (Ag Ad G_least_of (hr.mono (by decide)) rfl (Aa (Ag Ad G_opposite (hr.mono (by decide)) rfl (Aa (dv 0) Af)) Af)) (Aa (Ek (dv 1)) (Aa (Afw m_least_product) (Aa (Ag Ad G_unit (hr.mono (by decide)) rfl (Aa (HY (dv 2)) Af)) Af))))))) Bg) (Ah (Aq (Ag Ad G_powered (hr.mono (by decide)) rfl (Aa (Ac (MF Ad GM_least (hr.mono (by decide)) (dv 2)) Ab) (Aa (dv 1) (Aa (Afw m_least_product) (Aa (Ag Ad G_unit (hr.mono (by decide)) rfl (Aa (HY (dv 2)) Af)) Af)))))))))),fun ds Q h=>?_⟩⟩
 obtain ⟨⟨f,n⟩,rfl,hP,q⟩:=h
 have hP:JT f n:=hP
 have q:∀ d,(∃ G,d=t3 G∧JN (Br (meas f)) f n G∧LK (meas f) G)→Q d:=q
 have hD:=hP.hD
 walk_at "go"
 refine Av f ⟨hP.bf.le (by decide),hP.kf⟩ ?_
 have run:∀ (th g:I3) (k:Int),0≤k→k≤1000000→LK (meas f) th→LF (Br (meas f)) g→(∀ G,Az (Br (meas f)) th k.toNat G→LK (meas f) G→Q (t3 G))→KH P w K mg base [t3 th,.int k,.fn f_least_product,t3 g] Q:=fun th g k k0 k2 ht L z=>by
  obtain ⟨m,rfl⟩:=Int.eq_ofNat_of_zero_le k0
  refine Av (th,m,f_least_product,g,meas f) ⟨v_least_product,by show m≤1000000;omega,hD,ht,Uj hD L,L.eqv⟩ ?_
  rintro _ ⟨G,rfl,pG,lG⟩
  exact z G (by rw [Int.toNat_natCast];exact pG) lG
 have lo:=hP.lo
 have hi:=hP.hi
 rintro _ ⟨l,⟨hb,hl,rfl⟩ | ⟨hb,hl,rfl⟩⟩
 case' inl =>
  obtain ⟨g,x,rfl,L⟩:=MJ (.inl ⟨hb,hl⟩)
  have na:=T.na_Bowl_measure
 case' inr =>
  obtain ⟨g,x,rfl,L⟩:=MJ (.inr ⟨hb,hl⟩)
  have na:=T.na_Saddle_measure
 all_goals
  refine Aj f hP.pf (JK (fun hz=>?_) (fun hz=>?_))
  ·have hz:=of_decide_eq_true hz
   refine Aj f trivial (Av (HW f) ⟨(Agi hP.bf).le (by decide),Aa9 hP.kf⟩ ?_)
   rintro _ ⟨g',rfl,L'⟩
   have L':LF (HW f) g':=L'
   have l':LK (meas f) g':=LK.of hD hP.gd.opp hP.pos L'
   refine ⟨na,_,rfl,Av (meas f) hD ?_⟩
   rintro _ ⟨u,rfl,Lu⟩
   refine run g' u (-n) (by omega) (by omega) l' Lu fun G pG lG=>q _ ⟨G,rfl,⟨fun y=>absurd y (by omega),fun _=>pG.base L'.eqv.symm⟩,lG⟩
  ·have hz:¬ n < 0:=fun z=>hz (decide_eq_true z)
   refine ⟨⟨by simp,by decide⟩,?_⟩
   first
    | refine Aj (args:=fun p:Str × I3 × Dt=>[Qn p.1 p.2.1 p.2.2]) ("Bowl",f,_) (Or.inl rfl) ?_
    | refine Aj (args:=fun p:Str × I3 × Dt=>[Qn p.1 p.2.1 p.2.2]) ("Saddle",f,_) (Or.inr rfl) ?_
   walk_at "rd"
   refine ⟨na,_,rfl,Av (meas f) hD ?_⟩
   rintro _ ⟨u,rfl,Lu⟩
   refine run g u n (by omega) (by omega) (hP.lk L) Lu fun G pG lG=>q _ ⟨G,rfl,⟨fun _=>pG.base L.eqv.symm,fun y=>?_⟩,lG⟩
   obtain rfl:n=0:=by omega
   exact pG
theorem Ait {n:Int} {ls:List I3} (C:Qt n ls) (hn:¬ Hs n) (m:n≤4000):Cl n ls:=by
 refine ⟨C.srt.imp fun {a b} h e=>by rw [e] at h;exact QV h,fun G=>?_⟩
 rw [C.mem G]
 refine and_congr_right fun mG=>and_congr_right fun _=>?_
 rcases Int.lt_or_le n 0 with z | z
 ·rw [LF.bowl (by omega)]
  exact ⟨fun L=>.inl ⟨z,L⟩,fun h=>by
   rcases h with ⟨_,L⟩ | ⟨y,_⟩
   ·exact L
   ·omega⟩
 ·have n0:n≠0:=fun e=>hn ⟨0,by rw [e];rfl⟩
  have S:Sad G:=⟨by rw [mG];exact hn,by rw [mG];omega,by rw [mG];exact m⟩
  obtain ⟨far,r⟩:=AbT z
  rw [LF.tp S (by rw [mG];exact r)]
  exact ⟨fun ⟨L,t⟩=>.inr ⟨by omega,far,r,L,t⟩,fun h=>by
   rcases h with ⟨y,_⟩ | ⟨_,far',r',L,t⟩
   ·omega
   ·obtain rfl:=r.uniq r'
    exact ⟨L,t⟩⟩
structure S6 (f:I3):Prop where
 bf:B3 690 f
 kf:Bo f∨Sad f
 pf:g3 f=1
 hD:VL (meas f)
theorem S6.fine {f:I3} (h:S6 f):Jd (meas f) f:=⟨⟨rfl,h.pf,h.hD.q⟩,fun z=>by
 rcases h.kf with k | k
 ·exact k.1
 ·have:=k.pos;omega⟩
noncomputable abbrev NQ:DSp:=spec (fun f:I3=>[t3 f]) (fun f=>S6 f) fun f d=>∃ k:Nat,d=.int (k:Nat)∧Iv (Br (meas f)) f k
theorem Vy (T:Txt K mg)
  (GM_least:PmM P w K mg base 1 ["Bowl","Saddle"] "least" J3)
  (G_shape_of:Pm P w K mg base 10 "shape_of" Dk ["form"] Fp)
  (G_check_within:Pm P w K mg base 1 "check_within" Cz ["number","most"] GF)
  (G_check_plain:Pm P w K mg base 3 "check_plain" Cv ["form"] Fz)
  (G_unit:Pm P w K mg base 12 "unit" JL ["number"] Oo)
  (G_least_product:Pm P w K mg base 13 "least_product" Cp ["one","other"] Dq)
  : Pm P w K mg base 14 "order_of" Gi ["form"] NQ:=by
 obtain ⟨f,fd,F⟩:=T.t_order_of
 obtain ⟨t_MOST_MEASURE,m_MOST_MEASURE⟩:=T.m_MOST_MEASURE
 refine ⟨f,fd,F,F.fn.okD Ds (by walk_at "lE") fun cdv A outer s H E hr=>⟨_,(Ae (Ak 1 Ds.nd (Ag Ad G_shape_of (hr.mono (by decide)) rfl (Aa (dv 0) Af))) (Ae (CK (Ag Ad G_check_within (hr.mono (by decide)) rfl (Aa (HY (dv 1)) (Aa (Jp (v:=.int (4000)) (d:=.int (4000)) rfl m_MOST_MEASURE ⟨_,rfl⟩ (fun _=>Bc.mpr rfl)) Af)))) (Ae (CK (Ag Ad G_check_plain (hr.mono (by decide)) rfl (Aa (dv 0) Af))) (Ae (Ak 2 Ds.nd (Ag Ad G_unit (hr.mono (by decide)) rfl (Aa (HY (dv 1)) Af))) (Ae (Ak 3 Ds.nd (Ac (MF Ad GM_least (hr.mono (by decide)) (dv 1)) Ab)) (Ae (Ak 4 Ds.nd (dv 3)) (Ae (Ak 5 Ds.nd Ab) (Ae (Gf PassesOwn.never (Ie hr.units (dv 4) (dv 2)) (Ae (Ak 4 Ds.nd (Ag Ad G_least_product (hr.mono (by decide)) rfl (Aa (dv 4) (Aa (dv 3) Af)))) (Ah (AdL 5 Ds.nd Ab)))) (Ah (Aq (dv 5))))))))))),fun ds Q h=>?_⟩⟩
 obtain ⟨f,rfl,hP,q⟩:=h
 have hP:S6 f:=hP
 have q:∀ d,(∃ k:Nat,d=.int (k:Nat)∧Iv (Br (meas f)) f k)→Q d:=q
 have hD:=hP.hD.u
 have fin:=hP.fine
 have mD:=hP.hD.m
 obtain ⟨d,O⟩:=Agr (U:=Br (meas f)) rfl hD.meas fin mD
 have um:=hD.meas
 walk_at "go"
 refine Av f ⟨hP.bf.le (by decide),hP.kf⟩ ?_
 rintro _ ⟨l,⟨hb,hl,rfl⟩ | ⟨hb,hl,rfl⟩⟩
 case' inl =>
  obtain ⟨g,x,rfl,L⟩:=MJ (.inl ⟨hb,hl⟩)
  have na:=T.na_Bowl_measure
 case' inr =>
  obtain ⟨g,x,rfl,L⟩:=MJ (.inr ⟨hb,hl⟩)
  have na:=T.na_Saddle_measure
 all_goals
  refine ⟨na,_,rfl,Aj (meas f,4000) (by show (((meas f).natAbs:Nat):Int)≤4000;omega) (Aj f hP.pf ⟨na,_,rfl,Av (meas f) hD ?_⟩)⟩
  rintro _ ⟨u,rfl,Lu⟩
  have Lu:LF (Br (meas f)) u:=Lu
  refine ⟨⟨by simp,by decide⟩,?_⟩
  first
   | refine Aj (args:=fun p:Str × I3 × Dt=>[Qn p.1 p.2.1 p.2.2]) ("Bowl",f,_) (Or.inl rfl) ?_
   | refine Aj (args:=fun p:Str × I3 × Dt=>[Qn p.1 p.2.1 p.2.2]) ("Saddle",f,_) (Or.inr rfl) ?_
  walk_at "rd"
  have gk:LK (meas f) g:=LK.of hD fin.gd fin.pos L
  have uk:LK (meas f) u:=Uj hD Lu
  refine FZ (fun m ρ=>∃ (i:Nat) (G:I3),ρ=[some (.is (t3 f)),some (.is (Qn _ f (.tup [t3 g,x]))),some (.is (t3 u)),some (.is (t3 g)),some (.is (t3 G)),some (.is (.int (i:Nat)))]∧1≤i∧i≤d∧Az (Br (meas f)) f i G∧LK (meas f) G∧m=d - i) _ ⟨1,g,rfl,Nat.le_refl _,O.d0,(Az.one rfl um fin.gd).eqv L.eqv,gk,rfl⟩ ?_
  rintro m _ ⟨i,G,rfl,i1,id,pG,lG,rfl⟩
  walk_at "rd"
  rcases Nat.lt_or_ge i d with z | z
  ·have ne:G≠u:=fun e=>O.l i (by omega) z (by rw [e] at pG;exact pG.eqv Lu.eqv.symm)
   refine ift ?_ (Av (G,g) (lG.pair hD gk) ?_)
   ·rw [Bool.not_eq_true',Bool.eq_false_iff]
    intro w
    simp only [Bool.and_eq_true,decide_eq_true_eq] at w
    exact ne (Prod.ext w.1 (Prod.ext w.2.1 w.2.2))
   ·rintro _ ⟨F,G',rfl,C,L'⟩
    have C:Comp G g F:=C
    have C':Comp G f F:=C.eqv (Eqv.refl _) L.eqv.symm (Eqv.refl _)
    walk_at "rd"
    exact ⟨d - (i+1),by omega,i+1,G',by push_cast;rfl,by omega,by omega,Az.eqv (n:=i+1) ⟨G,pG,C'⟩ L'.eqv,LK.of hD (lG.gd.comp gk.gd C) (Mq lG.gd gk.gd C lG.pos gk.pos) L',rfl⟩
  ·have ei:i=d:=by omega
   subst ei
   have e:G=u:=lG.uniq uk ((Az.uniq rfl um fin.gd pG O.u).trans Lu.eqv)
   subst e
   exact Ft (by simp) (q _ ⟨i,rfl,O⟩)
structure Ae8 (D:Int) (f u:I3) (d:Nat):Prop where
 hD:Jb D
 lf:LK D f
 lu:LK D u
 eu:Eqv (Br D) u
 o:Iv (Br D) f d
 d2:d≤16200
noncomputable def PwL (D:Int) (f:I3) (k:Nat) (gs:List I3):Prop:=gs.length=k∧∀ i,i < k→∃ g,gs[i]? = some g∧LK D g∧Az (Br D) f i g
theorem PwL.add {D:Int} {f g:I3} {k:Nat} {gs:List I3} (h:PwL D f k gs) (lg:LK D g) (pg:Az (Br D) f k g):PwL D f (k+1) (gs ++ [g]):=by
 obtain ⟨hl,h⟩:=h
 refine ⟨by rw [List.length_append,List.length_singleton,hl],fun i hi=>?_⟩
 rcases Nat.lt_or_ge i k with z | z
 ·obtain ⟨x,e,r⟩:=h i z
  exact ⟨x,by rw [List.getElem?_append_left (by omega)];exact e,r⟩
 ·have:i=k:=by omega
  subst this
  exact ⟨g,by rw [List.getElem?_append_right (by omega),hl,Nat.sub_self];rfl,lg,pg⟩
theorem PwL.ix {D:Int} {f:I3} {k:Nat} {gs:List I3} (h:PwL D f k gs) {i:Int} (h0:0≤i) (h1:i < k):∃ g,ixL i (gs.map t3)=some (t3 g)∧ixD i (.lst (gs.map t3))=some (t3 g)∧LK D g∧Az (Br D) f i.toNat g:=by
 obtain ⟨g,e,r⟩:=h.2 i.toNat (by omega)
 obtain ⟨d,e1,e2,e3⟩:=Aad (ds:=gs.map t3) h0 (by rw [List.length_map,h.1];exact h1)
 rw [List.getElem?_map,e] at e3
 cases e3
 exact ⟨g,e2,e1,r⟩
noncomputable abbrev Jy:DSp:=spec (fun p:Int × (I3 × I3) × Nat=>[t3 p.2.1.1,t3 p.2.1.2,.int p.2.2]) (fun p=>Ae8 p.1 p.2.1.1 p.2.1.2 p.2.2) fun p d=>∃ gs:List I3,d=.lst (gs.map t3)∧PwL p.1 p.2.1.1 p.2.2 gs
theorem QK (T:Txt K mg)
  (G_product:Pm P w K mg base 12 "product" Gu ["one","other"] Ji)
  : Pm P w K mg base 13 "_law_powers" DY ["_law_form","_law_first","_law_order"] Jy:=by
 obtain ⟨f,fd,F⟩:=T.t__law_powers
 refine ⟨f,fd,F,F.fn.okD Fw (by walk_at "lE") fun cdv A outer s H E hr=>⟨_,(Ae (Sx 3 Fw.nd (Aa (dv 1) Af)) (Ae (JQ PassesOwn.never rfl (Acu rfl T.z_range (Aa (Bu (dv 2) Ab) Af)) (Cg 4 Fw.nd) (Ae (Ak 5 Fw.nd (Ac (Ag Ad G_product (hr.mono (by decide)) rfl (Aa (Aa8 3 (dv 4)) (Aa (dv 0) Af))) Ab)) (Ae (Ci (Jx hr.units (dv 5) (dv 1)) (Ah (Aq (Tt Af))) Bg) (Ah (Pq 3 (dv 5)))))) (Ae (Ci (Ie hr.units (Ac (Ag Ad G_product (hr.mono (by decide)) rfl (Aa (Aa8 3 (Bu (dv 2) Ab)) (Aa (dv 0) Af))) Ab) (dv 1)) (Ah (Aq (Tt Af))) Bg) (Ah (Uc 3 (Aq (dv 3))))))),fun ds Q h=>?_⟩⟩
 obtain ⟨⟨D,⟨f,u⟩,d⟩,rfl,hP,q⟩:=h
 have hP:Ae8 D f u d:=hP
 have q:∀ e,(∃ gs:List I3,e=.lst (gs.map t3)∧PwL D f d gs)→Q e:=q
 have hD:=hP.hD
 have um:=hD.meas
 have d0:=hP.o.d0
 have d2:=hP.d2
 have step:∀ {g:I3} {i:Nat} {R:Dt→Prop},LK D g→Az (Br D) f i g→(∀ G,LK D G→Az (Br D) f (i+1) G→∀ p r,R (.tup [t3 G,N5 p r]))→Ji [t3 g,t3 f] R:=fun {g i R} lg pg k=>by
  refine Av (g,f) (lg.pair hD hP.lf) ?_
  rintro _ ⟨F,G,p,r,C,L,_,_,_,rfl,_⟩
  have C:Comp g f F:=C
  exact k G (LK.of hD (lg.gd.comp hP.lf.gd C) (Mq lg.gd hP.lf.gd C lg.pos hP.lf.pos) L) (Az.eqv (n:=i+1) ⟨g,pg,C⟩ L.eqv) p r
 have back:∀ {g:I3} {i:Nat},Az (Br D) f i g→g=u→Az (Br D) f i (Br D):=fun {g i} pg e=>by rw [e] at pg;exact pg.eqv hP.eu.symm
 walk_at "go"
 refine ⟨Ba (by decide),?_⟩
 refine Ia (ups 0 (d - 1)) (fun R hR=>?_) (fun k ρ=>∃ gs x y,ρ=[some (.is (t3 f)),some (.is (t3 u)),some (.is (.int (d:Nat))),some (.own (gs.map t3)),x,y]∧PwL D f (k+1) gs) ⟨[u],none,none,rfl,rfl,fun i hi=>⟨u,by rw [show i=0 by omega];rfl,hP.lu,by rw [show i=0 by omega];exact hP.eu⟩⟩ ?_ ?_
 ·walk_at "rd"
  refine ⟨by omega,?_⟩
  rw [show ((d:Int) - 1).toNat=d - 1 by omega]
  exact hR
 ·rintro k e _ hk ⟨gs,x,y,rfl,pw⟩
  obtain ⟨hk',rfl⟩:=Oj hk
  walk_at "rd"
  obtain ⟨g,e1,_,lg,pg⟩:=pw.ix (i:=0+(k:Int)) (by omega) (by omega)
  rw [show (0+(k:Int)).toNat=k by omega] at pg
  rw [e1]
  refine step lg pg fun G lG pG p r=>?_
  have ne:G≠u:=fun e=>hP.o.l (k+1) (by omega) (by omega) (back pG e)
  walk_at "rd"
  refine Ft ?_ ⟨JD (by rw [pw.1];omega),gs ++ [G],_,_,by rw [List.map_append];rfl,pw.add lG pG⟩
  rw [Bool.eq_false_iff]
  intro w
  simp only [Bool.and_eq_true,decide_eq_true_eq] at w
  exact ne (Prod.ext w.1 (Prod.ext w.2.1 w.2.2))
 ·rintro _ ⟨gs,x,y,rfl,pw⟩
  rw [Oi,show d - 1+1=d by omega] at pw
  walk_at "rd"
  obtain ⟨g,e1,_,lg,pg⟩:=pw.ix (i:=(d:Int) - 1) (by omega) (by omega)
  rw [show ((d:Int) - 1).toNat=d - 1 by omega] at pg
  rw [e1]
  refine step lg pg fun G lG pG p r=>?_
  rw [show d - 1+1=d by omega] at pG
  have e:G=u:=lG.uniq hP.lu ((Az.uniq rfl um hP.lf.gd pG hP.o.u).trans hP.eu)
  subst e
  walk_at "rd"
  exact Ft (by simp) (q _ ⟨gs,rfl,pw⟩)
noncomputable abbrev G4:DSp:=Ca (fun p:List Int × Int=>[.lst (p.1.map Dt.int),.int p.2]) (fun p=>0≤p.2) fun p=>.int (p.1.getD p.2.toNat 0)
theorem Fv {Q:Dt→Prop} (ns:List Int) (k:Int) (h:0≤k) (q:Q (.int (ns.getD k.toNat 0))):G4 [.lst (ns.map Dt.int),.int k] Q:=Aj (ns,k) h q
theorem Tr (T:Txt K mg)
  : Pm P w K mg base 1 "_law_cell" Ej ["_law_script","_law_k"] G4:=by
 obtain ⟨f,fd,F⟩:=T.t__law_cell
 refine ⟨f,fd,F,F.fn.okD TV (by walk_at "lE") fun cdv A outer s H E hr=>⟨_,(Ae (Ci (NT (dv 1) (Qe T.z_len (Aa (dv 0) Af))) (Ah (Aq (Ac (dv 0) (dv 1)))) Bg) (Ah (Aq Ab))),fun ds Q h=>?_⟩⟩
 obtain ⟨⟨ns,k⟩,rfl,h0,q⟩:=h
 walk_at "go"
 by_cases hk:k < ns.length
 ·simp only [decide_eq_true hk,AcH h0 hk,if_true]
  exact q _ rfl
 ·simp only [decide_eq_false hk]
  have e:ns.getD k.toNat 0=0:=by
   have:ns.length≤k.toNat:=by have h0':0≤k:=h0;omega
   simp [this]
  have q':=q _ rfl
  dsimp only at q'
  rw [e] at q'
  exact q'
noncomputable abbrev Ij:DSp:=Ca (fun n:Int=>[.int n]) (fun _=>True) fun _=>.bl true
theorem Q8 (T:Txt K mg)
  : Pm P w K mg base 1 "_law_whole" DK ["_law_found"] Ij:=by
 obtain ⟨f,fd,F⟩:=T.t__law_whole
 refine ⟨f,fd,F,F.fn.okD Ra (by walk_at "lE") fun cdv A outer s H E hr=>⟨_,(Ah (Aq (Xj (Xn T.z_isinstance T.z_int Adk (dv 0)) (Uo (AfL (Xn T.z_isinstance T.z_bool AaT (dv 0))))))),fun ds Q h=>?_⟩⟩
 obtain ⟨n,rfl,_,q⟩:=h
 have q':Q (.bl true):=q _ rfl
 walk_at "go"
 exact q'
noncomputable def isI:Dt→Bool
 | .int _=>true
 | _=>false
noncomputable abbrev Fy:DSp:=Ca (fun p:List Int × Int=>[.tup (p.1.map Dt.int),.int p.2]) (fun p=>p.1.length≤1000) fun p=>.bl (decide ((p.1.length:Int)=p.2))
theorem ZQ {Q:Dt→Prop} (ns:List Int) (k:Int) (h:(ns.length:Int)=k) (hl:ns.length≤1000) (q:Q (.bl true)):Fy [.tup (ns.map Dt.int),.int k] Q :=
 Aj (ns,k) hl (by dsimp only;rw [decide_eq_true h];exact q)
theorem Acr {Q:Dt→Prop} (p:I3) (q:Q (.bl true)):Fy [t3 p,.int 3] Q:=ZQ [p.1,p.2.1,p.2.2] 3 rfl (by show 3≤1000;decide) q
theorem Qy (T:Txt K mg)
  (G__law_whole:Pm P w K mg base 1 "_law_whole" DK ["_law_found"] Ij)
  : Pm P w K mg base 2 "_law_wholes" Df ["_law_found","_law_many"] Fy:=by
 obtain ⟨f,fd,F⟩:=T.t__law_wholes
 refine ⟨f,fd,F,F.fn.okD O1 (by walk_at "lE") fun cdv A outer s H E hr=>⟨_,(Ae (Ci (DW.dt (RQ (K5 (Ht (Xn T.z_isinstance T.z_tuple Zv (dv 0)))) (Qg (Ie hr.units (Qe T.z_len (Aa (dv 0) Af)) (dv 1))))) (Ah (Aq O3)) Bg) (Ah (Aq (YC hr.units (Qe T.z_len (Aa (Ph (Gh (sc:=Ai Df) (NN:=["_law_found","_law_many"]) (x:="_law_one") (N:=[]) (sl:=[]) rfl rfl (by decide +kernel)) rfl (Ahh (dv 0)) (fun cl C s0 H0 ex=>(Ht (Ag Ad G__law_whole (hr.mono (by decide)) rfl (Aa (dv 0) Af)))) (fun cl C s0 H0 ex=>(dv 0))) Af)) (dv 1))))),fun ds Q h=>?_⟩⟩
 obtain ⟨⟨ns,k⟩,rfl,h0,q⟩:=h
 walk_at "go"
 have q':=q _ rfl
 dsimp only at q'
 by_cases hk:(ns.length:Int)=k
 ·rw [decide_eq_true hk] at q'
  simp only [decide_eq_true hk]
  walk_at "rd"
  refine Mg (ns.map Dt.int) isI id (fun R h=>h) (by rw [List.length_map];exact Ba h0) Fj (fun d hd R hR=>?_) (fun d hd hp R hR=>hR) ?_
  ·unfold inner
   walk_at "rd"
   obtain ⟨n,_,rfl⟩:=List.mem_map.mp hd
   exact Aj n trivial hR
  ·have e:(List.filter isI (ns.map Dt.int)).map id=ns.map Dt.int:=by
    rw [List.map_id,List.filter_eq_self]
    intro d hd
    obtain ⟨n,_,rfl⟩:=List.mem_map.mp hd
    rfl
   rw [e]
   walk_at "rd"
   rw [decide_eq_true hk]
   exact q'
 ·rw [decide_eq_false hk] at q'
  simp only [decide_eq_false hk]
  exact q'
noncomputable abbrev G5:DSp:=spec (fun n:Int=>[.int n]) (fun n=>0≤n∧Bt 4000 n) fun n d=>∃ r,d=.int r∧Sq n r∧Bt 2001 r
theorem TF (T:Txt K mg)
  : Pm P w K mg base 1 "_law_root" Fo ["_law_number_here"] G5:=by
 obtain ⟨f,fd,F⟩:=T.t__law_root
 refine ⟨f,fd,F,F.fn.okD Jr (by walk_at "lE") fun cdv A outer s H E hr=>⟨_,(Ae (Ak 1 Jr.nd (Abo Ab (Ce (BL (S9 (dv 0)) Ab) Ab))) (Ae (Gf PassesOwn.never (NK (Ao (dv 1) (dv 1)) (dv 0)) (Ah (Ak 1 Jr.nd (Ce (BL (dv 1) (Ce (dv 0) (dv 1))) Ab)))) (Ah (Aq (dv 1))))),fun ds Q h=>?_⟩⟩
 obtain ⟨n,rfl,⟨h0,hb⟩,q⟩:=h
 walk_at "go"
 obtain ⟨c1,c2,c3⟩:=Nt hb
 have hu:=Vm h0
 refine ⟨⟨by decide,by decide⟩,c1,?_⟩
 generalize (1*2 ^ ((((Builtin.Int.intBits n:Nat):Int)+1).fdiv 2).toNat:Int)=g at *
 refine FZ (fun m ρ=>∃ g:Int,ρ=[some (.is (.int n)),some (.is (.int g))]∧0≤g∧Bt 2001 g∧n < (g+1)*(g+1)∧m=g.toNat) _ ⟨g,rfl,by omega,c2,hu,rfl⟩ ?_
 rintro m _ ⟨g,rfl,hg,hgb,hgu,rfl⟩
 walk_at "rd"
 refine ⟨hgb.mulOk hgb,JK (fun hw=>?_) (fun hw=>?_)⟩
 ·have hw:=of_decide_eq_true hw
  have hg0:0 < g:=by
   rcases Int.lt_or_le 0 g with z | z
   ·exact z
   ·have:g=0:=by omega
    subst this
    omega
  have hd:=Wa hg0 hw
  have hu':=RN h0 hg0
  have hp:0≤(g+n / g) / 2:=by
   have:=Int.ediv_nonneg h0 (show 0≤g by omega)
   omega
  have hbb:Bt 2001 ((g+n / g) / 2):=by unfold Bt at *;omega
  refine ⟨Bt.divOk hgb (by omega),⟨by decide,by decide⟩,?_⟩
  rw [Tw hg0]
  exact ⟨_,by omega,_,rfl,hp,hbb,hu',rfl⟩
 ·have hw:¬ n < g*g:=fun z=>hw (decide_eq_true z)
  exact q _ ⟨g,rfl,⟨by omega,by omega,hgu⟩,hgb⟩
noncomputable abbrev Lz:DSp:=spec (fun p:Int × List Int=>[.int p.1,.lst (p.2.map Dt.int)]) (fun p=>p.1=0∧p.2.length≤63) fun p d=>∃ t:I4,d=t4 t∧det t=1∧B4 210 t
theorem Sv (T:Txt K mg)
  : Pm P w K mg base 1 "_law_turn" Fq ["_law_first","_law_cells"] Lz:=by
 obtain ⟨f,fd,F⟩:=T.t__law_turn
 refine ⟨f,fd,F,F.fn.okD BR (by walk_at "lE") fun cdv A outer s H E hr=>⟨_,(Ae (Xl (BK (Aa Ab (Aa (dv 0) (Aa Ab (Aa Ab Af))))) (Ww (n:=4) rfl (DN (Cg 2 BR.nd) (DN (Cg 3 BR.nd) (DN (Cg 4 BR.nd) (DN (Cg 5 BR.nd) Td)))))) (Ae (JQ PassesOwn.never rfl (Jj (dv 1)) (Cg 6 BR.nd) (Ae (Ak 7 BR.nd (Bu (Dr (dv 6) Ab) Ab)) (Ah (Xl (BK (Aa (dv 3) (Aa (Bu (Ao (dv 7) (dv 3)) (dv 2)) (Aa (dv 5) (Aa (Bu (Ao (dv 7) (dv 5)) (dv 4)) Af))))) (Ww (n:=4) rfl (DN (Cg 2 BR.nd) (DN (Cg 3 BR.nd) (DN (Cg 4 BR.nd) (DN (Cg 5 BR.nd) Td))))))))) (Ah (Aq (BK (Aa (dv 2) (Aa (dv 3) (Aa (dv 4) (Aa (dv 5) Af))))))))),fun ds Q h=>?_⟩⟩
 obtain ⟨⟨f,cs⟩,rfl,⟨hf,hl⟩,q⟩:=h
 have hf:f=0:=hf
 walk_at "go"
 refine ⟨Ba (by decide),?_⟩
 have low:∀ {i:Nat} {x:Int},i≤63→x.natAbs≤10 ^ i→Bt 210 x:=fun {i x} hi h=>by
  have h1:(10:Nat) ^ i≤10 ^ 63:=Nat.pow_le_pow_right (by decide) hi
  have h2:(10:Nat) ^ 63 < 2 ^ 210:=by decide
  exact Nat.lt_of_le_of_lt h (Nat.lt_of_le_of_lt h1 h2)
 have hl:cs.length≤63:=hl
 refine Ia (cs.map Dt.int) (fun R h=>h) (fun i ρ=>∃ p q r s x y,ρ=[some (.is (.int f)),some (.is (.lst (cs.map Dt.int))),some (.is (.int p)),some (.is (.int q)),some (.is (.int r)),some (.is (.int s)),x,y]∧p*s - q*r=1∧p.natAbs≤10 ^ i∧q.natAbs≤10 ^ i∧r.natAbs≤10 ^ i∧s.natAbs≤10 ^ i) ?_ ?_ ?_
 ·exact ⟨1,f,0,1,none,none,rfl,by omega,by decide,by rw [hf];decide,by decide,by decide⟩
 ·rintro i d _ hi ⟨p,q,r,s,x,y,rfl,hd,hp,hq,hr,hs⟩
  obtain ⟨n,hn,rfl⟩:=ints_get hi
  have hk0:n.fmod 19=n % 19:=Int.fmod_eq_emod_of_nonneg n (by decide)
  have hk:Bt 4 (n.fmod 19 - 9):=by
   rw [hk0]
   exact Bt.of (by omega) (by omega)
  have hi6:i < 63:=by
   have:=(List.getElem?_eq_some_iff.mp hn).1
   omega
  have hq':Bt 210 q:=low (by omega) hq
  have hs':Bt 210 s:=low (by omega) hs
  have e10:10 ^ (i+1)=10*10 ^ i:=by rw [Nat.pow_succ,Nat.mul_comm]
  have up:∀ {x y k:Int},k.natAbs≤9→x.natAbs≤10 ^ i→y.natAbs≤10 ^ i→(k*x - y).natAbs≤10 ^ (i+1):=fun {x y k} h1 h2 h3=>by
   have a1:(k*x).natAbs≤9*10 ^ i:=by rw [Int.natAbs_mul];exact Nat.mul_le_mul h1 h2
   rw [e10]
   omega
  have k9:(n.fmod 19 - 9).natAbs≤9:=by rw [hk0];omega
  walk_at "rd"
  refine ⟨by decide,by walk_at "mul",by walk_at "mul",Ba (by decide),?_⟩
  refine ⟨q,(n.fmod 19 - 9)*q - p,s,(n.fmod 19 - 9)*s - r,_,_,rfl,by grind,by omega,up k9 hq hp,by omega,up k9 hs hr⟩
 ·rintro _ ⟨p,q',r,s,x,y,rfl,hd,hp,hq,hr,hs⟩
  walk_at "rd"
  rw [List.length_map] at hp hq hr hs
  refine ⟨Ba (by decide),q _ ⟨(p,q',r,s),rfl,hd,low hl hp,low hl hq,low hl hr,low hl hs⟩⟩
noncomputable abbrev Kz:DSp:=Ca (fun p:I3 × I2=>[t3 p.1,.int p.2.1,.int p.2.2]) (fun p=>B3 20000 p.1∧B2 300100 p.2) fun p=>.int (val p.1 p.2)
theorem Rk (T:Txt K mg)
  : Pm P w K mg base 1 "_law_value" Es ["_law_form","_law_x","_law_y"] Kz:=by
 obtain ⟨f,fd,F⟩:=T.t__law_value
 refine ⟨f,fd,F,F.fn.okD Rg (by walk_at "lE") fun cdv A outer s H E hr=>⟨_,(Ah (Aq (BL (BL (Ao (Ao (Ac (dv 0) Ab) (dv 1)) (dv 1)) (Ao (Ao (Ac (dv 0) Ab) (dv 1)) (dv 2))) (Ao (Ao (Ac (dv 0) Ab) (dv 2)) (dv 2))))),fun ds Q h=>?_⟩⟩
 obtain ⟨⟨⟨a,b,c⟩,x,y⟩,rfl,⟨⟨ha,hb,hc⟩,hx,hy⟩,q⟩:=h
 walk_at "go"
 walk_at "muls"
 exact q _ rfl
noncomputable abbrev KC:DSp:=Ca (fun p:I3 × I4=>[t3 p.1,t4 p.2]) (fun p=>B3 20000 p.1∧B4 300000 p.2) fun p=>t3 (mov p.1 p.2)
theorem Rh (T:Txt K mg)
  (G__law_value:Pm P w K mg base 1 "_law_value" Es ["_law_form","_law_x","_law_y"] Kz)
  : Pm P w K mg base 2 "_law_moved" Eu ["_law_form","_law_turn_here"] KC:=by
 obtain ⟨f,fd,F⟩:=T.t__law_moved
 refine ⟨f,fd,F,F.fn.okD DP (by walk_at "lE") fun cdv A outer s H E hr=>⟨_,(Ae (Xl (dv 1) (Ww (n:=4) rfl (DN (Cg 2 DP.nd) (DN (Cg 3 DP.nd) (DN (Cg 4 DP.nd) (DN (Cg 5 DP.nd) Td)))))) (Ae (Ak 6 DP.nd (Bu (Bu (Ag Ad G__law_value (hr.mono (by decide)) rfl (Aa (dv 0) (Aa (BL (dv 2) (dv 3)) (Aa (BL (dv 4) (dv 5)) Af)))) (Ag Ad G__law_value (hr.mono (by decide)) rfl (Aa (dv 0) (Aa (dv 2) (Aa (dv 4) Af))))) (Ag Ad G__law_value (hr.mono (by decide)) rfl (Aa (dv 0) (Aa (dv 3) (Aa (dv 5) Af)))))) (Ah (Aq (BK (Aa (Ag Ad G__law_value (hr.mono (by decide)) rfl (Aa (dv 0) (Aa (dv 2) (Aa (dv 4) Af)))) (Aa (dv 6) (Aa (Ag Ad G__law_value (hr.mono (by decide)) rfl (Aa (dv 0) (Aa (dv 3) (Aa (dv 5) Af)))) Af)))))))),fun ds Q h=>?_⟩⟩
 obtain ⟨⟨f,e,g,i,j⟩,rfl,⟨hf,he,hg,hi,hj⟩,q⟩:=h
 walk_at "go"
 have h1:B2 300100 (e+g,i+j):=⟨(he.add hg).le (by decide),(hi.add hj).le (by decide)⟩
 have h2:B2 300100 (e,i):=⟨he.le (by decide),hi.le (by decide)⟩
 have h3:B2 300100 (g,j):=⟨hg.le (by decide),hj.le (by decide)⟩
 refine Aj (f,(e+g,i+j)) ⟨hf,h1⟩ (Aj (f,(e,i)) ⟨hf,h2⟩ ?_)
 walk_at "rd"
 refine Aj (f,(g,j)) ⟨hf,h3⟩ ?_
 walk_at "rd"
 refine Aj (f,(e,i)) ⟨hf,h2⟩ (Aj (f,(g,j)) ⟨hf,h3⟩ ⟨Ba (by decide),?_⟩)
 have q':=q _ rfl
 dsimp only [mov] at q'
 have em:val f (e+g,i+j) - val f (e,i) - val f (g,j)=mid f (e,i) (g,j):=by
  obtain ⟨a,b,c⟩:=f
  simp only [val,mid];grind
 rw [em]
 exact q'
theorem AgI:¬ Hs 1000:=fun ⟨r,e⟩=>by
 have e2:(r.natAbs:Int)*r.natAbs=1000:=(Int.natAbs_mul_self' r).trans e
 rcases Nat.lt_or_ge r.natAbs 32 with z | z
 ·have:∀ n:Nat,n < 32→n*n≠1000:=by decide
  exact this r.natAbs z (by exact_mod_cast e2)
 ·have:=Nat.mul_le_mul z z
  have:(r.natAbs*r.natAbs:Nat)=1000:=by exact_mod_cast e2
  omega
noncomputable abbrev JH:DSp:=spec (fun ns:List Int=>[.lst (ns.map Dt.int)]) (fun _=>True) fun _ d=>∃ n:Int,d=.int n∧VL n
theorem Qa (T:Txt K mg)
  (G__law_cell:Pm P w K mg base 1 "_law_cell" Ej ["_law_script","_law_k"] G4)
  (G__law_root:Pm P w K mg base 1 "_law_root" Fo ["_law_number_here"] G5)
  : Pm P w K mg base 2 "_law_number" DR ["_law_script"] JH:=by
 obtain ⟨f,fd,F⟩:=T.t__law_number
 refine ⟨f,fd,F,F.fn.okD Ed (by walk_at "lE") fun cdv A outer s H E hr=>⟨_,(Ae (Ak 1 Ed.nd (Bu (Dr (Ag Ad G__law_cell (hr.mono (by decide)) rfl (Aa (dv 0) (Aa Ab Af))) Ab) Ab)) (Ae (Ci (NK (Dr (Ag Ad G__law_cell (hr.mono (by decide)) rfl (Aa (dv 0) (Aa Ab Af))) Ab) Ab) (Ah (Ak 1 Ed.nd (Bu (Dr (Ag Ad G__law_cell (hr.mono (by decide)) rfl (Aa (dv 0) (Aa Ab Af))) Ab) Ab))) Bg) (Ae (Ci (Jx hr.units (Dr (Ag Ad G__law_cell (hr.mono (by decide)) rfl (Aa (dv 0) (Aa Ab Af))) Ab) Ab) (Ah (Ak 1 Ed.nd (Bu Ab (Dr (Ag Ad G__law_cell (hr.mono (by decide)) rfl (Aa (dv 0) (Aa Ab Af))) Ab)))) Bg) (Ae (Gf PassesOwn.never (DW.dt (RQ (NK (Dr (dv 1) Ab) Ab) (Qg (DW.dt (XQ (Aj7 (dv 1) Ab) (SJ (Jx hr.units (Ao (Ag Ad G__law_root (hr.mono (by decide)) rfl (Aa (dv 1) Af)) (Ag Ad G__law_root (hr.mono (by decide)) rfl (Aa (dv 1) Af))) (dv 1)))))))) (Ah (Ak 1 Ed.nd (BL (dv 1) Ab)))) (Ah (Aq (dv 1))))))),fun ds Q h=>?_⟩⟩
 obtain ⟨ns,rfl,_,q⟩:=h
 have q:∀ d,(∃ n:Int,d=.int n∧VL n)→Q d:=q
 have r1:=FQ (ns.getD (Int.toNat 0) 0) (m:=2001) (by decide)
 have r2:=FQ (ns.getD (Int.toNat 0) 0) (m:=601) (by decide)
 have r3:=FQ (ns.getD (Int.toNat 0) 0) (m:=4001) (by decide)
 walk_at "go"
 have loop:∀ n0:Int,-4000≤n0→n0≤1000→Xz (AgM (LC (dOp dGt (dOp (dI (fun x j=>j≠0) fun i j=>i.fmod j) (Qv 1) (dC (Dt.int 4))) (dC (Dt.int 1)))) (AaL (LC (dOp dGe (Qv 1) (dC (Dt.int 0)))) (LC (dOp dEq (dOp (dI IntMulOk fun i j=>i*j) (dCall G5 (YJ (Qv 1) Aab)) (dCall G5 (YJ (Qv 1) Aab))) (Qv 1)))))
   (Ady (dOp (dI0 fun i j=>i+j) (Qv 1) (dC (Dt.int 1))) (S8 1)) { nx:=Agz (Qv 1) { nx:=fun x=>Q Dt.non,rt:=Q },rt:=Q } [some (.is (.lst (ns.map Dt.int))),some (.is (.int n0))]:=fun n0 h1 h2=>by
  refine FZ (fun m ρ=>∃ n:Int,ρ=[some (.is (.lst (ns.map Dt.int))),some (.is (.int n))]∧-4000≤n∧n≤1000∧m=(1000 - n).toNat) _ ⟨n0,rfl,h1,h2,rfl⟩ ?_
  rintro m _ ⟨n,rfl,l1,l2,rfl⟩
  have e4:n.fmod 4=n % 4:=Int.fmod_eq_emod_of_nonneg _ (by decide)
  have bn:Bt 20 n:=Bt.of (by omega) (by omega)
  have more:n≠1000→∃ m',m' < (1000 - n).toNat∧∃ n',([some (En.is (.lst (ns.map Dt.int))),some (En.is (.int (n+1)))]:BX)=[some (.is (.lst (ns.map Dt.int))),some (.is (.int n'))]∧-4000≤n'∧n'≤1000∧m'=(1000 - n').toNat:=fun z=>⟨(1000 - (n+1)).toNat,by omega,n+1,rfl,by omega,by omega,rfl⟩
  have done:n % 4≤1→¬ Hs n→Q (.int n):=fun h1 h2=>q _ ⟨n,rfl,by omega,h2,by omega⟩
  walk_at "rd"
  refine ⟨by decide,JK (fun h=>?_) (fun h=>JK (fun h0=>?_) (fun h0=>?_))⟩
  ·have h:=of_decide_eq_true h
   exact more (fun e=>by rw [e] at e4 h;omega)
  ·have h:¬ 1 < n.fmod 4:=fun z=>h (decide_eq_true z)
   have h0:=of_decide_eq_true h0
   refine Av n ⟨h0,bn.le (by decide)⟩ ?_
   rintro _ ⟨r,rfl,hs,hb⟩
   have hs:Sq n r:=hs
   refine Av n ⟨h0,bn.le (by decide)⟩ ?_
   rintro _ ⟨r',rfl,hs',_⟩
   obtain rfl:=hs.uniq hs'
   refine ⟨hb.mulOk hb,JK (fun e=>?_) (fun e=>?_)⟩
   ·have e:=of_decide_eq_true e
    exact more (fun z=>AgI ⟨r,by rw [e,z]⟩)
   ·exact done (by omega) (fun sq=>e (decide_eq_true ((Uy hs).mp sq)))
  ·have h:¬ 1 < n.fmod 4:=fun z=>h (decide_eq_true z)
   have h0:¬ 0≤n:=fun z=>h0 (decide_eq_true z)
   exact done (by omega) (Lq (by omega))
 exact Fv ns 0 (by decide) ⟨by decide,Fv ns 1 (by decide) ⟨by decide,JK
  (fun _=>Fv ns 0 (by decide) ⟨by decide,Fv ns 1 (by decide) ⟨by decide,JK (fun _=>Fv ns 0 (by decide) ⟨by decide,loop _ (by omega) (by omega)⟩) (fun _=>loop _ (by omega) (by omega))⟩⟩)
  (fun _=>Fv ns 1 (by decide) ⟨by decide,JK (fun _=>Fv ns 0 (by decide) ⟨by decide,loop _ (by omega) (by omega)⟩) (fun _=>loop _ (by omega) (by omega))⟩)⟩⟩
theorem AdV {ls:List I3} {k:Int} (h0:0≤k) (h1:k < ls.length):∃ g,g∈ls∧ixD k (.lst (ls.map t3))=some (t3 g):=by
 obtain ⟨d,e1,_,m⟩:=Aad (ds:=ls.map t3) h0 (by rw [List.length_map];exact h1)
 obtain ⟨g,hg,rfl⟩:=List.mem_map.mp (List.mem_of_getElem? m)
 exact ⟨g,hg,e1⟩
theorem Agb (T:Txt K mg)
  (G__law_number:Pm P w K mg base 2 "_law_number" DR ["_law_script"] JH)
  (G_classes:Pm P w K mg base 9 "classes" Hi ["number"] Oz)
  (G__law_moved:Pm P w K mg base 2 "_law_moved" Eu ["_law_form","_law_turn_here"] KC)
  (G_order_of:Pm P w K mg base 14 "order_of" Gi ["form"] NQ)
  (G__law_powers:Pm P w K mg base 13 "_law_powers" DY ["_law_form","_law_first","_law_order"] Jy)
  (G__law_turn:Pm P w K mg base 1 "_law_turn" Fq ["_law_first","_law_cells"] Lz)
  (G_unit:Pm P w K mg base 12 "unit" JL ["number"] Oo)
  (G_power:Pm P w K mg base 15 "power" J5 ["form","count"] U9)
  (G__law_cell:Pm P w K mg base 1 "_law_cell" Ej ["_law_script","_law_k"] G4)
  (G__law_whole:Pm P w K mg base 1 "_law_whole" DK ["_law_found"] Ij)
  (G__law_wholes:Pm P w K mg base 2 "_law_wholes" Df ["_law_found","_law_many"] Fy)
  : Pm P w K mg base 16 "law" Li ["_law_script"] Ub:=by
 obtain ⟨f,fd,F⟩:=T.t_law
 refine ⟨f,fd,F,F.fn.okD Hr (by walk_at "lE") fun cdv A outer s H E hr=>⟨_,(Ae (Ak 1 Hr.nd (Ag Ad G__law_number (hr.mono (by decide)) rfl (Aa (dv 0) Af))) (Ae (Ak 2 Hr.nd (Ag Ad G_classes (hr.mono (by decide)) rfl (Aa (dv 1) Af))) (Ae (Ak 3 Hr.nd (Ac (dv 2) (Dr (Ag Ad G__law_cell (hr.mono (by decide)) rfl (Aa (dv 0) (Aa Ab Af))) (Qe T.z_len (Aa (dv 2) Af))))) (Ae (Ak 4 Hr.nd (Ag Ad G__law_moved (hr.mono (by decide)) rfl (Aa (dv 3) (Aa (Ag Ad G__law_turn (hr.mono (by decide)) rfl (Aa Ab (Aa (UG (dv 0) (Ls Ab) (Ls Ab)) Af))) Af)))) (Ae (Ak 5 Hr.nd (Ag Ad G_order_of (hr.mono (by decide)) rfl (Aa (dv 4) Af))) (Ae (Ci (DW.dt (RQ (K5 (Ht (Ag Ad G__law_whole (hr.mono (by decide)) rfl (Aa (dv 5) Af)))) (RQ (NT (dv 5) Ab) (Qg (Ie hr.units (Dr (Qe T.z_len (Aa (dv 2) Af)) (dv 5)) Ab))))) (Ah (Aq O3)) Bg) (Ae (Ak 6 Hr.nd (Ag Ad G__law_powers (hr.mono (by decide)) rfl (Aa (dv 3) (Aa (Ag Ad G_unit (hr.mono (by decide)) rfl (Aa (dv 1) Af)) (Aa (dv 5) Af))))) (Ae (Ci (Jx hr.units (dv 6) (Tt Af)) (Ah (Aq O3)) Bg) (Ae (Ak 7 Hr.nd (Bu (Dr (Ce (Ag Ad G__law_cell (hr.mono (by decide)) rfl (Aa (dv 0) (Aa Ab Af))) Ab) Ab) Ab)) (Ae (Ci (Jx hr.units (Dr (Ag Ad G__law_cell (hr.mono (by decide)) rfl (Aa (dv 0) (Aa Ab Af))) Ab) Ab) (Ah (Ak 7 Hr.nd (Bu (Dr (Ce (Ag Ad G__law_cell (hr.mono (by decide)) rfl (Aa (dv 0) (Aa Ab Af))) Ab) Ab) Ab))) Bg) (Ae (JQ PassesOwn.never rfl (Jj (Tt (Aa Ab (Aa Ab (Aa (Ek Ab) (Aa (dv 5) (Aa (Bu (dv 5) Ab) (Aa (dv 7) Af)))))))) (Cg 8 Hr.nd) (Ae (Ak 9 Hr.nd (Ag Ad G_power (hr.mono (by decide)) rfl (Aa (dv 4) (Aa (dv 8) Af)))) (Ah (Ci (DW.dt (RQ (K5 (Ht (Ag Ad G__law_wholes (hr.mono (by decide)) rfl (Aa (dv 9) (Aa Ab Af))))) (Qg (Ie hr.units (dv 9) (Ac (dv 6) (Dr (dv 8) (dv 5))))))) (Ah (Aq O3)) Bg)))) (Ah (Aq (YC hr.units (Ag Ad G_order_of (hr.mono (by decide)) rfl (Aa (dv 3) Af)) (dv 5))))))))))))))),fun ds Q h=>?_⟩⟩
 obtain ⟨ns,rfl,hl,q⟩:=h
 have hl:ns.length≤63:=hl
 have q':Q (.bl true):=q _ rfl
 walk_at "go"
 refine Av ns trivial ?_
 rintro _ ⟨n,rfl,W⟩
 have W:VL n:=W
 have hD:=W.u
 have um:=hD.meas
 have mD:=W.m
 refine Av n W ?_
 rintro _ ⟨ls,rfl,C⟩
 have C:Qt n ls:=C
 have Ck:=Ait C W.q (by omega)
 have Fu:Jd n (Br n):=⟨Vz hD,fun _=>by show (0:Int) < 1;decide⟩
 have l0:0 < ls.length:=by
  obtain ⟨G,h,_⟩:=Ck.has Fu (by omega)
  exact List.length_pos_of_mem h
 have ll:=C.len
 obtain ⟨cs,ec,hcs⟩:=AaN ns (some 4) (some 64)
 walk_at "rd"
 rw [ec] at *
 refine Fv ns 2 (by decide) ?_
 walk_at "rd"
 have i2:=FQ (ns.getD (Int.toNat 2) 0) (m:=(ls.length:Int)) (by omega)
 obtain ⟨f,inf,e1⟩:=AdV i2.1 i2.2
 rw [e1]
 obtain ⟨mf,pf,Lf⟩:=(C.mem f).mp inf
 have Ff:=Ck.fine W.q inf
 have kf:LK n f:=LK.of hD Ff.gd Ff.pos Lf
 have bf:B3 13 f:=Lf.btn (by rw [mf];exact Bt.of (by omega) (by omega)) (by decide)
 refine ⟨by omega,Av (0,cs) ⟨rfl,by show cs.length≤63;omega⟩ ?_⟩
 rintro _ ⟨t,rfl,dt,bt⟩
 have bt:B4 210 t:=bt
 have dt:det t=1:=dt
 refine Aj (f,t) ⟨bf.le (by decide),bt.le (by decide)⟩ ?_
 obtain ⟨F,eF⟩:∃ F,mov f t=F:=⟨_,rfl⟩
 dsimp only
 rw [eF]
 have bF:B3 690 F:=by rw [←eF];exact (B3.mov bf bt).le (by decide)
 have mF:meas F=n:=by rw [←eF,Bs dt];exact mf
 have pF:g3 F=1:=by rw [←eF,Xg dt];exact pf
 have kF:Bo F∨Sad F:=by rw [←eF];exact Abs (kf.kind hD) dt
 have efF:Eqv f F:=⟨t,dt,eF⟩
 refine Av F ⟨bF,kF,pF,by rw [mF];exact W⟩ ?_
 rintro _ ⟨d,rfl,O⟩
 have O:Iv (Br (meas F)) F d:=O
 rw [mF] at O
 have Of:=O.base efF.symm
 have dv:=Aap rfl um Ck Ff (by omega) Of
 have dl:=Nat.le_of_dvd l0 dv
 have d0:=O.d0
 walk_at "rd"
 refine Aj ((d:Nat):Int) trivial (Ft rfl (Ft (decide_eq_false (by omega)) ⟨by omega,Ft ?_ (Av n hD ?_)⟩))
 ·obtain ⟨k,hk⟩:=dv
  rw [hk,Int.natCast_mul,Int.mul_comm,Int.mul_fmod_left,decide_eq_true rfl]
  rfl
 rintro _ ⟨u,rfl,Lu⟩
 have Lu:LF (Br n) u:=Lu
 have uk:=Uj hD Lu
 refine Av (n,(f,u),d) ⟨hD,kf,uk,Lu.eqv,Of,by show d≤16200;omega⟩ ?_
 rintro _ ⟨gs,rfl,pw⟩
 have pw:PwL n f d gs:=pw
 have fl:Dt.flat 8 (.lst (gs.map t3))=true:=by
  rw [Yz,show gs.map t3=(gs.map rw3).map Dn by rw [List.map_map];rfl]
  exact QS 6 _
 have gne:Dt.eq (.lst (gs.map t3)) (.lst [])=false:=by
  cases hg:gs with
  | nil=>have:=pw.1;rw [hg] at this;simp at this;omega
  | cons a b=>rw [List.map_cons,Afv,Abj]
 have FF:Jd n F:=Ff.eqv efF
 refine ⟨Nat.zero_le _,fl,Ft gne (Fv ns 3 (by decide) ⟨⟨by decide,by decide⟩,by decide,Fv ns 3 (by decide) ⟨by decide,JK (fun _=>Fv ns 3 (by decide) ⟨⟨by decide,by decide⟩,by decide,?_⟩) (fun _=>?_)⟩⟩)⟩
 case' refine_1 =>
  have rc:=FQ ((ns.getD (Int.toNat 3) 0).fdiv 4) (m:=2000001) (by decide)
  obtain ⟨c,ecn⟩:∃ c,((ns.getD (Int.toNat 3) 0).fdiv 4).fmod 2000001 - 1000000=c:=⟨_,rfl⟩
  rw [ecn]
  have c6:-1000000≤c∧c≤1000000:=by omega
 case' refine_2 =>
  have rc:=FQ ((ns.getD (Int.toNat 3) 0).fdiv 4) (m:=2001) (by decide)
  obtain ⟨c,ecn⟩:∃ c,((ns.getD (Int.toNat 3) 0).fdiv 4).fmod 2001 - 1000=c:=⟨_,rfl⟩
  rw [ecn]
  have c6:-1000000≤c∧c≤1000000:=by omega
 all_goals
  refine M7 ?_
  walk_at "rd"
  have six:∀ m∈([0,1,-1,(d:Int),(d:Int) - 1,c]:List Int),-1000000≤m∧m≤1000000:=fun m hm=>by
   simp only [List.mem_cons,List.not_mem_nil,or_false] at hm
   omega
  refine ⟨Ba (by decide),Ia (([0,1,-1,(d:Int),(d:Int) - 1,c]:List Int).map Dt.int) (fun R h=>h) (fun i ρ=>∃ x y:Option En,ρ=[some (.is (.lst (ns.map Dt.int))),some (.is (.int n)),some (.is (.lst (ls.map t3))),some (.is (t3 f)),some (.is (t3 F)),some (.is (.int (d:Nat))),some (.is (.lst (gs.map t3))),some (.is (.int c)),x,y]) ⟨none,none,rfl⟩ ?_ ?_⟩
  ·rintro i e _ hi ⟨x',y',rfl⟩
   obtain ⟨m,hm,rfl⟩:=List.mem_map.mp (List.mem_of_getElem? hi)
   obtain ⟨lo,hi'⟩:=six m hm
   walk_at "rd"
   refine Av (F,m) ⟨bF,kF,pF,by rw [mF];exact hD,lo,hi'⟩ ?_
   rintro _ ⟨G,rfl,pG,lG⟩
   rw [mF] at pG lG
   have rm:=FQ m (m:=(d:Int)) (by omega)
   obtain ⟨g,_,e2,lg,pg⟩:=pw.ix rm.1 rm.2
   have eg:G=g:=by
    refine lG.uniq lg (Aan (d:=d) (r:=(m.fmod d).toNat) (q:=m.fdiv d) rfl um FF O.u ?_ (pg.base efF))
    have e3:(((m.fmod d).toNat:Nat):Int)+d*m.fdiv d=m:=by
     have:=Int.fmod_add_mul_fdiv m d
     omega
    rw [e3]
    exact pG
   subst eg
   walk_at "rd"
   refine Acr G (Ft rfl ⟨by omega,?_⟩)
   rw [e2]
   walk_at "rd"
   exact Ft (by simp) ⟨_,_,rfl⟩
  ·rintro _ ⟨x',y',rfl⟩
   walk_at "rd"
   refine Av f ⟨bf.le (by decide),kf.kind hD,pf,by rw [mf];exact W⟩ ?_
   rintro _ ⟨d',rfl,O'⟩
   have O':Iv (Br (meas f)) f d':=O'
   rw [mf] at O'
   obtain rfl:=O'.uniq Of
   exact ⟨KD,by rw [Rw,decide_eq_true rfl];exact q'⟩
end
noncomputable abbrev nF (K:PySem.W.Frag) (n:Str) (s:Stmt):Prop:=∃ (f:Addr) (oc:Value) (od:Option Addr) (kV dc pm:Value) (an:Option Addr) (cd ct:Value) (sl:Array (Option Value)),PySem.W.nsIn K mainGlobals n=some (some (.ref f))∧K.lookup f=some ⟨oc,od,.func (PySem.W.fnOf n n (Ep s) (Dz s) (Ai s) .none kV dc pm an cd ct),sl⟩∧PySem.W.codeIn K cd n=true∧PySem.W.keepIn K (.ref f)=true
theorem AeB {K:PySem.W.Frag} {n:Str} {s:Stmt} {f:Addr} {od an:Option Addr} {sl:Array (Option Value)} {oc kV dc pm cd ct:Value} (a:PySem.W.nsIn K mainGlobals n=some (some (.ref f))) (l:K.lookup f=some ⟨oc,od,.func (PySem.W.fnOf n n (Ep s) (Dz s) (Ai s) .none kV dc pm an cd ct),sl⟩) (c:PySem.W.codeIn K cd n=true) (k:PySem.W.keepIn K (.ref f)=true):nF K n s:=⟨f,oc,od,kV,dc,pm,an,cd,ct,sl,a,l,c,k⟩
theorem tM {K:PySem.W.Frag} {h:Heap} {mg:Str→Option Value} {n:Str} {s:Stmt} {ps:List Str} (X:K.In h) (G:h.Ns mainGlobals mg) (H:nF K n s)
  (hb:∀ (kV doc pm:Value) (an:Option Addr) (cdv ct:Value) (us:List Value),us.length=ps.length→bindArgs (PySem.W.fnOf n n (Ep s) (Dz s) (Ai s) .none kV doc pm an cdv ct) ⟨us,[]⟩=pure (ps.zip us)):∃ f fd,FnT K mg n s ps f fd:=by
 obtain ⟨f,oc,od,kV,dc,pm,an,cd,ct,sl,a,l,c,k⟩:=H
 have F:=Nh (st:=s) l c k
 exact ⟨_,_,F,PySem.W.mg_of X G a,F.binds hb⟩
set_option maxHeartbeats 8000000 in
theorem all_mk {l:PySem.W.OpenLaw} {w:World} {K:PySem.W.Frag} {h:Heap} {mg:Str→Option Value} {fa:Addr} (X:K.In h) (G:h.Ns mainGlobals mg) (hfa:mg "law"=some (.ref fa))
  (h0:nF K "divisor" G9)
  (h1:nF K "shares" Ir)
  (h2:nF K "row_less" Gk)
  (h3:nF K "root" Ii)
  (h4:nF K "is_square" Eh)
  (h5:nF K "powered" Hg)
  (h6:nF K "check_at_most" Cm)
  (h7:nF K "check_within" Cz)
  (h8:nF K "is_turn" G7)
  (h9:nF K "check_turn" Dc)
  (h10:nF K "led" RL)
  (h11:nF K "put_behind" Dv)
  (h12:nF K "back" Ms)
  (h13:nF K "measure" CW)
  (h14:nF K "value" J8)
  (h15:nF K "content" Gq)
  (h16:nF K "moved" Jq)
  (h17:nF K "middle" Ip)
  (h18:nF K "opposite" Gv)
  (h19:nF K "shape" Ig)
  (h20:nF K "check_bowl" Eo)
  (h21:nF K "stands_least" CJ)
  (h22:nF K "settled" Hh)
  (h23:nF K "turn_lower" El)
  (h24:nF K "check_saddle" Cd)
  (h25:nF K "stands_level" CG)
  (h26:nF K "turn_behind" DX)
  (h27:nF K "stop_behind" Dj)
  (h28:nF K "eased" J4)
  (h29:nF K "stops_round" Di)
  (h30:nF K "round_of" Fg)
  (h31:nF K "lowered" G6)
  (h32:nF K "shape_of" Dk)
  (h33:nF K "least_of" Fi)
  (h34:nF K "product" Gu)
  (h35:nF K "check_pair" Er)
  (h36:nF K "check_plain" Cv)
  (h37:nF K "half_of_middles" Bp)
  (h38:nF K "common_shares" CV)
  (h39:nF K "joint_form" Et)
  (h40:nF K "joint_rows" Em)
  (h41:nF K "rows_led" Du)
  (h42:nF K "check_measure" Cj)
  (h43:nF K "unit" JL)
  (h44:nF K "classes" Hi)
  (h45:nF K "least_bowls" Dg)
  (h46:nF K "least_saddles" CT)
  (h47:nF K "plain_forms" Cu)
  (h48:nF K "least_product" Cp)
  (h49:nF K "power" J5)
  (h50:nF K "order_of" Gi)
  (h51:nF K "_law_cell" Ej)
  (h52:nF K "_law_whole" DK)
  (h53:nF K "_law_wholes" Df)
  (h54:nF K "_law_root" Fo)
  (h55:nF K "_law_turn" Fq)
  (h56:nF K "_law_value" Es)
  (h57:nF K "_law_moved" Eu)
  (h58:nF K "_law_number" DR)
  (h59:nF K "_law_powers" DY)
  (h60:nF K "law" Li)
  (z_abs:PySem.W.nsIn K mainGlobals "abs"=some none)
  (z_bool:PySem.W.nsIn K mainGlobals "bool"=some none)
  (z_int:PySem.W.nsIn K mainGlobals "int"=some none)
  (z_isinstance:PySem.W.nsIn K mainGlobals "isinstance"=some none)
  (z_len:PySem.W.nsIn K mainGlobals "len"=some none)
  (z_max:PySem.W.nsIn K mainGlobals "max"=some none)
  (z_min:PySem.W.nsIn K mainGlobals "min"=some none)
  (z_range:PySem.W.nsIn K mainGlobals "range"=some none)
  (z_tuple:PySem.W.nsIn K mainGlobals "tuple"=some none)
  (z_zip:PySem.W.nsIn K mainGlobals "zip"=some none)
  {CS_Shape gS_Shape:Addr} {odS_Shape anS_Shape:Option Addr} {slS_Shape:Array (Option Value)} {ocS_Shape kVS_Shape dcS_Shape pmS_Shape cdS_Shape ctS_Shape:Value}
  (aS_Shape:PySem.W.nsIn K mainGlobals "Shape"=some (some (.ref CS_Shape))) (sS_Shape:PySem.W.specialIn K (.ref CS_Shape) "__getattribute__"=some (some (.builtin "type.__getattribute__"))) (rS_Shape:PySem.W.readsIn K CS_Shape (.type "type")=true) (fS_Shape:PySem.W.findCls K (.ref CS_Shape) (.type "type") "__init__"=some (.val (.ref gS_Shape)))
  (lS_Shape:K.lookup gS_Shape=some ⟨ocS_Shape,odS_Shape,.func (PySem.W.fnOf "__init__" "Shape.__init__" (Ep IW) (Dz IW) (Ai IW) .none kVS_Shape dcS_Shape pmS_Shape anS_Shape cdS_Shape ctS_Shape),slS_Shape⟩) (cS_Shape:PySem.W.codeIn K cdS_Shape "Shape.__init__"=true) (kS_Shape:PySem.W.keepIn K (.ref gS_Shape)=true)
  {CO_Bowl fO_Bowl:Addr} {odO_Bowl anO_Bowl:Option Addr} {slO_Bowl:Array (Option Value)} {ocO_Bowl kVO_Bowl dcO_Bowl pmO_Bowl cdO_Bowl ctO_Bowl:Value}
  (aO_Bowl:PySem.W.nsIn K mainGlobals "Bowl"=some (some (.ref CO_Bowl))) (mO_Bowl:PySem.W.makesIn K CO_Bowl=true) (iO_Bowl:PySem.W.findIn K (.ref CO_Bowl) "__init__"=some (some (.ref fO_Bowl))) (nO_Bowl:PySem.W.isFn K (.ref fO_Bowl)=true) (kO_Bowl:PySem.W.keepIn K (.ref CO_Bowl)=true)
  (pgO_Bowl:PySem.W.plainGet K CO_Bowl Str.empty=true) (hdO_Bowl:PySem.W.hasDictIn K CO_Bowl=true) (poO_Bowl:PySem.W.plainOver K CO_Bowl=true) (saO_Bowl:PySem.W.findIn K (.ref CO_Bowl) "__setattr__"=some (some (.builtin "object.__setattr__")))
  (clO_Bowl:PySem.W.findIn K (.ref CO_Bowl) "__class__"=some (some (.builtin "object.__class__"))) (gg1_Bowl:PySem.W.specialIn K (.builtin "object.__class__") "__get__"=some (some (.builtin "getset_descriptor.__get__"))) (gt1_Bowl:PySem.W.takesIn K (.builtin "object.__class__")=some true) (mrO_Bowl:PySem.W.mroIn K CO_Bowl (.type "object")=some true)
  (lO_Bowl:K.lookup fO_Bowl=some ⟨ocO_Bowl,odO_Bowl,.func (PySem.W.fnOf "__init__" "Bowl.__init__" (Ep J9) (Dz J9) (Ai J9) .none kVO_Bowl dcO_Bowl pmO_Bowl anO_Bowl cdO_Bowl ctO_Bowl),slO_Bowl⟩) (cO_Bowl:PySem.W.codeIn K cdO_Bowl "Bowl.__init__"=true) (kfO_Bowl:PySem.W.keepIn K (.ref fO_Bowl)=true)
  (nfO_Bowl_form:PySem.W.findIn K (.ref CO_Bowl) "form"=some none)
  (nfO_Bowl_measure:PySem.W.findIn K (.ref CO_Bowl) "measure"=some none)
  (nfO_Bowl_lowest:PySem.W.findIn K (.ref CO_Bowl) "lowest"=some none)
  {CO_Saddle fO_Saddle:Addr} {odO_Saddle anO_Saddle:Option Addr} {slO_Saddle:Array (Option Value)} {ocO_Saddle kVO_Saddle dcO_Saddle pmO_Saddle cdO_Saddle ctO_Saddle:Value}
  (aO_Saddle:PySem.W.nsIn K mainGlobals "Saddle"=some (some (.ref CO_Saddle))) (mO_Saddle:PySem.W.makesIn K CO_Saddle=true) (iO_Saddle:PySem.W.findIn K (.ref CO_Saddle) "__init__"=some (some (.ref fO_Saddle))) (nO_Saddle:PySem.W.isFn K (.ref fO_Saddle)=true) (kO_Saddle:PySem.W.keepIn K (.ref CO_Saddle)=true)
  (pgO_Saddle:PySem.W.plainGet K CO_Saddle Str.empty=true) (hdO_Saddle:PySem.W.hasDictIn K CO_Saddle=true) (poO_Saddle:PySem.W.plainOver K CO_Saddle=true) (saO_Saddle:PySem.W.findIn K (.ref CO_Saddle) "__setattr__"=some (some (.builtin "object.__setattr__")))
  (clO_Saddle:PySem.W.findIn K (.ref CO_Saddle) "__class__"=some (some (.builtin "object.__class__"))) (gg1_Saddle:PySem.W.specialIn K (.builtin "object.__class__") "__get__"=some (some (.builtin "getset_descriptor.__get__"))) (gt1_Saddle:PySem.W.takesIn K (.builtin "object.__class__")=some true) (mrO_Saddle:PySem.W.mroIn K CO_Saddle (.type "object")=some true)
  (lO_Saddle:K.lookup fO_Saddle=some ⟨ocO_Saddle,odO_Saddle,.func (PySem.W.fnOf "__init__" "Saddle.__init__" (Ep Hj) (Dz Hj) (Ai Hj) .none kVO_Saddle dcO_Saddle pmO_Saddle anO_Saddle cdO_Saddle ctO_Saddle),slO_Saddle⟩) (cO_Saddle:PySem.W.codeIn K cdO_Saddle "Saddle.__init__"=true) (kfO_Saddle:PySem.W.keepIn K (.ref fO_Saddle)=true)
  (nfO_Saddle_form:PySem.W.findIn K (.ref CO_Saddle) "form"=some none)
  (nfO_Saddle_measure:PySem.W.findIn K (.ref CO_Saddle) "measure"=some none)
  (nfO_Saddle_lowest:PySem.W.findIn K (.ref CO_Saddle) "lowest"=some none)
  {gM_least:Addr} {odM_least anM_least:Option Addr} {slM_least:Array (Option Value)} {ocM_least kVM_least dcM_least pmM_least cdM_least ctM_least:Value}
  (fM_least_Bowl:PySem.W.findIn K (.ref CO_Bowl) "least"=some (some (.ref gM_least)))
  (fM_least_Saddle:PySem.W.findIn K (.ref CO_Saddle) "least"=some (some (.ref gM_least)))
  (nM_least:PySem.W.isFn K (.ref gM_least)=true) (lM_least:K.lookup gM_least=some ⟨ocM_least,odM_least,.func (PySem.W.fnOf "least" "Shape.least" (Ep Iz) (Dz Iz) (Ai Iz) .none kVM_least dcM_least pmM_least anM_least cdM_least ctM_least),slM_least⟩) (cM_least:PySem.W.codeIn K cdM_least "Shape.least"=true) (kM_least:PySem.W.keepIn K (.ref gM_least)=true)
  {C_SAME:Addr} {od_SAME:Option Addr} {sl_SAME:Array (Option Value)} {n_SAME:Nat} {t_SAME_0:Tok} {t_SAME_1:Tok} {t_SAME_2:Tok} {t_SAME_3:Tok}
  (a_SAME:PySem.W.nsIn K mainGlobals "SAME"=some (some (.ref C_SAME))) (l_SAME:K.lookup C_SAME=some ⟨.type "tuple",od_SAME,.seq #[.int (1) t_SAME_0,.int (0) t_SAME_1,.int (0) t_SAME_2,.int (1) t_SAME_3] n_SAME,sl_SAME⟩)
  {t_MOST_MEASURE:Tok} (a_MOST_MEASURE:PySem.W.nsIn K mainGlobals "MOST_MEASURE"=some (some (.int (4000) t_MOST_MEASURE)))
  : ∃ fd:FuncData,(∀ (s:Shared) (v:Value),BindsTo s fd ⟨[v],[]⟩ [("_law_script",v)])∧∀ base:Heap,K.In base→base.Ns mainGlobals mg→HN l.prog w K mg base CX0 16 fa fd ["_law_script"] (lSp K Ub):=by
 obtain ⟨f60,oc60,od60,kV60,dc60,pm60,an60,cd60,ct60,sl60,a60,l60,c60,k60⟩:=h60
 have e:=hfa.symm.trans (PySem.W.mg_of X G a60)
 cases e
 have F60:=Nh (st:=Li) l60 c60 k60
 have FS_Shape:=Nh (st:=IW) lS_Shape cS_Shape kS_Shape
 have FO_Bowl:=Nh (st:=J9) lO_Bowl cO_Bowl kfO_Bowl
 have FO_Saddle:=Nh (st:=Hj) lO_Saddle cO_Saddle kfO_Saddle
 have FM_least:=Nh (st:=Iz) lM_least cM_least kM_least
 have T:Txt K mg:={
  o_Bowl:=⟨_,_,_,⟨⟨mO_Bowl,iO_Bowl,nO_Bowl,kO_Bowl⟩,aO_Bowl,PySem.W.mg_of X G aO_Bowl,⟨pgO_Bowl,hdO_Bowl,poO_Bowl,saO_Bowl⟩,fun f hf=>by simp only [List.mem_cons,List.not_mem_nil,or_false] at hf;rcases hf with hf | hf | hf <;> (subst hf;first | exact nfO_Bowl_form | exact nfO_Bowl_measure | exact nfO_Bowl_lowest)⟩,FO_Bowl,FO_Bowl.binds (ps:=["self","form"]) fun _ _ _ _ _ _ us hl=>match us,hl with | [_,_],_=>rfl⟩
  ic_Bowl:=⟨(fun C e=>by rw [aO_Bowl] at e;cases e;exact clO_Bowl),gg1_Bowl,gt1_Bowl,(fun C e=>by rw [aO_Bowl] at e;cases e;exact mrO_Bowl)⟩
  na_Bowl_form:=fun C e=>by rw [aO_Bowl] at e;cases e;exact nfO_Bowl_form
  na_Bowl_measure:=fun C e=>by rw [aO_Bowl] at e;cases e;exact nfO_Bowl_measure
  na_Bowl_lowest:=fun C e=>by rw [aO_Bowl] at e;cases e;exact nfO_Bowl_lowest
  o_Saddle:=⟨_,_,_,⟨⟨mO_Saddle,iO_Saddle,nO_Saddle,kO_Saddle⟩,aO_Saddle,PySem.W.mg_of X G aO_Saddle,⟨pgO_Saddle,hdO_Saddle,poO_Saddle,saO_Saddle⟩,fun f hf=>by simp only [List.mem_cons,List.not_mem_nil,or_false] at hf;rcases hf with hf | hf | hf <;> (subst hf;first | exact nfO_Saddle_form | exact nfO_Saddle_measure | exact nfO_Saddle_lowest)⟩,FO_Saddle,FO_Saddle.binds (ps:=["self","form"]) fun _ _ _ _ _ _ us hl=>match us,hl with | [_,_],_=>rfl⟩
  ic_Saddle:=⟨(fun C e=>by rw [aO_Saddle] at e;cases e;exact clO_Saddle),gg1_Saddle,gt1_Saddle,(fun C e=>by rw [aO_Saddle] at e;cases e;exact mrO_Saddle)⟩
  na_Saddle_form:=fun C e=>by rw [aO_Saddle] at e;cases e;exact nfO_Saddle_form
  na_Saddle_measure:=fun C e=>by rw [aO_Saddle] at e;cases e;exact nfO_Saddle_measure
  na_Saddle_lowest:=fun C e=>by rw [aO_Saddle] at e;cases e;exact nfO_Saddle_lowest
  cm_Shape:=⟨_,_,⟨⟨_,PySem.W.mg_of X G aS_Shape,sS_Shape,rS_Shape,fS_Shape⟩,kS_Shape⟩,FS_Shape,FS_Shape.binds (ps:=["self","form","lowest"]) fun _ _ _ _ _ _ us hl=>match us,hl with | [_,_,_],_=>rfl⟩
  me_least:=⟨_,_,fun c hc=>by simp only [List.mem_cons,List.not_mem_nil,or_false] at hc;rcases hc with hc | hc <;> (subst hc;intro C e;first | (rw [aO_Bowl] at e;cases e;exact ⟨fM_least_Bowl,nM_least,kM_least⟩) | (rw [aO_Saddle] at e;cases e;exact ⟨fM_least_Saddle,nM_least,kM_least⟩)),kM_least,FM_least,FM_least.binds (ps:=["self"]) fun _ _ _ _ _ _ us hl=>match us,hl with | [_],_=>rfl⟩
  t_divisor:=tM X G h0 (by walk_at "b2")
  t_shares:=tM X G h1 (by walk_at "b2")
  t_row_less:=tM X G h2 (by walk_at "b3")
  t_root:=tM X G h3 (by walk_at "b1")
  t_is_square:=tM X G h4 (by walk_at "b1")
  t_powered:=tM X G h5 (by walk_at "b4")
  t_check_at_most:=tM X G h6 (by walk_at "b2")
  t_check_within:=tM X G h7 (by walk_at "b2")
  t_is_turn:=tM X G h8 (by walk_at "b1")
  t_check_turn:=tM X G h9 (by walk_at "b1")
  t_led:=tM X G h10 (by walk_at "b2")
  t_put_behind:=tM X G h11 (by walk_at "b2")
  t_back:=tM X G h12 (by walk_at "b1")
  t_measure:=tM X G h13 (by walk_at "b1")
  t_value:=tM X G h14 (by walk_at "b2")
  t_content:=tM X G h15 (by walk_at "b1")
  t_moved:=tM X G h16 (by walk_at "b2")
  t_middle:=tM X G h17 (by walk_at "b3")
  t_opposite:=tM X G h18 (by walk_at "b1")
  t_shape:=tM X G h19 (by walk_at "b1")
  t_check_bowl:=tM X G h20 (by walk_at "b1")
  t_stands_least:=tM X G h21 (by walk_at "b1")
  t_settled:=tM X G h22 (by walk_at "b1")
  t_turn_lower:=tM X G h23 (by walk_at "b1")
  t_check_saddle:=tM X G h24 (by walk_at "b1")
  t_stands_level:=tM X G h25 (by walk_at "b2")
  t_turn_behind:=tM X G h26 (by walk_at "b2")
  t_stop_behind:=tM X G h27 (by walk_at "b2")
  t_eased:=tM X G h28 (by walk_at "b1")
  t_stops_round:=tM X G h29 (by walk_at "b1")
  t_round_of:=tM X G h30 (by walk_at "b1")
  t_lowered:=tM X G h31 (by walk_at "b1")
  t_shape_of:=tM X G h32 (by walk_at "b1")
  t_least_of:=tM X G h33 (by walk_at "b1")
  t_product:=tM X G h34 (by walk_at "b2")
  t_check_pair:=tM X G h35 (by walk_at "b2")
  t_check_plain:=tM X G h36 (by walk_at "b1")
  t_half_of_middles:=tM X G h37 (by walk_at "b2")
  t_common_shares:=tM X G h38 (by walk_at "b2")
  t_joint_form:=tM X G h39 (by walk_at "b3")
  t_joint_rows:=tM X G h40 (by walk_at "b4")
  t_rows_led:=tM X G h41 (by walk_at "b2")
  t_check_measure:=tM X G h42 (by walk_at "b1")
  t_unit:=tM X G h43 (by walk_at "b1")
  t_classes:=tM X G h44 (by walk_at "b1")
  t_least_bowls:=tM X G h45 (by walk_at "b1")
  t_least_saddles:=tM X G h46 (by walk_at "b1")
  t_plain_forms:=tM X G h47 (by walk_at "b2")
  t_least_product:=tM X G h48 (by walk_at "b2")
  t_power:=tM X G h49 (by walk_at "b2")
  t_order_of:=tM X G h50 (by walk_at "b1")
  t__law_cell:=tM X G h51 (by walk_at "b2")
  t__law_whole:=tM X G h52 (by walk_at "b1")
  t__law_wholes:=tM X G h53 (by walk_at "b2")
  t__law_root:=tM X G h54 (by walk_at "b1")
  t__law_turn:=tM X G h55 (by walk_at "b2")
  t__law_value:=tM X G h56 (by walk_at "b3")
  t__law_moved:=tM X G h57 (by walk_at "b2")
  t__law_number:=tM X G h58 (by walk_at "b1")
  t__law_powers:=tM X G h59 (by walk_at "b3")
  t_law:=⟨_,_,F60,PySem.W.mg_of X G a60,F60.binds (ps:=["_law_script"]) fun _ _ _ _ _ _ us hl=>match us,hl with | [_],_=>rfl⟩
  z_abs:=PySem.W.mg_none_of X G z_abs
  z_bool:=PySem.W.mg_none_of X G z_bool
  z_int:=PySem.W.mg_none_of X G z_int
  z_isinstance:=PySem.W.mg_none_of X G z_isinstance
  z_len:=PySem.W.mg_none_of X G z_len
  z_max:=PySem.W.mg_none_of X G z_max
  z_min:=PySem.W.mg_none_of X G z_min
  z_range:=PySem.W.mg_none_of X G z_range
  z_tuple:=PySem.W.mg_none_of X G z_tuple
  z_zip:=PySem.W.mg_none_of X G z_zip
  k_SAME:=⟨_,PySem.W.mg_of X G a_SAME,fun H=>CP.mpr ⟨_,[.int (1),.int (0),.int (0),.int (1)],rfl,.inr ⟨_,_,_,l_SAME,rfl,rfl,Ba (by show 4≤1000;decide),.cons ⟨_,rfl⟩ (.cons ⟨_,rfl⟩ (.cons ⟨_,rfl⟩ (.cons ⟨_,rfl⟩ (.nil))))⟩,RpL.cons (Bc.mpr rfl) (RpL.cons (Bc.mpr rfl) (RpL.cons (Bc.mpr rfl) (RpL.cons (Bc.mpr rfl) (RpL.nil))))⟩⟩
  m_MOST_MEASURE:=⟨_,PySem.W.mg_of X G a_MOST_MEASURE⟩
 }
 refine ⟨PySem.W.fnOf "law" "law" (Ep Li) (Dz Li) (Ai Li) .none kV60 dc60 pm60 an60 cd60 ct60,fun s v=>.of_eq rfl,fun base kb nb=>?_⟩
 have gm_least:=Zi l.prog w base T 
 have g_divisor:=Xf l.prog w base T 
 have g_row_less:=Wn l.prog w base T 
 have g_root:=Adp l.prog w base T 
 have g_check_at_most:=MP l.prog w base T 
 have g_check_within:=N8 l.prog w base T 
 have g_is_turn:=WQ l.prog w base T 
 have g_put_behind:=Rn l.prog w base T 
 have g_measure:=XH l.prog w base T 
 have g_value:=Aar l.prog w base T 
 have g_middle:=Zm l.prog w base T 
 have g_opposite:=Vf l.prog w base T 
 have g_stands_least:=Oa l.prog w base T 
 have g_turn_lower:=Rb l.prog w base T 
 have g_stands_level:=Oc l.prog w base T 
 have g_turn_behind:=QB l.prog w base T 
 have g_half_of_middles:=KJ l.prog w base T 
 have g__law_cell:=Tr l.prog w base T 
 have g__law_whole:=Q8 l.prog w base T 
 have g__law_root:=TF l.prog w base T 
 have g__law_turn:=Sv l.prog w base T 
 have g__law_value:=Rk l.prog w base T 
 have gc_Shape:=Zg l.prog w base T g_measure
 have g_shares:=Z4 l.prog w base T g_row_less
 have g_is_square:=Ua l.prog w base T g_root
 have g_check_turn:=Q5 l.prog w base T g_is_turn
 have g_content:=Wx l.prog w base T g_divisor
 have g_joint_form:=Q0 l.prog w base T g_half_of_middles g_measure
 have g_joint_rows:=QZ l.prog w base T g_half_of_middles g_measure
 have g__law_wholes:=Qy l.prog w base T g__law_whole
 have g__law_moved:=Rh l.prog w base T g__law_value
 have g__law_number:=Qa l.prog w base T g__law_cell g__law_root
 have g_led:=AgU l.prog w base T g_check_turn
 have g_back:=Adc l.prog w base T g_check_turn
 have g_moved:=AaW l.prog w base T g_check_turn g_value g_middle
 have g_shape:=Aaj l.prog w base T g_measure g_is_square
 have g_check_plain:=QF l.prog w base T g_content
 have g_common_shares:=Mr l.prog w base T g_shares g_half_of_middles
 have g_check_measure:=Nm l.prog w base T g_is_square
 have g_plain_forms:=Qz l.prog w base T g_content
 have g_check_bowl:=QX l.prog w base T g_shape
 have g_check_saddle:=Oh l.prog w base T g_check_at_most g_shape g_measure
 have g_stop_behind:=Qu l.prog w base T g_turn_behind g_moved g_put_behind
 have g_rows_led:=Vn l.prog w base T g_led
 have g_least_bowls:=O8 l.prog w base T g_plain_forms g_stands_least g_root
 have g_settled:=Xr l.prog w base T g_check_bowl g_stands_least g_turn_lower g_moved g_put_behind
 have g_eased:=Abe l.prog w base T g_check_saddle g_root g_measure g_stands_level g_stop_behind
 have gi_Bowl:=AaS l.prog w base T gc_Shape g_settled
 have g_stops_round:=Pg l.prog w base T g_root g_eased g_stop_behind g_measure
 have g_round_of:=Uu l.prog w base T g_check_saddle g_stops_round
 have g_lowered:=W8 l.prog w base T g_check_saddle g_stops_round
 have gi_Saddle:=WR l.prog w base T gc_Shape g_lowered
 have g_least_saddles:=M6 l.prog w base T g_root g_plain_forms g_stands_level g_round_of
 have g_classes:=Wt l.prog w base T g_check_measure g_check_within g_least_saddles g_least_bowls
 have g_shape_of:=Vr l.prog w base T gi_Bowl gi_Saddle g_shape
 have g_least_of:=Vh l.prog w base T g_shape_of
 have g_check_pair:=Q6 l.prog w base T g_shape_of g_check_plain
 have g_product:=Xq l.prog w base T gm_least g_check_pair g_common_shares g_joint_form g_rows_led g_shape_of g_back g_joint_rows
 have g_unit:=Aep l.prog w base T g_check_measure g_check_at_most g_least_of
 have g_least_product:=M5 l.prog w base T g_product
 have g__law_powers:=QK l.prog w base T g_product
 have g_powered:=W9 l.prog w base T 
 have g_order_of:=Vy l.prog w base T gm_least g_shape_of g_check_within g_check_plain g_unit g_least_product
 have g_power:=Abt l.prog w base T gm_least g_shape_of g_check_plain g_powered g_least_product g_unit g_least_of g_opposite
 have g_law:=Agb l.prog w base T g__law_number g_classes g__law_moved g_order_of g__law_powers g__law_turn g_unit g_power g__law_cell g__law_whole g__law_wholes
 obtain ⟨f,fd,FT,GG⟩:=g_law
 have e1:=FT.mg.symm.trans (PySem.W.mg_of X G a60)
 cases e1
 have e2:=FT.fn.uniq F60
 subst e2
 exact GG
theorem walk {l:PySem.W.OpenLaw} {q:Program} {loose:List Str} {XP:(Str→Option Value)→Heap→Prop} {YP:World→Heap→Prop} {d:DefRec} {K:Params→PySem.W.Frag} (hn:l.most=some 63) (hdf:d.params.defaults=[])
  (hY:∀ (w:World) (h:Heap),YP w h→(K w.params).In h)
  (F:∀ (w:World) (mg:Str→Option Value) (fa:Addr) (h:Heap),(K w.params).In h→h.Ns mainGlobals mg→mg d.name=some (.ref fa) →
   ∃ fd:FuncData,(∀ (s:Shared) (u:Value),BindsTo s fd ⟨[u],[]⟩ [("_law_script",u)])∧∀ base:Heap,(K w.params).In base→base.Ns mainGlobals mg→HN l.prog w (K w.params) mg base CX0 16 fa fd ["_law_script"] (lSp (K w.params) Ub)) :
  PySem.W.WalkO q loose XP YP l.row.toRowW d [] (fun f vs=>PySem.call f vs) :=
 L2.AcC (n:=63) (k:=16) (x:="_law_script") (CX:=fun _=>CX0) (sp:=fun w=>lSp (K w.params) Ub) hn (by decide) hdf ⟨rfl,by decide,by decide⟩ hY F (fun w H a ns hl _ hS=>Z5 hl hS) fun _ _ _ _ _ z=>z
end My
open PySem PySem.W PyProof.Rows
local macro_rules | `(tactic| walk_at "nF") => `(tactic| (refine' My.AeB ?qa ?ql ?qc ?qk; (case qa => k_is); (case ql => k_is); (case qc => k_is); (case qk => k_is)))
theorem My.hFk {K:PySem.W.Frag} {n:PySem.Str} {s:PySem.Stmt} (f:PySem.Addr) (m:String) (t c:Nat) (a:PySem.W.nsIn K PySem.mainGlobals n=some (some (.ref f)):=by kernel_rfl) (l:K.lookup f=some ⟨.type "function",none,.func (PySem.W.fnOf n n (L2.Ep s) (L2.Dz s) (L2.Ai s) .none .none .none (.str (.ofString m) t) none (.ref c) .none),#[]⟩:=by kernel_rfl) (d:PySem.W.codeIn K (.ref c) n=true:=by kernel_rfl) (k:PySem.W.keepIn K (.ref f)=true:=by kernel_rfl):My.nF K n s:=My.AeB a l d k
theorem My.hF0 (P:PySem.Params):My.nF (My.KK P) "divisor" My.G9:=My.hFk 167 "formcycle.wholes" 382 166
theorem My.hF1 (P:PySem.Params):My.nF (My.KK P) "shares" My.Ir:=My.hFk 174 "formcycle.wholes" 382 173
theorem My.hF2 (P:PySem.Params):My.nF (My.KK P) "row_less" My.Gk:=My.hFk 181 "formcycle.wholes" 382 180
theorem My.hF3 (P:PySem.Params):My.nF (My.KK P) "root" My.Ii:=My.hFk 188 "formcycle.wholes" 382 187
theorem My.hF4 (P:PySem.Params):My.nF (My.KK P) "is_square" My.Eh:=My.hFk 195 "formcycle.wholes" 382 194
theorem My.hF5 (P:PySem.Params):My.nF (My.KK P) "powered" My.Hg:=My.hFk 202 "formcycle.wholes" 382 201
theorem My.hF6 (P:PySem.Params):My.nF (My.KK P) "check_at_most" My.Cm:=My.hFk 209 "formcycle.wholes" 382 208
theorem My.hF7 (P:PySem.Params):My.nF (My.KK P) "check_within" My.Cz:=My.hFk 216 "formcycle.wholes" 382 215
theorem My.hF8 (P:PySem.Params):My.nF (My.KK P) "is_turn" My.G7:=My.hFk 224 "formcycle.turns" 458 223
theorem My.hF9 (P:PySem.Params):My.nF (My.KK P) "check_turn" My.Dc:=My.hFk 231 "formcycle.turns" 458 230
theorem My.hF10 (P:PySem.Params):My.nF (My.KK P) "led" My.RL:=My.hFk 238 "formcycle.turns" 458 237
theorem My.hF11 (P:PySem.Params):My.nF (My.KK P) "put_behind" My.Dv:=My.hFk 245 "formcycle.turns" 458 244
theorem My.hF12 (P:PySem.Params):My.nF (My.KK P) "back" My.Ms:=My.hFk 252 "formcycle.turns" 458 251
theorem My.hF13 (P:PySem.Params):My.nF (My.KK P) "measure" My.CW:=My.hFk 259 "formcycle.forms" 502 258
theorem My.hF14 (P:PySem.Params):My.nF (My.KK P) "value" My.J8:=My.hFk 266 "formcycle.forms" 502 265
theorem My.hF15 (P:PySem.Params):My.nF (My.KK P) "content" My.Gq:=My.hFk 273 "formcycle.forms" 502 272
theorem My.hF16 (P:PySem.Params):My.nF (My.KK P) "moved" My.Jq:=My.hFk 280 "formcycle.forms" 502 279
theorem My.hF17 (P:PySem.Params):My.nF (My.KK P) "middle" My.Ip:=My.hFk 287 "formcycle.forms" 502 286
theorem My.hF18 (P:PySem.Params):My.nF (My.KK P) "opposite" My.Gv:=My.hFk 294 "formcycle.forms" 502 293
theorem My.hF19 (P:PySem.Params):My.nF (My.KK P) "shape" My.Ig:=My.hFk 301 "formcycle.forms" 502 300
theorem My.hF20 (P:PySem.Params):My.nF (My.KK P) "check_bowl" My.Eo:=My.hFk 308 "formcycle.bowls" 563 307
theorem My.hF21 (P:PySem.Params):My.nF (My.KK P) "stands_least" My.CJ:=My.hFk 315 "formcycle.bowls" 563 314
theorem My.hF22 (P:PySem.Params):My.nF (My.KK P) "settled" My.Hh:=My.hFk 322 "formcycle.bowls" 563 321
theorem My.hF23 (P:PySem.Params):My.nF (My.KK P) "turn_lower" My.El:=My.hFk 329 "formcycle.bowls" 563 328
theorem My.hF24 (P:PySem.Params):My.nF (My.KK P) "check_saddle" My.Cd:=My.hFk 336 "formcycle.saddles" 599 335
theorem My.hF25 (P:PySem.Params):My.nF (My.KK P) "stands_level" My.CG:=My.hFk 343 "formcycle.saddles" 599 342
theorem My.hF26 (P:PySem.Params):My.nF (My.KK P) "turn_behind" My.DX:=My.hFk 350 "formcycle.saddles" 599 349
theorem My.hF27 (P:PySem.Params):My.nF (My.KK P) "stop_behind" My.Dj:=My.hFk 357 "formcycle.saddles" 599 356
theorem My.hF28 (P:PySem.Params):My.nF (My.KK P) "eased" My.J4:=My.hFk 364 "formcycle.saddles" 599 363
theorem My.hF29 (P:PySem.Params):My.nF (My.KK P) "stops_round" My.Di:=My.hFk 371 "formcycle.saddles" 599 370
theorem My.hF30 (P:PySem.Params):My.nF (My.KK P) "round_of" My.Fg:=My.hFk 376 "formcycle.saddles" 599 375
theorem My.hF31 (P:PySem.Params):My.nF (My.KK P) "lowered" My.G6:=My.hFk 383 "formcycle.saddles" 599 382
theorem My.hF32 (P:PySem.Params):My.nF (My.KK P) "shape_of" My.Dk:=My.hFk 470 "formcycle.shapes" 672 469
theorem My.hF33 (P:PySem.Params):My.nF (My.KK P) "least_of" My.Fi:=My.hFk 477 "formcycle.shapes" 672 476
theorem My.hF34 (P:PySem.Params):My.nF (My.KK P) "product" My.Gu:=My.hFk 484 "formcycle.products" 791 483
theorem My.hF35 (P:PySem.Params):My.nF (My.KK P) "check_pair" My.Er:=My.hFk 491 "formcycle.products" 791 490
theorem My.hF36 (P:PySem.Params):My.nF (My.KK P) "check_plain" My.Cv:=My.hFk 498 "formcycle.products" 791 497
theorem My.hF37 (P:PySem.Params):My.nF (My.KK P) "half_of_middles" My.Bp:=My.hFk 505 "formcycle.products" 791 504
theorem My.hF38 (P:PySem.Params):My.nF (My.KK P) "common_shares" My.CV:=My.hFk 512 "formcycle.products" 791 511
theorem My.hF39 (P:PySem.Params):My.nF (My.KK P) "joint_form" My.Et:=My.hFk 519 "formcycle.products" 791 518
theorem My.hF40 (P:PySem.Params):My.nF (My.KK P) "joint_rows" My.Em:=My.hFk 526 "formcycle.products" 791 525
theorem My.hF41 (P:PySem.Params):My.nF (My.KK P) "rows_led" My.Du:=My.hFk 531 "formcycle.products" 791 530
theorem My.hF42 (P:PySem.Params):My.nF (My.KK P) "check_measure" My.Cj:=My.hFk 538 "formcycle.classes" 877 537
theorem My.hF43 (P:PySem.Params):My.nF (My.KK P) "unit" My.JL:=My.hFk 545 "formcycle.classes" 877 544
theorem My.hF44 (P:PySem.Params):My.nF (My.KK P) "classes" My.Hi:=My.hFk 552 "formcycle.classes" 877 551
theorem My.hF45 (P:PySem.Params):My.nF (My.KK P) "least_bowls" My.Dg:=My.hFk 557 "formcycle.classes" 877 556
theorem My.hF46 (P:PySem.Params):My.nF (My.KK P) "least_saddles" My.CT:=My.hFk 564 "formcycle.classes" 877 563
theorem My.hF47 (P:PySem.Params):My.nF (My.KK P) "plain_forms" My.Cu:=My.hFk 569 "formcycle.classes" 877 568
theorem My.hF48 (P:PySem.Params):My.nF (My.KK P) "least_product" My.Cp:=My.hFk 576 "formcycle.classes" 877 575
theorem My.hF49 (P:PySem.Params):My.nF (My.KK P) "power" My.J5:=My.hFk 583 "formcycle.classes" 877 582
theorem My.hF50 (P:PySem.Params):My.nF (My.KK P) "order_of" My.Gi:=My.hFk 590 "formcycle.classes" 877 589
theorem My.hF51 (P:PySem.Params):My.nF (My.KK P) "_law_cell" My.Ej:=My.hFk 597 "law_formcycle_k48_orders_and_powers" 954 596
theorem My.hF52 (P:PySem.Params):My.nF (My.KK P) "_law_whole" My.DK:=My.hFk 604 "law_formcycle_k48_orders_and_powers" 954 603
theorem My.hF53 (P:PySem.Params):My.nF (My.KK P) "_law_wholes" My.Df:=My.hFk 609 "law_formcycle_k48_orders_and_powers" 954 608
theorem My.hF54 (P:PySem.Params):My.nF (My.KK P) "_law_root" My.Fo:=My.hFk 616 "law_formcycle_k48_orders_and_powers" 954 615
theorem My.hF55 (P:PySem.Params):My.nF (My.KK P) "_law_turn" My.Fq:=My.hFk 623 "law_formcycle_k48_orders_and_powers" 954 622
theorem My.hF56 (P:PySem.Params):My.nF (My.KK P) "_law_value" My.Es:=My.hFk 630 "law_formcycle_k48_orders_and_powers" 954 629
theorem My.hF57 (P:PySem.Params):My.nF (My.KK P) "_law_moved" My.Eu:=My.hFk 637 "law_formcycle_k48_orders_and_powers" 954 636
theorem My.hF58 (P:PySem.Params):My.nF (My.KK P) "_law_number" My.DR:=My.hFk 644 "law_formcycle_k48_orders_and_powers" 954 643
theorem My.hF59 (P:PySem.Params):My.nF (My.KK P) "_law_powers" My.DY:=My.hFk 651 "law_formcycle_k48_orders_and_powers" 954 650
theorem My.hF60 (P:PySem.Params):My.nF (My.KK P) "law" My.Li:=My.hFk 658 "law_formcycle_k48_orders_and_powers" 954 657
set_option maxRecDepth 100000 in
set_option maxHeartbeats 0 in
theorem PySem.Challenge.cw_formcycle_k48_orders_and_powers_holds : PySem.Challenge.rw_formcycle_k48_orders_and_powers.Holds := by
 w_on
 refine holds_law My.said0 fun said=>?_
 refine holds_open (r:=PySem.Challenge.rw_formcycle_k48_orders_and_powers.row) (q:=My.vw) (loose:=[]) (Xt:=fun s=>xlAt My.vw [] s && recOk (RowW.records (PySem.Challenge.rw_formcycle_k48_orders_and_powers.row.toRowW)) s) (XP:=XL My.vw []) (Yf:=Hook.obs (kHook My.KK My.asK (fun _=>by kernel_rfl))) (Ya:=Hook.val (kHook My.KK My.asK (fun _=>by kernel_rfl))) (YP:=Hook.says (kHook My.KK My.asK (fun _=>by kernel_rfl))) (N:=4766) My.hl (Hook.of (kHook My.KK My.asK (fun _=>by kernel_rfl))) (Hook.keeps (kHook My.KK My.asK (fun _=>by kernel_rfl))) (fun s e=>xl_of s (Bool.and_eq_true_iff.mp e).1) XL.keeps (by rfl) (by rfl) (by rfl) (fun s e=>recFacts_of (Bool.and_eq_true_iff.mp e).2) (by rfl) said (by decide +kernel) ⟨rfl,rfl,rfl,rfl,rfl,by decide +kernel⟩ ?hw ?hc
 (case hw=>w_witness2)
 k_fill
 refine My.walk (l:=PySem.Challenge.rw_formcycle_k48_orders_and_powers) rfl rfl (fun w h Y=>PySem.W.kIn_of Y) ?F
 case F =>
  intro w mg fa h KX G hmg
  refine' My.all_mk KX G hmg ?h0 ?h1 ?h2 ?h3 ?h4 ?h5 ?h6 ?h7 ?h8 ?h9 ?h10 ?h11 ?h12 ?h13 ?h14 ?h15 ?h16 ?h17 ?h18 ?h19 ?h20 ?h21 ?h22 ?h23 ?h24 ?h25 ?h26 ?h27 ?h28 ?h29 ?h30 ?h31 ?h32 ?h33 ?h34 ?h35 ?h36 ?h37 ?h38 ?h39 ?h40 ?h41 ?h42 ?h43 ?h44 ?h45 ?h46 ?h47 ?h48 ?h49 ?h50 ?h51 ?h52 ?h53 ?h54 ?h55 ?h56 ?h57 ?h58 ?h59 ?h60 ?z_abs ?z_bool ?z_int ?z_isinstance ?z_len ?z_max ?z_min ?z_range ?z_tuple ?z_zip ?aS_Shape ?sS_Shape ?rS_Shape ?fS_Shape ?lS_Shape ?cS_Shape ?kS_Shape ?aO_Bowl ?mO_Bowl ?iO_Bowl ?nO_Bowl ?kO_Bowl ?pgO_Bowl ?hdO_Bowl ?poO_Bowl ?saO_Bowl ?clO_Bowl ?gg1_Bowl ?gt1_Bowl ?mrO_Bowl ?lO_Bowl ?cO_Bowl ?kfO_Bowl ?nfO_Bowl_form ?nfO_Bowl_measure ?nfO_Bowl_lowest ?aO_Saddle ?mO_Saddle ?iO_Saddle ?nO_Saddle ?kO_Saddle ?pgO_Saddle ?hdO_Saddle ?poO_Saddle ?saO_Saddle ?clO_Saddle ?gg1_Saddle ?gt1_Saddle ?mrO_Saddle ?lO_Saddle ?cO_Saddle ?kfO_Saddle ?nfO_Saddle_form ?nfO_Saddle_measure ?nfO_Saddle_lowest ?fM_least_Bowl ?fM_least_Saddle ?nM_least ?lM_least ?cM_least ?kM_least ?a_SAME ?l_SAME ?a_MOST_MEASURE
  (case h0=>exact My.hF0 _)
  (case h1=>exact My.hF1 _)
  (case h2=>exact My.hF2 _)
  (case h3=>exact My.hF3 _)
  (case h4=>exact My.hF4 _)
  (case h5=>exact My.hF5 _)
  (case h6=>exact My.hF6 _)
  (case h7=>exact My.hF7 _)
  (case h8=>exact My.hF8 _)
  (case h9=>exact My.hF9 _)
  (case h10=>exact My.hF10 _)
  (case h11=>exact My.hF11 _)
  (case h12=>exact My.hF12 _)
  (case h13=>exact My.hF13 _)
  (case h14=>exact My.hF14 _)
  (case h15=>exact My.hF15 _)
  (case h16=>exact My.hF16 _)
  (case h17=>exact My.hF17 _)
  (case h18=>exact My.hF18 _)
  (case h19=>exact My.hF19 _)
  (case h20=>exact My.hF20 _)
  (case h21=>exact My.hF21 _)
  (case h22=>exact My.hF22 _)
  (case h23=>exact My.hF23 _)
  (case h24=>exact My.hF24 _)
  (case h25=>exact My.hF25 _)
  (case h26=>exact My.hF26 _)
  (case h27=>exact My.hF27 _)
  (case h28=>exact My.hF28 _)
  (case h29=>exact My.hF29 _)
  (case h30=>exact My.hF30 _)
  (case h31=>exact My.hF31 _)
  (case h32=>exact My.hF32 _)
  (case h33=>exact My.hF33 _)
  (case h34=>exact My.hF34 _)
  (case h35=>exact My.hF35 _)
  (case h36=>exact My.hF36 _)
  (case h37=>exact My.hF37 _)
  (case h38=>exact My.hF38 _)
  (case h39=>exact My.hF39 _)
  (case h40=>exact My.hF40 _)
  (case h41=>exact My.hF41 _)
  (case h42=>exact My.hF42 _)
  (case h43=>exact My.hF43 _)
  (case h44=>exact My.hF44 _)
  (case h45=>exact My.hF45 _)
  (case h46=>exact My.hF46 _)
  (case h47=>exact My.hF47 _)
  (case h48=>exact My.hF48 _)
  (case h49=>exact My.hF49 _)
  (case h50=>exact My.hF50 _)
  (case h51=>exact My.hF51 _)
  (case h52=>exact My.hF52 _)
  (case h53=>exact My.hF53 _)
  (case h54=>exact My.hF54 _)
  (case h55=>exact My.hF55 _)
  (case h56=>exact My.hF56 _)
  (case h57=>exact My.hF57 _)
  (case h58=>exact My.hF58 _)
  (case h59=>exact My.hF59 _)
  (case h60=>exact My.hF60 _)
  (case z_abs=>as_aux_lemma=>k_is)
  (case z_bool=>as_aux_lemma=>k_is)
  (case z_int=>as_aux_lemma=>k_is)
  (case z_isinstance=>as_aux_lemma=>k_is)
  (case z_len=>as_aux_lemma=>k_is)
  (case z_max=>as_aux_lemma=>k_is)
  (case z_min=>as_aux_lemma=>k_is)
  (case z_range=>as_aux_lemma=>k_is)
  (case z_tuple=>as_aux_lemma=>k_is)
  (case z_zip=>as_aux_lemma=>k_is)
  (case aS_Shape=>as_aux_lemma=>k_is)
  (case sS_Shape=>as_aux_lemma=>k_is)
  (case rS_Shape=>as_aux_lemma=>k_is)
  (case fS_Shape=>as_aux_lemma=>k_is)
  (case lS_Shape=>as_aux_lemma=>k_is)
  (case cS_Shape=>as_aux_lemma=>k_is)
  (case kS_Shape=>as_aux_lemma=>k_is)
  (case aO_Bowl=>as_aux_lemma=>k_is)
  (case mO_Bowl=>as_aux_lemma=>k_is)
  (case iO_Bowl=>as_aux_lemma=>k_is)
  (case nO_Bowl=>as_aux_lemma=>k_is)
  (case kO_Bowl=>as_aux_lemma=>k_is)
  (case pgO_Bowl=>as_aux_lemma=>k_is)
  (case hdO_Bowl=>as_aux_lemma=>k_is)
  (case poO_Bowl=>as_aux_lemma=>k_is)
  (case saO_Bowl=>as_aux_lemma=>k_is)
  (case clO_Bowl=>as_aux_lemma=>k_is)
  (case gg1_Bowl=>as_aux_lemma=>k_is)
  (case gt1_Bowl=>as_aux_lemma=>k_is)
  (case mrO_Bowl=>as_aux_lemma=>k_is)
  (case lO_Bowl=>as_aux_lemma=>k_is)
  (case cO_Bowl=>as_aux_lemma=>k_is)
  (case kfO_Bowl=>as_aux_lemma=>k_is)
  (case nfO_Bowl_form=>as_aux_lemma=>k_is)
  (case nfO_Bowl_measure=>as_aux_lemma=>k_is)
  (case nfO_Bowl_lowest=>as_aux_lemma=>k_is)
  (case aO_Saddle=>as_aux_lemma=>k_is)
  (case mO_Saddle=>as_aux_lemma=>k_is)
  (case iO_Saddle=>as_aux_lemma=>k_is)
  (case nO_Saddle=>as_aux_lemma=>k_is)
  (case kO_Saddle=>as_aux_lemma=>k_is)
  (case pgO_Saddle=>as_aux_lemma=>k_is)
  (case hdO_Saddle=>as_aux_lemma=>k_is)
  (case poO_Saddle=>as_aux_lemma=>k_is)
  (case saO_Saddle=>as_aux_lemma=>k_is)
  (case clO_Saddle=>as_aux_lemma=>k_is)
  (case gg1_Saddle=>as_aux_lemma=>k_is)
  (case gt1_Saddle=>as_aux_lemma=>k_is)
  (case mrO_Saddle=>as_aux_lemma=>k_is)
  (case lO_Saddle=>as_aux_lemma=>k_is)
  (case cO_Saddle=>as_aux_lemma=>k_is)
  (case kfO_Saddle=>as_aux_lemma=>k_is)
  (case nfO_Saddle_form=>as_aux_lemma=>k_is)
  (case nfO_Saddle_measure=>as_aux_lemma=>k_is)
  (case nfO_Saddle_lowest=>as_aux_lemma=>k_is)
  (case fM_least_Bowl=>as_aux_lemma=>k_is)
  (case fM_least_Saddle=>as_aux_lemma=>k_is)
  (case nM_least=>as_aux_lemma=>k_is)
  (case lM_least=>as_aux_lemma=>k_is)
  (case cM_least=>as_aux_lemma=>k_is)
  (case kM_least=>as_aux_lemma=>k_is)
  (case a_SAME=>as_aux_lemma=>k_is)
  (case l_SAME=>as_aux_lemma=>k_is)
  (case a_MOST_MEASURE=>as_aux_lemma=>k_is)
