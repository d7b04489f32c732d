import PyProof.Rows.All
import Wide.All
import OpenK.AllK
import Wide.FinOn
import Lean
import PyProof.EqAt
import PyProof.EqKinds
import PyProof.TupleCall
import PySem.Challenge.RW_formcycle_k74_whole_classes
set_option Elab.async false
set_option linter.all false
set_option maxRecDepth 100000
set_option maxRecDepth 1000000
set_option maxHeartbeats 0
theorem My.said0:PySem.Challenge.rw_formcycle_k74_whole_classes.wellSaid=true:=by kernel_rfl
namespace My
open PySem PySem.W
noncomputable def Ue (tb:String→Option Builtin) (p:Program) (w:World) (m:Nat) (ann:Option Value):Nat→SharedT→Thread→Option SharedT
  | 0,_,_=>none
  | k+1,s,t=>match through t with
    | true=>some s
    | false=>match stepOk m ann t with
      | false=>none
      | true=>match stepT (denote tb) p w s t with
        | some (s',t')=>Ue tb p w m ann k s' t'
        | none=>none
theorem Sw {tb:String→Option Builtin} {p:Program} {w:World} {m:Nat} {ann:Option Value}:∀ (k:Nat) {s r:SharedT} {t:Thread},Ue tb p w m ann k s t=some r→topRun tb p w m ann k s.abs t=some r.abs
  | 0,s,r,t,h=>by cases h
  | k+1,s,r,t,h=>by
    unfold Ue at h
    unfold topRun
    cases e:through t with
    | true =>
      rw [e] at h
      cases h
      rfl
    | false =>
      rw [e] at h
      dsimp only at h ⊢
      cases e2:stepOk m ann t with
      | false=>rw [e2] at h;cases h
      | true =>
        rw [e2] at h
        dsimp only at h ⊢
        cases e3:stepT (denote tb) p w s t with
        | none=>rw [e3] at h;cases h
        | some st =>
          obtain ⟨s',t'⟩:=st
          rw [e3] at h
          rw [stepT_spec e3]
          exact Sw k h
noncomputable def Aei:List Obj→Nat→BT→BT
  | [],_,t=>t
  | o :: os,n,t=>Aei os (n+1) (t.ins n o)
noncomputable def Q6 (w:World) (os:OsState):SharedT:=⟨Aei (boot_heap w.params).objs.toList 0 .nil,(boot_heap w.params).objs.size,(boot_heap w.params).life,Array.mk [],boot_drawn,boot_toks,os⟩
noncomputable def Bw (w:World) (os:OsState):Shared:=⟨boot_heap w.params,Array.mk [],boot_drawn,boot_toks,os⟩
noncomputable def stays (p:Program) (s₀ s₁:Shared):Bool:=staticsOk (importedModules p.main.body) s₀.heap s₁.heap && namesBound p s₁.heap && gensDone s₁ && laidKept s₀.heap s₁.heap
theorem boot_abs:∀ w os,(Q6 w os).abs=Bw w os:=fun w os=>by kernel_rfl
theorem AbS {p:Program} {w:World} {N:Nat} {α:Type} {F:Shared→α} {g:α} (e:opening p=plainProg p.main.scope.names) (hN:Nat.ble 600 N=true) (f:∀ s,fenceModules? p s=some s)
    (h:∀ os,(Ue treeTable p w (Bw w os).heap.objs.size ((Bw w os).heap.nsMap mainGlobals "__annotations__") N (Q6 w os) (topStub p)).map (fun r=>(stays p (Bw w os) r.abs,F r.abs))=some (true,g))
    (h0:∀ os,((Bw w os).heap.isNs mainGlobals && (Bw w os).gens.size == 0)=true):(openEnds treeTable p w N).map F=some g:=by
  have hb:=boot_open e hN f w
  unfold openEnds
  cases q:fencedOpening treeTable p w N with
  | none=>rw [q] at hb;cases hb
  | some s =>
    rw [q] at hb
    have hs:s=Bw w s.os:=by
      obtain ⟨a,b,c,d,o⟩:=s
      simp only [Option.map_some,Option.some.injEq,Prod.mk.injEq] at hb
      obtain ⟨rfl,rfl,rfl,rfl⟩:=hb
      rfl
    generalize s.os=o at hs
    subst hs
    show (topFrom treeTable p w N (Bw w o)).map F=some g
    unfold topFrom
    rw [h0 o]
    have hh:=h o
    cases q2:Ue treeTable p w (Bw w o).heap.objs.size ((Bw w o).heap.nsMap mainGlobals "__annotations__") N (Q6 w o) (topStub p) with
    | none=>rw [q2] at hh;cases hh
    | some r =>
      rw [q2] at hh
      have hr:=Sw N q2
      rw [boot_abs] at hr
      simp only [Option.map_some,Option.some.injEq,Prod.mk.injEq] at hh
      obtain ⟨h1,h2⟩:=hh
      unfold stays at h1
      dsimp only
      rw [hr]
      show (match staticsOk (importedModules p.main.body) (Bw w o).heap r.abs.heap && namesBound p r.abs.heap && gensDone r.abs && laidKept (Bw w o).heap r.abs.heap with
        | true=>some r.abs
        | false=>none).map F=some g
      rw [h1]
      exact congrArg some h2
noncomputable def TR (p:Program) (w:World) (os:OsState) (N:Nat):Option SharedT:=Ue treeTable p w (Bw w os).heap.objs.size ((Bw w os).heap.nsMap mainGlobals "__annotations__") N (Q6 w os) (topStub p)
theorem AhF {p:Program} {w:World} {N:Nat} {α β:Type} {F:Shared→α} {G:Shared→β} {f':α} {g':β} (e:opening p=plainProg p.main.scope.names) (hN:Nat.ble 600 N=true) (f:∀ s,fenceModules? p s=some s)
    (h1:∀ os,(TR p w os N).map (fun r=>stays p (Bw w os) r.abs)=some true) (h2:∀ os,(TR p w os N).map (fun r=>F r.abs)=some f') (h3:∀ os,(TR p w os N).map (fun r=>G r.abs)=some g')
    (h0:∀ os,((Bw w os).heap.isNs mainGlobals && (Bw w os).gens.size == 0)=true):(openEnds treeTable p w N).map (fun s=>(F s,G s))=some (f',g') :=
  AbS (F:=fun s=>(F s,G s)) e hN f (fun os=>by
    have a:=h1 os
    have b:=h2 os
    have c:=h3 os
    unfold TR at a b c
    revert a b c
    generalize Ue treeTable p w (Bw w os).heap.objs.size ((Bw w os).heap.nsMap mainGlobals "__annotations__") N (Q6 w os) (topStub p)=o
    intro a b c
    cases o with
    | none=>cases a
    | some r =>
      simp only [Option.map_some,Option.some.injEq] at a b c ⊢
      rw [a,b,c]) h0
end My
namespace My
open PySem PySem.W
noncomputable def goT (tb:String→Option Builtin) (p:Program) (w:World) (m:Nat) (ann:Option Value):Nat→SharedT→Thread→Option (SharedT × Thread)
  | 0,s,t=>some (s,t)
  | k+1,s,t=>match through t with
    | true=>none
    | false=>match stepOk m ann t with
      | false=>none
      | true=>match stepT (denote tb) p w s t with
        | some (s',t')=>goT tb p w m ann k s' t'
        | none=>none
theorem AaO {tb:String→Option Builtin} {p:Program} {w:World} {m:Nat} {ann:Option Value}:∀ (k:Nat) {s s':SharedT} {t t':Thread},goT tb p w m ann k s t=some (s',t')→topGo tb p w m ann k s.abs t=some (s'.abs,t')
  | 0,s,s',t,t',h=>by cases h;rfl
  | k+1,s,s',t,t',h=>by
    unfold goT at h
    unfold topGo
    cases e:through t with
    | true=>rw [e] at h;cases h
    | false =>
      rw [e] at h
      dsimp only at h ⊢
      cases e2:stepOk m ann t with
      | false=>rw [e2] at h;cases h
      | true =>
        rw [e2] at h
        dsimp only at h ⊢
        cases e3:stepT (denote tb) p w s t with
        | none=>rw [e3] at h;cases h
        | some st =>
          obtain ⟨s2,t2⟩:=st
          rw [e3] at h
          rw [stepT_spec e3]
          exact AaO k h
theorem AaZ {p:Program} {w:World} {N:Nat} {α:Type} {F:Shared→α} {g:α} (e:opening p=plainProg p.main.scope.names) (hN:Nat.ble 600 N=true) (f:∀ s,fenceModules? p s=some s)
    (h:∀ os,∃ r:Shared,topRun treeTable p w (Bw w os).heap.objs.size ((Bw w os).heap.nsMap mainGlobals "__annotations__") N (Bw w os) (topStub p)=some r∧stays p (Bw w os) r=true∧F r=g)
    (h0:∀ os,((Bw w os).heap.isNs mainGlobals && (Bw w os).gens.size == 0)=true):(openEnds treeTable p w N).map F=some g:=by
  have hb:=boot_open e hN f w
  unfold openEnds
  cases q:fencedOpening treeTable p w N with
  | none=>rw [q] at hb;cases hb
  | some s =>
    rw [q] at hb
    have hs:s=Bw w s.os:=by
      obtain ⟨a,b,c,d,o⟩:=s
      simp only [Option.map_some,Option.some.injEq,Prod.mk.injEq] at hb
      obtain ⟨rfl,rfl,rfl,rfl⟩:=hb
      rfl
    generalize s.os=o at hs
    subst hs
    show (topFrom treeTable p w N (Bw w o)).map F=some g
    unfold topFrom
    rw [h0 o]
    obtain ⟨r,hr,h1,h2⟩:=h o
    unfold stays at h1
    dsimp only
    rw [hr]
    show (match staticsOk (importedModules p.main.body) (Bw w o).heap r.heap && namesBound p r.heap && gensDone r && laidKept (Bw w o).heap r.heap with
      | true=>some r
      | false=>none).map F=some g
    rw [h1]
    exact congrArg some h2
theorem Zy {p:Program} {w:World} {N:Nat} {α β:Type} {F:Shared→α} {G:Shared→β} {f':α} {g':β} {TL:OsState→Option SharedT} (e:opening p=plainProg p.main.scope.names) (hN:Nat.ble 600 N=true) (f:∀ s,fenceModules? p s=some s)
    (hr:∀ os r,TL os=some r→topRun treeTable p w (Bw w os).heap.objs.size ((Bw w os).heap.nsMap mainGlobals "__annotations__") N (Bw w os) (topStub p)=some r.abs)
    (h1:∀ os,(TL os).map (fun r=>stays p (Bw w os) r.abs)=some true) (h2:∀ os,(TL os).map (fun r=>F r.abs)=some f') (h3:∀ os,(TL os).map (fun r=>G r.abs)=some g')
    (h0:∀ os,((Bw w os).heap.isNs mainGlobals && (Bw w os).gens.size == 0)=true):(openEnds treeTable p w N).map (fun s=>(F s,G s))=some (f',g') :=
  AaZ (F:=fun s=>(F s,G s)) e hN f (fun os=>by
    have a:=h1 os
    have b:=h2 os
    have c:=h3 os
    have d:=hr os
    cases q:TL os with
    | none=>rw [q] at a;cases a
    | some r =>
      rw [q] at a b c
      simp only [Option.map_some,Option.some.injEq] at a b c
      exact ⟨_,d r q,a,by rw [b,c]⟩) h0
end My
set_option maxRecDepth 1000000
set_option maxHeartbeats 0
namespace My
open PySem PySem.W
noncomputable def tp (i:Nat):Stmt:=PySem.Challenge.pw_formcycle_k74_whole_classes.main.body.getD i (.Pass ⟨0,0,0,0⟩)
noncomputable def fA (s:Stmt):Arguments:=match s with
  | .FunctionDef _ a _ _ _ _ _ _ _ _=>a
  | _=>⟨[],[],none,[],[],none,[]⟩
noncomputable def fB (s:Stmt):List Stmt:=match s with
  | .FunctionDef _ _ b _ _ _ _ _ _ _=>b
  | _=>[]
noncomputable def fS (s:Stmt):Scope:=match s with
  | .FunctionDef _ _ _ _ _ _ c _ _ _=>c
  | _=>⟨.function,[],false,false,[]⟩
noncomputable def inC (s:Stmt) (j:Nat):Stmt:=match s with
  | .ClassDef _ _ _ b _ _ _ _ _ _ _=>b.getD j (.Pass ⟨0,0,0,0⟩)
  | _=>.Pass ⟨0,0,0,0⟩
noncomputable section
noncomputable abbrev O:=Obj
noncomputable abbrev sT (s:String) (t:Nat):Value:=.str (.ofString s) t
noncomputable abbrev iZ (n:Int):Value:=.int n 0
noncomputable abbrev dE (P:Params) (s:String) (t:Nat) (v:Value):DictEntry:=.mk (PyData.keyHash P (.ofString s)) (.str (.ofString s) t) v
noncomputable abbrev fO (n q:String) (w:Stmt) (m:String) (t c:Nat):Obj:=.mk (.type "function") none (Data.func (FuncData.mk (.ofString n) (.ofString q) (fA w) (.stmts (fB w)) (fS w) 3 [] .none .none .none (.str (.ofString m) t) none (.ref c) .none 0)) #[]
noncomputable abbrev tO (a:Array Value):Obj:=.mk (.type "tuple") none (Data.seq a) #[]
noncomputable abbrev cO (a:Array Value):Obj:=.mk (.type "code") none (Data.fields a) #[]
noncomputable abbrev nO (a:Array Value):Obj:=.mk .none none (Data.fields a) #[]
noncomputable abbrev mO (a:Array DictEntry):Obj:=.mk (.type "dict") none (Data.dict a) #[]
noncomputable abbrev bO (a:Array Value):Obj:=.mk (.type "builtin_function_or_method") none (Data.fields a) #[]
noncomputable abbrev Lf (o:Obj):BT:=.node o .nil .nil
noncomputable abbrev Nd (o:Obj) (l r:BT):BT:=.node o l r
noncomputable abbrev sF (t:Nat):Value:=.str (.ofString "/claim/cut.py") t
noncomputable def tE:Obj:=.mk (.type "tuple") none (Data.seq #[]) #[]
noncomputable abbrev cF (n q:String) (a l k r t:Nat):Obj:=.mk (.type "code") none (Data.fields #[.str (.ofString n) a,.str (.ofString q) (a+1),.str (.ofString "/claim/cut.py") (a+2),.int l 0,.int k 0,.int 0 0,.int 0 0,.int 3 0,.ref r,.bool true,.int 181 0,.ref (r+1),.none,.ref (r+2),.ref (r+3),.ref (r+4),.int t 0,.int l 0,.str (.ofString "/claim/cut.py") (t+1)]) #[]
noncomputable abbrev pO (n q:String) (w:Stmt) (c:Nat):Obj:=.mk .none none (Data.func (FuncData.mk (.ofString n) (.ofString q) (fA w) (.stmts (fB w)) (fS w) 3 [] .none .none .none .none none (.ref c) .none 0)) #[]
noncomputable abbrev rO (c l:Nat) (m:String) (t:Nat):Obj:=.mk (.type "frame") none Data.plain #[some (.ref c),some (.ref 3),some (.ref l),none,some (.str (.ofString m) t),none,some (.ref 0)]
noncomputable abbrev sO (c:Nat):Obj:=.mk (.type "super") none (Data.fields #[.ref c,.ref c,.ref c]) #[]
noncomputable abbrev dO (a:Array DictEntry) (n:Nat):Obj:=.mk (.type "dict") none (Data.dict a n) #[]
noncomputable abbrev xO (n:String) (b c d e t u:Nat):Obj:=.mk (.type "type") none (Data.cls (ClassData.mk (.ofString n) [.ref b] [.ref c,.ref b,.type "ValueError",.type "Exception",.type "BaseException",.type "object"] d (.ofString n) true [] [] false none false)) #[some (.ref e),none,some (.str (.ofString n) t),some (.str (.ofString n) u),some (.builtin "ValueError.__new__"),some (.bool true)]
noncomputable def o2:O:=.mk .none none (Data.dict #[]) #[]
noncomputable def o3 (P:Params):O:=dO #[dE P "__name__" 165 (sT "law_formcycle_k74_whole_classes" 916),dE P "__doc__" 166 .none,dE P "__package__" 167 .none,dE P "__loader__" 168 (.builtin "__main__.__loader__#opaque"),dE P "__spec__" 169 .none,dE P "__annotations__" 170 (.ref 6),dE P "__builtins__" 171 (.ref 4),dE P "__file__" 173 (sF 172),dE P "__cached__" 174 .none,dE P "_wall" 193 (.ref 21),dE P "FormError" 213 (.ref 31),dE P "NoTurn" 238 (.ref 51),dE P "NoShape" 263 (.ref 70),dE P "TooGreat" 290 (.ref 89),dE P "NoRoot" 315 (.ref 108),dE P "Apart" 331 (.ref 120),dE P "NotPlain" 356 (.ref 139),dE P "NoMeasure" 381 (.ref 158),dE P "divisor" 392 (.ref 167),dE P "shares" 403 (.ref 174),dE P "row_less" 412 (.ref 181),dE P "root" 421 (.ref 188),dE P "is_square" 429 (.ref 195),dE P "check_at_most" 437 (.ref 202),dE P "check_within" 445 (.ref 209),dE P "SAME" 452 (.ref 210),dE P "is_turn" 459 (.ref 217),dE P "check_turn" 466 (.ref 224),dE P "led" 474 (.ref 231),dE P "put_behind" 482 (.ref 238),dE P "back" 489 (.ref 245),dE P "measure" 498 (.ref 252),dE P "value" 508 (.ref 259),dE P "content" 515 (.ref 266),dE P "moved" 525 (.ref 273),dE P "middle" 535 (.ref 280),dE P "shape" 543 (.ref 287),dE P "check_bowl" 552 (.ref 294),dE P "stands_least" 562 (.ref 301),dE P "settled" 571 (.ref 308),dE P "turn_lower" 579 (.ref 315),dE P "MOST_MEASURE" 583 (.int 4000 582),dE P "check_saddle" 590 (.ref 322),dE P "stands_level" 599 (.ref 329),dE P "turn_behind" 610 (.ref 336),dE P "stop_behind" 619 (.ref 343),dE P "eased" 628 (.ref 350),dE P "stops_round" 639 (.ref 357),dE P "round_of" 645 (.ref 362),dE P "lowered" 652 (.ref 369),dE P "Shape" 709 (.ref 407),dE P "Bowl" 733 (.ref 428),dE P "Saddle" 757 (.ref 447),dE P "shape_of" 764 (.ref 456),dE P "way_between" 772 (.ref 463),dE P "least_of" 779 (.ref 470),dE P "alike" 789 (.ref 477),dE P "product" 802 (.ref 484),dE P "check_pair" 812 (.ref 491),dE P "check_plain" 819 (.ref 498),dE P "half_of_middles" 827 (.ref 505),dE P "common_shares" 837 (.ref 512),dE P "joint_form" 852 (.ref 519),dE P "joint_rows" 869 (.ref 526),dE P "rows_led" 875 (.ref 531),dE P "check_measure" 884 (.ref 538),dE P "classes" 891 (.ref 545),dE P "least_bowls" 897 (.ref 550),dE P "least_saddles" 909 (.ref 557),dE P "plain_forms" 915 (.ref 562),dE P "_law_cell" 925 (.ref 569),dE P "_law_whole" 932 (.ref 576),dE P "_law_wholes" 938 (.ref 581),dE P "_law_bar" 945 (.ref 588),dE P "_law_root" 953 (.ref 595),dE P "_law_flat" 962 (.ref 602),dE P "_law_rest" 970 (.ref 609),dE P "_law_turn" 984 (.ref 616),dE P "_law_value" 996 (.ref 623),dE P "_law_moved" 1010 (.ref 630),dE P "_law_form" 1024 (.ref 637),dE P "_law_moves" 1033 (.ref 644),dE P "_law_opposite" 1040 (.ref 651),dE P "law" 1061 (.ref 658)] 84
noncomputable def o17:O:=tO #[sT "k" 190]
noncomputable def o20:O:=cF "_wall" "_wall" 187 1 1 15 191
noncomputable def o21:O:=fO "_wall" "_wall" (tp 0) "__main__" 164 20
noncomputable def o22:O:=tO #[.type "ValueError"]
noncomputable def o30 (P:Params):O:=dO #[dE P "__module__" 203 (sT "formcycle.errors" 194),dE P "__firstlineno__" 207 (.int 5 206),dE P "__static_attributes__" 208 (.ref 29),dE P "__weakref__" 210 (.ref 32),dE P "__doc__" 211 .none] 3
noncomputable def o31:O:=.mk (.type "type") none (Data.cls (ClassData.mk (.ofString "FormError") [.type "ValueError"] [.ref 31,.type "ValueError",.type "Exception",.type "BaseException",.type "object"] 30 (.ofString "FormError") Bool.true [] [.ref 51,.ref 70,.ref 89,.ref 108,.ref 120,.ref 139,.ref 158] Bool.false none Bool.false)) #[some (.ref 22),none,some (sT "FormError" 196),some (sT "FormError" 204),some (.builtin "ValueError.__new__"),some (.bool true)]
noncomputable def o32:O:=.mk (.type "getset_descriptor") none (Data.fields #[sT "__weakref__" 209,.ref 31,.builtin "ExceptionGroup.__weakref__",.none]) #[]
noncomputable def o35:O:=tO #[.ref 31]
noncomputable def o44:O:=tO #[sT "self" 229,sT "turn" 230]
noncomputable def o47:O:=cF "__init__" "NoTurn.__init__" 226 9 2 42 231
noncomputable def o48:O:=fO "__init__" "NoTurn.__init__" (inC (tp 3) 0) "formcycle.errors" 194 47
noncomputable def o49:O:=tO #[sT "turn" 234]
noncomputable def o50 (P:Params):O:=dO #[dE P "__module__" 221 (sT "formcycle.errors" 194),dE P "__firstlineno__" 225 (.int 7 224),dE P "__init__" 233 (.ref 48),dE P "__static_attributes__" 235 (.ref 49),dE P "__doc__" 236 .none] 2
noncomputable def o51:O:=xO "NoTurn" 31 51 50 35 214 222
noncomputable def o54:O:=tO #[.ref 31]
noncomputable def o63:O:=tO #[sT "self" 254,sT "form" 255]
noncomputable def o66:O:=cF "__init__" "NoShape.__init__" 251 13 2 61 256
noncomputable def o67:O:=fO "__init__" "NoShape.__init__" (inC (tp 4) 0) "formcycle.errors" 194 66
noncomputable def o68:O:=tO #[sT "form" 259]
noncomputable def o69 (P:Params):O:=dO #[dE P "__module__" 246 (sT "formcycle.errors" 194),dE P "__firstlineno__" 250 (.int 11 249),dE P "__init__" 258 (.ref 67),dE P "__static_attributes__" 260 (.ref 68),dE P "__doc__" 261 .none] 2
noncomputable def o70:O:=xO "NoShape" 31 70 69 54 239 247
noncomputable def o73:O:=tO #[.ref 31]
noncomputable def o82:O:=tO #[sT "self" 279,sT "number" 280,sT "most" 281]
noncomputable def o85:O:=cF "__init__" "TooGreat.__init__" 276 17 3 80 282
noncomputable def o86:O:=fO "__init__" "TooGreat.__init__" (inC (tp 5) 0) "formcycle.errors" 194 85
noncomputable def o87:O:=tO #[sT "most" 285,sT "number" 286]
noncomputable def o88 (P:Params):O:=dO #[dE P "__module__" 271 (sT "formcycle.errors" 194),dE P "__firstlineno__" 275 (.int 15 274),dE P "__init__" 284 (.ref 86),dE P "__static_attributes__" 287 (.ref 87),dE P "__doc__" 288 .none] 2
noncomputable def o89:O:=xO "TooGreat" 31 89 88 73 264 272
noncomputable def o92:O:=tO #[.ref 31]
noncomputable def Afs:O:=tO #[sT "self" 306,sT "number" 307]
noncomputable def AfE:O:=cF "__init__" "NoRoot.__init__" 303 22 2 99 308
noncomputable def AfL:O:=fO "__init__" "NoRoot.__init__" (inC (tp 6) 0) "formcycle.errors" 194 104
noncomputable def Agt:O:=tO #[sT "number" 311]
noncomputable def Agh (P:Params):O:=dO #[dE P "__module__" 298 (sT "formcycle.errors" 194),dE P "__firstlineno__" 302 (.int 20 301),dE P "__init__" 310 (.ref 105),dE P "__static_attributes__" 312 (.ref 106),dE P "__doc__" 313 .none] 2
noncomputable def AeZ:O:=xO "NoRoot" 31 108 107 92 291 299
noncomputable def o111:O:=tO #[.ref 31]
noncomputable def AfP (P:Params):O:=dO #[dE P "__module__" 323 (sT "formcycle.errors" 194),dE P "__firstlineno__" 327 (.int 24 326),dE P "__static_attributes__" 328 (.ref 118),dE P "__doc__" 329 .none] 2
noncomputable def AeW:O:=xO "Apart" 31 120 119 111 316 324
noncomputable def Afm:O:=tO #[.ref 31]
noncomputable def Af3:O:=tO #[sT "self" 347,sT "form" 348]
noncomputable def Afd:O:=cF "__init__" "NotPlain.__init__" 344 28 2 130 349
noncomputable def Af0:O:=fO "__init__" "NotPlain.__init__" (inC (tp 8) 0) "formcycle.errors" 194 135
noncomputable def AeP:O:=tO #[sT "form" 352]
noncomputable def AfK (P:Params):O:=dO #[dE P "__module__" 339 (sT "formcycle.errors" 194),dE P "__firstlineno__" 343 (.int 26 342),dE P "__init__" 351 (.ref 136),dE P "__static_attributes__" 353 (.ref 137),dE P "__doc__" 354 .none] 2
noncomputable def AeV:O:=xO "NotPlain" 31 139 138 123 332 340
noncomputable def AhV:O:=tO #[.ref 31]
noncomputable def AiW:O:=tO #[sT "self" 372,sT "number" 373]
noncomputable def AiF:O:=cF "__init__" "NoMeasure.__init__" 369 32 2 149 374
noncomputable def AgZ:O:=fO "__init__" "NoMeasure.__init__" (inC (tp 9) 0) "formcycle.errors" 194 154
noncomputable def Ag1:O:=tO #[sT "number" 377]
noncomputable def Ajx (P:Params):O:=dO #[dE P "__module__" 364 (sT "formcycle.errors" 194),dE P "__firstlineno__" 368 (.int 30 367),dE P "__init__" 376 (.ref 155),dE P "__static_attributes__" 378 (.ref 156),dE P "__doc__" 379 .none] 2
noncomputable def AjY:O:=xO "NoMeasure" 31 158 157 142 357 365
noncomputable def Aj7:O:=tO #[sT "one" 387,sT "other" 388,sT "rest" 389]
noncomputable def AiY:O:=cF "divisor" "divisor" 384 35 2 161 390
noncomputable def Ajy:O:=fO "divisor" "divisor" (tp 11) "formcycle.wholes" 382 166
noncomputable def AhN:O:=tO #[sT "one" 396,sT "other" 397,sT "row" 398,sT "lower" 399,sT "rest" 400]
noncomputable def AhM:O:=cF "shares" "shares" 393 41 2 168 401
noncomputable def Aji:O:=fO "shares" "shares" (tp 12) "formcycle.wholes" 382 173
noncomputable def AjC:O:=tO #[sT "row" 407,sT "lower" 408,sT "often" 409]
noncomputable def AiL:O:=cF "row_less" "row_less" 404 51 3 175 410
noncomputable def AjO:O:=fO "row_less" "row_less" (tp 13) "formcycle.wholes" 382 180
noncomputable def Ajb:O:=tO #[sT "number" 416,sT "guess" 417,sT "better" 418]
noncomputable def Ahz:O:=cF "root" "root" 413 53 1 182 419
noncomputable def AiJ:O:=fO "root" "root" (tp 14) "formcycle.wholes" 382 187
noncomputable def Akb:O:=tO #[sT "number" 425,sT "side" 426]
noncomputable def Ahf:O:=cF "is_square" "is_square" 422 64 1 189 427
noncomputable def Ajs:O:=fO "is_square" "is_square" (tp 15) "formcycle.wholes" 382 194
noncomputable def AjJ:O:=tO #[sT "number" 433,sT "most" 434]
noncomputable def AiV:O:=cF "check_at_most" "check_at_most" 430 69 2 196 435
noncomputable def Ahd:O:=fO "check_at_most" "check_at_most" (tp 16) "formcycle.wholes" 382 201
noncomputable def AiD:O:=tO #[sT "number" 441,sT "most" 442]
noncomputable def Aj9:O:=cF "check_within" "check_within" 438 72 2 203 443
noncomputable def Aiw:O:=fO "check_within" "check_within" (tp 17) "formcycle.wholes" 382 208
noncomputable def AgD:O:=tO #[.int 1 448,.int 0 449,.int 0 450,.int 1 451]
noncomputable def Aip:O:=tO #[sT "turn" 456]
noncomputable def Ag4:O:=cF "is_turn" "is_turn" 453 77 1 211 457
noncomputable def Aij:O:=fO "is_turn" "is_turn" (tp 20) "formcycle.turns" 446 216
noncomputable def AgN:O:=tO #[sT "turn" 463]
noncomputable def AhS:O:=cF "check_turn" "check_turn" 460 79 1 218 464
noncomputable def AiI:O:=fO "check_turn" "check_turn" (tp 21) "formcycle.turns" 446 223
noncomputable def Ag7:O:=tO #[sT "turn" 470,sT "point" 471]
noncomputable def AhX:O:=cF "led" "led" 467 82 2 225 472
noncomputable def AjG:O:=fO "led" "led" (tp 22) "formcycle.turns" 446 230
noncomputable def AiQ:O:=tO #[sT "one" 478,sT "other" 479]
noncomputable def AgO:O:=cF "put_behind" "put_behind" 475 85 2 232 480
noncomputable def Ahs:O:=fO "put_behind" "put_behind" (tp 23) "formcycle.turns" 446 237
noncomputable def Aiu:O:=tO #[sT "turn" 486]
noncomputable def Ah8:O:=cF "back" "back" 483 87 1 239 487
noncomputable def Ajw:O:=fO "back" "back" (tp 24) "formcycle.turns" 446 244
noncomputable def AhI:O:=tO #[sT "form" 495]
noncomputable def Ail:O:=cF "measure" "measure" 492 91 1 246 496
noncomputable def Ahc:O:=fO "measure" "measure" (tp 26) "formcycle.forms" 490 251
noncomputable def AjV:O:=tO #[sT "form" 502,sT "point" 503,sT "x" 504,sT "y" 505]
noncomputable def Ah9:O:=cF "value" "value" 499 93 2 253 506
noncomputable def AhK:O:=fO "value" "value" (tp 27) "formcycle.forms" 490 258
noncomputable def AjI:O:=tO #[sT "form" 512]
noncomputable def Ah1:O:=cF "content" "content" 509 97 1 260 513
noncomputable def Ahp:O:=fO "content" "content" (tp 28) "formcycle.forms" 490 265
noncomputable def AhW:O:=tO #[sT "form" 519,sT "turn" 520,sT "left" 521,sT "right" 522]
noncomputable def Aiz:O:=cF "moved" "moved" 516 99 2 267 523
noncomputable def Ahq:O:=fO "moved" "moved" (tp 29) "formcycle.forms" 490 272
noncomputable def AhA:O:=tO #[sT "form" 529,sT "left" 530,sT "right" 531,sT "crossed" 532]
noncomputable def AiA:O:=cF "middle" "middle" 526 104 3 274 533
noncomputable def Ajr:O:=fO "middle" "middle" (tp 30) "formcycle.forms" 490 279
noncomputable def Ahe:O:=tO #[sT "form" 539,sT "number" 540]
noncomputable def Ajq:O:=cF "shape" "shape" 536 107 1 281 541
noncomputable def Aik:O:=fO "shape" "shape" (tp 31) "formcycle.forms" 490 286
noncomputable def AiO:O:=tO #[sT "form" 549]
noncomputable def Aih:O:=cF "check_bowl" "check_bowl" 546 117 1 288 550
noncomputable def Ah2:O:=fO "check_bowl" "check_bowl" (tp 33) "formcycle.bowls" 544 293
noncomputable def AjX:O:=tO #[sT "form" 556,sT "a" 557,sT "b" 558,sT "c" 559]
noncomputable def o300:O:=cF "stands_least" "stands_least" 553 120 1 295 560
noncomputable def Ah4:O:=fO "stands_least" "stands_least" (tp 34) "formcycle.bowls" 544 300
noncomputable def Ajc:O:=tO #[sT "form" 566,sT "turn" 567,sT "lowering" 568]
noncomputable def Aiq:O:=cF "settled" "settled" 563 127 1 302 569
noncomputable def Aib:O:=fO "settled" "settled" (tp 35) "formcycle.bowls" 544 307
noncomputable def Ai0:O:=tO #[sT "form" 575,sT "often" 576]
noncomputable def Ajt:O:=cF "turn_lower" "turn_lower" 572 135 1 309 577
noncomputable def Aim:O:=fO "turn_lower" "turn_lower" (tp 36) "formcycle.bowls" 544 314
noncomputable def Aiy:O:=tO #[sT "form" 587]
noncomputable def Ag2:O:=cF "check_saddle" "check_saddle" 584 142 1 316 588
noncomputable def AiK:O:=fO "check_saddle" "check_saddle" (tp 39) "formcycle.saddles" 580 321
noncomputable def Aj3:O:=tO #[sT "form" 594,sT "far" 595,sT "b" 596]
noncomputable def Ai2:O:=cF "stands_level" "stands_level" 591 146 2 323 597
noncomputable def Aj4:O:=fO "stands_level" "stands_level" (tp 40) "formcycle.saddles" 580 328
noncomputable def Ai6:O:=tO #[sT "form" 603,sT "top" 604,sT "b" 605,sT "c" 606,sT "d" 607]
noncomputable def Aia:O:=cF "turn_behind" "turn_behind" 600 149 2 330 608
noncomputable def AgT:O:=fO "turn_behind" "turn_behind" (tp 41) "formcycle.saddles" 580 335
noncomputable def Ai9:O:=tO #[sT "stop" 614,sT "top" 615,sT "turn" 616]
noncomputable def Ahr:O:=cF "stop_behind" "stop_behind" 611 154 2 337 617
noncomputable def Ahm:O:=fO "stop_behind" "stop_behind" (tp 42) "formcycle.saddles" 580 342
noncomputable def Ajm:O:=tO #[sT "form" 623,sT "far" 624,sT "stop" 625]
noncomputable def Aig:O:=cF "eased" "eased" 620 157 1 344 626
noncomputable def Ag6:O:=fO "eased" "eased" (tp 43) "formcycle.saddles" 580 349
noncomputable def AgM:O:=tO #[sT "form" 632,sT "far" 633,sT "first" 634,sT "stops" 635,sT "stop" 636]
noncomputable def AjD:O:=cF "stops_round" "stops_round" 629 164 1 351 637
noncomputable def AiU:O:=fO "stops_round" "stops_round" (tp 44) "formcycle.saddles" 580 356
noncomputable def Ajf:O:=cO #[sT "round_of" 640,sT "round_of" 641,sF 642,iZ 174,iZ 1,iZ 0,iZ 0,iZ 3,.ref 358,.bool true,iZ 181,.ref 359,.none,.none,.none,.ref 360,iZ 643,iZ 174,sF 644]
noncomputable def AhU:O:=fO "round_of" "round_of" (tp 45) "formcycle.saddles" 580 361
noncomputable def Ahj:O:=tO #[sT "form" 649]
noncomputable def Ajv:O:=cF "lowered" "lowered" 646 179 1 363 650
noncomputable def Aju:O:=fO "lowered" "lowered" (tp 46) "formcycle.saddles" 580 368
noncomputable def Ahl:O:=tO #[sT "self" 670,sT "form" 671,sT "lowest" 672]
noncomputable def Aj1:O:=cF "__init__" "Shape.__init__" 667 185 3 377 673
noncomputable def AhP:O:=fO "__init__" "Shape.__init__" (inC (tp 48) 0) "formcycle.shapes" 653 382
noncomputable def Ahy:O:=tO #[sT "self" 679]
noncomputable def AgU:O:=cF "least" "Shape.least" 676 190 1 384 680
noncomputable def Ahb:O:=fO "least" "Shape.least" (inC (tp 48) 1) "formcycle.shapes" 653 389
noncomputable def Ai7:O:=tO #[sT "self" 686,sT "turn" 687]
noncomputable def AiZ:O:=cF "leaves" "Shape.leaves" 683 193 2 391 688
noncomputable def Ain:O:=fO "leaves" "Shape.leaves" (inC (tp 48) 2) "formcycle.shapes" 653 396
noncomputable def o400:O:=tO #[sT "self" 694,sT "other" 695]
noncomputable def AgL:O:=cF "way_to" "Shape.way_to" 691 196 2 398 696
noncomputable def Ag5:O:=fO "way_to" "Shape.way_to" (inC (tp 48) 3) "formcycle.shapes" 653 403
noncomputable def AgS:O:=tO #[sT "form" 699,sT "lowest" 700,sT "measure" 701]
noncomputable def Ag9 (P:Params):O:=dO #[dE P "__module__" 662 (sT "formcycle.shapes" 653),dE P "__firstlineno__" 666 (.int 183 665),dE P "__init__" 675 (.ref 383),dE P "least" 682 (.ref 390),dE P "leaves" 690 (.ref 397),dE P "way_to" 698 (.ref 404),dE P "__static_attributes__" 702 (.ref 405),dE P "__dict__" 704 (.ref 408),dE P "__weakref__" 706 (.ref 409),dE P "__doc__" 707 .none] 4
noncomputable def Alz:O:=.mk (.type "type") none (Data.cls (ClassData.mk (.ofString "Shape") [.type "object"] [.ref 407,.type "object"] 406 (.ofString "Shape") Bool.true [] [.ref 428,.ref 447] Bool.false none Bool.false)) #[none,none,some (sT "Shape" 655),some (sT "Shape" 663),some (.builtin "object.__new__"),some (.bool true)]
noncomputable def AgP:O:=.mk (.type "getset_descriptor") none (Data.fields #[sT "__dict__" 703,.ref 407,.builtin "function.__dict__",.builtin "function.__dict__#set"]) #[]
noncomputable def Ajp:O:=.mk (.type "getset_descriptor") none (Data.fields #[sT "__weakref__" 705,.ref 407,.builtin "ExceptionGroup.__weakref__",.none]) #[]
noncomputable def Al1:O:=tO #[.ref 407]
noncomputable def AmK:O:=tO #[sT "self" 725,sT "form" 726]
noncomputable def AlX:O:=cF "__init__" "Bowl.__init__" 722 200 2 419 727
noncomputable def AmQ:O:=fO "__init__" "Bowl.__init__" (inC (tp 49) 0) "formcycle.shapes" 653 424
noncomputable def Al3 (P:Params):O:=dO #[dE P "__module__" 717 (sT "formcycle.shapes" 653),dE P "__firstlineno__" 721 (.int 198 720),dE P "__init__" 729 (.ref 425),dE P "__static_attributes__" 730 (.ref 426),dE P "__doc__" 731 .none] 2
noncomputable def Akl:O:=.mk (.type "type") none (Data.cls (ClassData.mk (.ofString "Bowl") [.ref 407] [.ref 428,.ref 407,.type "object"] 427 (.ofString "Bowl") Bool.true [] [] Bool.false none Bool.false)) #[some (.ref 412),none,some (sT "Bowl" 710),some (sT "Bowl" 718),some (.builtin "object.__new__"),some (.bool true)]
noncomputable def AmA:O:=tO #[.ref 407]
noncomputable def Amu:O:=tO #[sT "self" 749,sT "form" 750]
noncomputable def Al7:O:=cF "__init__" "Saddle.__init__" 746 204 2 438 751
noncomputable def o444:O:=fO "__init__" "Saddle.__init__" (inC (tp 50) 0) "formcycle.shapes" 653 443
noncomputable def Alb (P:Params):O:=dO #[dE P "__module__" 741 (sT "formcycle.shapes" 653),dE P "__firstlineno__" 745 (.int 202 744),dE P "__init__" 753 (.ref 444),dE P "__static_attributes__" 754 (.ref 445),dE P "__doc__" 755 .none] 2
noncomputable def Amp:O:=.mk (.type "type") none (Data.cls (ClassData.mk (.ofString "Saddle") [.ref 407] [.ref 447,.ref 407,.type "object"] 446 (.ofString "Saddle") Bool.true [] [] Bool.false none Bool.false)) #[some (.ref 431),none,some (sT "Saddle" 734),some (sT "Saddle" 742),some (.builtin "object.__new__"),some (.bool true)]
noncomputable def Ami:O:=tO #[sT "form" 761]
noncomputable def AmO:O:=cF "shape_of" "shape_of" 758 206 1 450 762
noncomputable def AmB:O:=fO "shape_of" "shape_of" (tp 51) "formcycle.shapes" 653 455
noncomputable def Amx:O:=tO #[sT "one" 768,sT "other" 769]
noncomputable def Alm:O:=cF "way_between" "way_between" 765 210 2 457 770
noncomputable def AmF:O:=fO "way_between" "way_between" (tp 52) "formcycle.shapes" 653 462
noncomputable def AkP:O:=tO #[sT "form" 776]
noncomputable def Amt:O:=cF "least_of" "least_of" 773 214 1 464 777
noncomputable def AlW:O:=fO "least_of" "least_of" (tp 53) "formcycle.shapes" 653 469
noncomputable def AmS:O:=tO #[sT "one" 783,sT "other" 784,sT "first" 785,sT "second" 786]
noncomputable def Ali:O:=cF "alike" "alike" 780 216 2 471 787
noncomputable def AmJ:O:=fO "alike" "alike" (tp 54) "formcycle.shapes" 653 476
noncomputable def Ak5:O:=tO #[sT "one" 795,sT "other" 796,sT "common" 797,sT "form" 798,sT "lowest" 799]
noncomputable def Al2:O:=cF "product" "product" 792 221 2 478 800
noncomputable def Amq:O:=fO "product" "product" (tp 56) "formcycle.products" 790 483
noncomputable def AkY:O:=tO #[sT "one" 806,sT "other" 807,sT "first" 808,sT "second" 809]
noncomputable def Ak9:O:=cF "check_pair" "check_pair" 803 227 2 485 810
noncomputable def Amr:O:=fO "check_pair" "check_pair" (tp 57) "formcycle.products" 790 490
noncomputable def Ako:O:=tO #[sT "form" 816]
noncomputable def Ala:O:=cF "check_plain" "check_plain" 813 234 1 492 817
noncomputable def Alq:O:=fO "check_plain" "check_plain" (tp 58) "formcycle.products" 790 497
noncomputable def AkB:O:=tO #[sT "one" 823,sT "other" 824]
noncomputable def AlZ:O:=cF "half_of_middles" "half_of_middles" 820 237 2 499 825
noncomputable def Alj:O:=fO "half_of_middles" "half_of_middles" (tp 59) "formcycle.products" 790 504
noncomputable def AlH:O:=tO #[sT "one" 831,sT "other" 832,sT "firsts" 833,sT "whole" 834]
noncomputable def Akj:O:=cF "common_shares" "common_shares" 828 239 2 506 835
noncomputable def Akt:O:=fO "common_shares" "common_shares" (tp 60) "formcycle.products" 790 511
noncomputable def Alu:O:=tO #[sT "one" 841,sT "other" 842,sT "common" 843,sT "g" 844,sT "d" 845,sT "e" 846,sT "first" 847,sT "more" 848,sT "middle" 849]
noncomputable def AlT:O:=cF "joint_form" "joint_form" 838 243 3 513 850
noncomputable def Akv:O:=fO "joint_form" "joint_form" (tp 61) "formcycle.products" 790 518
noncomputable def AkJ:O:=tO #[sT "one" 856,sT "other" 857,sT "g" 858,sT "middle" 859,sT "a" 860,sT "b" 861,sT "d" 862,sT "e" 863,sT "s" 864,sT "last" 865,sT "upper" 866]
noncomputable def Amz:O:=cF "joint_rows" "joint_rows" 853 251 4 520 867
noncomputable def AlE:O:=fO "joint_rows" "joint_rows" (tp 62) "formcycle.products" 790 525
noncomputable def AkN:O:=cO #[sT "rows_led" 870,sT "rows_led" 871,sF 872,iZ 260,iZ 2,iZ 0,iZ 0,iZ 3,.ref 527,.bool true,iZ 181,.ref 528,.none,.none,.none,.ref 529,iZ 873,iZ 260,sF 874]
noncomputable def AmL:O:=fO "rows_led" "rows_led" (tp 63) "formcycle.products" 790 530
noncomputable def Amj:O:=tO #[sT "number" 881]
noncomputable def AmI:O:=cF "check_measure" "check_measure" 878 264 1 532 882
noncomputable def Aln:O:=fO "check_measure" "check_measure" (tp 65) "formcycle.classes" 876 537
noncomputable def AmV:O:=tO #[sT "number" 888]
noncomputable def AkO:O:=cF "classes" "classes" 885 267 1 539 889
noncomputable def AlF:O:=fO "classes" "classes" (tp 66) "formcycle.classes" 876 544
noncomputable def Al9:O:=cO #[sT "least_bowls" 892,sT "least_bowls" 893,sF 894,iZ 273,iZ 1,iZ 0,iZ 0,iZ 3,.ref 546,.bool true,iZ 181,.ref 547,.none,.none,.none,.ref 548,iZ 895,iZ 273,sF 896]
noncomputable def AkM:O:=fO "least_bowls" "least_bowls" (tp 67) "formcycle.classes" 876 549
noncomputable def AlN:O:=tO #[sT "number" 901,sT "far" 902,sT "found" 903,sT "seen" 904,sT "form" 905,sT "other" 906]
noncomputable def Amd:O:=cF "least_saddles" "least_saddles" 898 275 1 551 907
noncomputable def Amb:O:=fO "least_saddles" "least_saddles" (tp 68) "formcycle.classes" 876 556
noncomputable def AkX:O:=cO #[sT "plain_forms" 910,sT "plain_forms" 911,sF 912,iZ 285,iZ 2,iZ 0,iZ 0,iZ 3,.ref 558,.bool true,iZ 181,.ref 559,.none,.none,.none,.ref 560,iZ 913,iZ 285,sF 914]
noncomputable def AmM:O:=fO "plain_forms" "plain_forms" (tp 69) "formcycle.classes" 876 561
noncomputable def Amn:O:=tO #[sT "_law_script" 921,sT "_law_k" 922]
noncomputable def Akm:O:=cF "_law_cell" "_law_cell" 918 293 2 563 923
noncomputable def AlD:O:=fO "_law_cell" "_law_cell" (tp 71) "law_formcycle_k74_whole_classes" 916 568
noncomputable def AkW:O:=tO #[sT "_law_found" 929]
noncomputable def Aki:O:=cF "_law_whole" "_law_whole" 926 297 1 570 930
noncomputable def Akq:O:=fO "_law_whole" "_law_whole" (tp 72) "law_formcycle_k74_whole_classes" 916 575
noncomputable def Akr:O:=cO #[sT "_law_wholes" 933,sT "_law_wholes" 934,sF 935,iZ 299,iZ 2,iZ 0,iZ 0,iZ 3,.ref 577,.bool true,iZ 181,.ref 578,.none,.none,.none,.ref 579,iZ 936,iZ 299,sF 937]
noncomputable def Amm:O:=fO "_law_wholes" "_law_wholes" (tp 73) "law_formcycle_k74_whole_classes" 916 580
noncomputable def Amk:O:=tO #[sT "_law_form_here" 942]
noncomputable def AkS:O:=cF "_law_bar" "_law_bar" 939 303 1 582 943
noncomputable def Alr:O:=fO "_law_bar" "_law_bar" (tp 74) "law_formcycle_k74_whole_classes" 916 587
noncomputable def Al6:O:=tO #[sT "_law_number" 949,sT "_law_near" 950]
noncomputable def Ama:O:=cF "_law_root" "_law_root" 946 305 1 589 951
noncomputable def Aly:O:=fO "_law_root" "_law_root" (tp 75) "law_formcycle_k74_whole_classes" 916 594
noncomputable def AlA:O:=tO #[sT "_law_form_here" 957,sT "_law_bar_here" 958,sT "_law_far" 959]
noncomputable def Alf:O:=cF "_law_flat" "_law_flat" 954 310 1 596 960
noncomputable def AmC:O:=fO "_law_flat" "_law_flat" (tp 76) "law_formcycle_k74_whole_classes" 916 601
noncomputable def Ame:O:=tO #[sT "_law_one" 966,sT "_law_other" 967]
noncomputable def AkF:O:=cF "_law_rest" "_law_rest" 963 314 2 603 968
noncomputable def Amf:O:=fO "_law_rest" "_law_rest" (tp 77) "law_formcycle_k74_whole_classes" 916 608
noncomputable def AkR:O:=tO #[sT "_law_first" 974,sT "_law_cells" 975,sT "_law_p" 976,sT "_law_q" 977,sT "_law_r" 978,sT "_law_s" 979,sT "_law_cell_here" 980,sT "_law_k" 981]
noncomputable def AmU:O:=cF "_law_turn" "_law_turn" 971 318 2 610 982
noncomputable def Alh:O:=fO "_law_turn" "_law_turn" (tp 78) "law_formcycle_k74_whole_classes" 916 615
noncomputable def Al0:O:=tO #[sT "_law_form_here" 988,sT "_law_x" 989,sT "_law_y" 990,sT "_law_a" 991,sT "_law_b" 992,sT "_law_c" 993]
noncomputable def AkH:O:=cF "_law_value" "_law_value" 985 324 3 617 994
noncomputable def Amv:O:=fO "_law_value" "_law_value" (tp 79) "law_formcycle_k74_whole_classes" 916 622
noncomputable def AlB:O:=tO #[sT "_law_form_here" 1000,sT "_law_turn_here" 1001,sT "_law_p" 1002,sT "_law_q" 1003,sT "_law_r" 1004,sT "_law_s" 1005,sT "_law_left" 1006,sT "_law_right" 1007]
noncomputable def Akn:O:=cF "_law_moved" "_law_moved" 997 327 2 624 1008
noncomputable def Als:O:=fO "_law_moved" "_law_moved" (tp 80) "law_formcycle_k74_whole_classes" 916 629
noncomputable def Akg:O:=tO #[sT "_law_script" 1014,sT "_law_cell_here" 1015,sT "_law_m" 1016,sT "_law_b" 1017,sT "_law_rest_here" 1018,sT "_law_most" 1019,sT "_law_bar_here" 1020,sT "_law_c" 1021]
noncomputable def AlS:O:=cF "_law_form" "_law_form" 1011 332 1 631 1022
noncomputable def AlV:O:=fO "_law_form" "_law_form" (tp 81) "law_formcycle_k74_whole_classes" 916 636
noncomputable def Ak6:O:=tO #[sT "_law_way" 1028,sT "_law_one" 1029,sT "_law_other" 1030]
noncomputable def Ak8:O:=cF "_law_moves" "_law_moves" 1025 349 3 638 1031
noncomputable def Aku:O:=fO "_law_moves" "_law_moves" (tp 82) "law_formcycle_k74_whole_classes" 916 643
noncomputable def AmH:O:=tO #[sT "_law_form_here" 1037]
noncomputable def AlM:O:=cF "_law_opposite" "_law_opposite" 1034 353 1 645 1038
noncomputable def AmT:O:=fO "_law_opposite" "_law_opposite" (tp 83) "law_formcycle_k74_whole_classes" 916 650
noncomputable def Akp:O:=tO #[sT "_law_script" 1044,sT "_law_near" 1045,sT "_law_bar_here" 1046,sT "_law_cells" 1047,sT "_law_far" 1048,sT "_law_row" 1049,sT "_law_least" 1050,sT "_law_one" 1051,sT "_law_two" 1052,sT "_law_beside" 1053,sT "_law_other" 1054,sT "_law_top" 1055,sT "_law_way" 1056,sT "_law_due" 1057,sT "_law_turned" 1058]
noncomputable def Al5:O:=cF "law" "law" 1041 355 1 652 1059
noncomputable def AmR:O:=fO "law" "law" (tp 84) "law_formcycle_k74_whole_classes" 916 657
noncomputable def KK:Params→Frag :=
fun P=>(nat_lit 2,o2)::(nat_lit 3,o3 P)::(nat_lit 15,tE)::(nat_lit 17,o17)::(nat_lit 18,tE)::(nat_lit 20,o20)::(nat_lit 21,o21)::(nat_lit 22,o22)::(nat_lit 29,tE)::(nat_lit 30,o30 P)::(nat_lit 31,o31)::(nat_lit 32,o32)::(nat_lit 35,o35)::(nat_lit 42,tE)::(nat_lit 44,o44)::(nat_lit 45,tE)::(nat_lit 47,o47)::(nat_lit 48,o48)::(nat_lit 49,o49)::(nat_lit 50,o50 P)::(nat_lit 51,o51)::(nat_lit 54,o54)::(nat_lit 61,tE)::(nat_lit 63,o63)::(nat_lit 64,tE)::(nat_lit 66,o66)::(nat_lit 67,o67)::(nat_lit 68,o68)::(nat_lit 69,o69 P)::(nat_lit 70,o70)::(nat_lit 73,o73)::(nat_lit 80,tE)::(nat_lit 82,o82)::(nat_lit 83,tE)::(nat_lit 85,o85)::(nat_lit 86,o86)::(nat_lit 87,o87)::(nat_lit 88,o88 P)::(nat_lit 89,o89)::(nat_lit 92,o92)::(nat_lit 99,tE)::(nat_lit 101,Afs)::(nat_lit 102,tE)::(nat_lit 104,AfE)::(nat_lit 105,AfL)::(nat_lit 106,Agt)::(nat_lit 107,Agh P)::(nat_lit 108,AeZ)::(nat_lit 111,o111)::(nat_lit 118,tE)::(nat_lit 119,AfP P)::(nat_lit 120,AeW)::(nat_lit 123,Afm)::(nat_lit 130,tE)::(nat_lit 132,Af3)::(nat_lit 133,tE)::(nat_lit 135,Afd)::(nat_lit 136,Af0)::(nat_lit 137,AeP)::(nat_lit 138,AfK P)::(nat_lit 139,AeV)::(nat_lit 142,AhV)::(nat_lit 149,tE)::(nat_lit 151,AiW)::(nat_lit 152,tE)::(nat_lit 154,AiF)::(nat_lit 155,AgZ)::(nat_lit 156,Ag1)::(nat_lit 157,Ajx P)::(nat_lit 158,AjY)::(nat_lit 161,tE)::(nat_lit 163,Aj7)::(nat_lit 164,tE)::(nat_lit 166,AiY)::(nat_lit 167,Ajy)::(nat_lit 168,tE)::(nat_lit 170,AhN)::(nat_lit 171,tE)::(nat_lit 173,AhM)::(nat_lit 174,Aji)::(nat_lit 175,tE)::(nat_lit 177,AjC)::(nat_lit 178,tE)::(nat_lit 180,AiL)::(nat_lit 181,AjO)::(nat_lit 182,tE)::(nat_lit 184,Ajb)::(nat_lit 185,tE)::(nat_lit 187,Ahz)::(nat_lit 188,AiJ)::(nat_lit 189,tE)::(nat_lit 191,Akb)::(nat_lit 192,tE)::(nat_lit 194,Ahf)::(nat_lit 195,Ajs)::(nat_lit 196,tE)::(nat_lit 198,AjJ)::(nat_lit 199,tE)::(nat_lit 201,AiV)::(nat_lit 202,Ahd)::(nat_lit 203,tE)::(nat_lit 205,AiD)::(nat_lit 206,tE)::(nat_lit 208,Aj9)::(nat_lit 209,Aiw)::(nat_lit 210,AgD)::(nat_lit 211,tE)::(nat_lit 213,Aip)::(nat_lit 214,tE)::(nat_lit 216,Ag4)::(nat_lit 217,Aij)::(nat_lit 218,tE)::(nat_lit 220,AgN)::(nat_lit 221,tE)::(nat_lit 223,AhS)::(nat_lit 224,AiI)::(nat_lit 225,tE)::(nat_lit 227,Ag7)::(nat_lit 228,tE)::(nat_lit 230,AhX)::(nat_lit 231,AjG)::(nat_lit 232,tE)::(nat_lit 234,AiQ)::(nat_lit 235,tE)::(nat_lit 237,AgO)::(nat_lit 238,Ahs)::(nat_lit 239,tE)::(nat_lit 241,Aiu)::(nat_lit 242,tE)::(nat_lit 244,Ah8)::(nat_lit 245,Ajw)::(nat_lit 246,tE)::(nat_lit 248,AhI)::(nat_lit 249,tE)::(nat_lit 251,Ail)::(nat_lit 252,Ahc)::(nat_lit 253,tE)::(nat_lit 255,AjV)::(nat_lit 256,tE)::(nat_lit 258,Ah9)::(nat_lit 259,AhK)::(nat_lit 260,tE)::(nat_lit 262,AjI)::(nat_lit 263,tE)::(nat_lit 265,Ah1)::(nat_lit 266,Ahp)::(nat_lit 267,tE)::(nat_lit 269,AhW)::(nat_lit 270,tE)::(nat_lit 272,Aiz)::(nat_lit 273,Ahq)::(nat_lit 274,tE)::(nat_lit 276,AhA)::(nat_lit 277,tE)::(nat_lit 279,AiA)::(nat_lit 280,Ajr)::(nat_lit 281,tE)::(nat_lit 283,Ahe)::(nat_lit 284,tE)::(nat_lit 286,Ajq)::(nat_lit 287,Aik)::(nat_lit 288,tE)::(nat_lit 290,AiO)::(nat_lit 291,tE)::(nat_lit 293,Aih)::(nat_lit 294,Ah2)::(nat_lit 295,tE)::(nat_lit 297,AjX)::(nat_lit 298,tE)::(nat_lit 300,o300)::(nat_lit 301,Ah4)::(nat_lit 302,tE)::(nat_lit 304,Ajc)::(nat_lit 305,tE)::(nat_lit 307,Aiq)::(nat_lit 308,Aib)::(nat_lit 309,tE)::(nat_lit 311,Ai0)::(nat_lit 312,tE)::(nat_lit 314,Ajt)::(nat_lit 315,Aim)::(nat_lit 316,tE)::(nat_lit 318,Aiy)::(nat_lit 319,tE)::(nat_lit 321,Ag2)::(nat_lit 322,AiK)::(nat_lit 323,tE)::(nat_lit 325,Aj3)::(nat_lit 326,tE)::(nat_lit 328,Ai2)::(nat_lit 329,Aj4)::(nat_lit 330,tE)::(nat_lit 332,Ai6)::(nat_lit 333,tE)::(nat_lit 335,Aia)::(nat_lit 336,AgT)::(nat_lit 337,tE)::(nat_lit 339,Ai9)::(nat_lit 340,tE)::(nat_lit 342,Ahr)::(nat_lit 343,Ahm)::(nat_lit 344,tE)::(nat_lit 346,Ajm)::(nat_lit 347,tE)::(nat_lit 349,Aig)::(nat_lit 350,Ag6)::(nat_lit 351,tE)::(nat_lit 353,AgM)::(nat_lit 354,tE)::(nat_lit 356,AjD)::(nat_lit 357,AiU)::(nat_lit 358,tE)::(nat_lit 361,Ajf)::(nat_lit 362,AhU)::(nat_lit 363,tE)::(nat_lit 365,Ahj)::(nat_lit 366,tE)::(nat_lit 368,Ajv)::(nat_lit 369,Aju)::(nat_lit 377,tE)::(nat_lit 379,Ahl)::(nat_lit 380,tE)::(nat_lit 382,Aj1)::(nat_lit 383,AhP)::(nat_lit 384,tE)::(nat_lit 386,Ahy)::(nat_lit 387,tE)::(nat_lit 389,AgU)::(nat_lit 390,Ahb)::(nat_lit 391,tE)::(nat_lit 393,Ai7)::(nat_lit 394,tE)::(nat_lit 396,AiZ)::(nat_lit 397,Ain)::(nat_lit 398,tE)::(nat_lit 400,o400)::(nat_lit 401,tE)::(nat_lit 403,AgL)::(nat_lit 404,Ag5)::(nat_lit 405,AgS)::(nat_lit 406,Ag9 P)::(nat_lit 407,Alz)::(nat_lit 408,AgP)::(nat_lit 409,Ajp)::(nat_lit 412,Al1)::(nat_lit 419,tE)::(nat_lit 421,AmK)::(nat_lit 422,tE)::(nat_lit 424,AlX)::(nat_lit 425,AmQ)::(nat_lit 426,tE)::(nat_lit 427,Al3 P)::(nat_lit 428,Akl)::(nat_lit 431,AmA)::(nat_lit 438,tE)::(nat_lit 440,Amu)::(nat_lit 441,tE)::(nat_lit 443,Al7)::(nat_lit 444,o444)::(nat_lit 445,tE)::(nat_lit 446,Alb P)::(nat_lit 447,Amp)::(nat_lit 450,tE)::(nat_lit 452,Ami)::(nat_lit 453,tE)::(nat_lit 455,AmO)::(nat_lit 456,AmB)::(nat_lit 457,tE)::(nat_lit 459,Amx)::(nat_lit 460,tE)::(nat_lit 462,Alm)::(nat_lit 463,AmF)::(nat_lit 464,tE)::(nat_lit 466,AkP)::(nat_lit 467,tE)::(nat_lit 469,Amt)::(nat_lit 470,AlW)::(nat_lit 471,tE)::(nat_lit 473,AmS)::(nat_lit 474,tE)::(nat_lit 476,Ali)::(nat_lit 477,AmJ)::(nat_lit 478,tE)::(nat_lit 480,Ak5)::(nat_lit 481,tE)::(nat_lit 483,Al2)::(nat_lit 484,Amq)::(nat_lit 485,tE)::(nat_lit 487,AkY)::(nat_lit 488,tE)::(nat_lit 490,Ak9)::(nat_lit 491,Amr)::(nat_lit 492,tE)::(nat_lit 494,Ako)::(nat_lit 495,tE)::(nat_lit 497,Ala)::(nat_lit 498,Alq)::(nat_lit 499,tE)::(nat_lit 501,AkB)::(nat_lit 502,tE)::(nat_lit 504,AlZ)::(nat_lit 505,Alj)::(nat_lit 506,tE)::(nat_lit 508,AlH)::(nat_lit 509,tE)::(nat_lit 511,Akj)::(nat_lit 512,Akt)::(nat_lit 513,tE)::(nat_lit 515,Alu)::(nat_lit 516,tE)::(nat_lit 518,AlT)::(nat_lit 519,Akv)::(nat_lit 520,tE)::(nat_lit 522,AkJ)::(nat_lit 523,tE)::(nat_lit 525,Amz)::(nat_lit 526,AlE)::(nat_lit 527,tE)::(nat_lit 530,AkN)::(nat_lit 531,AmL)::(nat_lit 532,tE)::(nat_lit 534,Amj)::(nat_lit 535,tE)::(nat_lit 537,AmI)::(nat_lit 538,Aln)::(nat_lit 539,tE)::(nat_lit 541,AmV)::(nat_lit 542,tE)::(nat_lit 544,AkO)::(nat_lit 545,AlF)::(nat_lit 546,tE)::(nat_lit 549,Al9)::(nat_lit 550,AkM)::(nat_lit 551,tE)::(nat_lit 553,AlN)::(nat_lit 554,tE)::(nat_lit 556,Amd)::(nat_lit 557,Amb)::(nat_lit 558,tE)::(nat_lit 561,AkX)::(nat_lit 562,AmM)::(nat_lit 563,tE)::(nat_lit 565,Amn)::(nat_lit 566,tE)::(nat_lit 568,Akm)::(nat_lit 569,AlD)::(nat_lit 570,tE)::(nat_lit 572,AkW)::(nat_lit 573,tE)::(nat_lit 575,Aki)::(nat_lit 576,Akq)::(nat_lit 577,tE)::(nat_lit 580,Akr)::(nat_lit 581,Amm)::(nat_lit 582,tE)::(nat_lit 584,Amk)::(nat_lit 585,tE)::(nat_lit 587,AkS)::(nat_lit 588,Alr)::(nat_lit 589,tE)::(nat_lit 591,Al6)::(nat_lit 592,tE)::(nat_lit 594,Ama)::(nat_lit 595,Aly)::(nat_lit 596,tE)::(nat_lit 598,AlA)::(nat_lit 599,tE)::(nat_lit 601,Alf)::(nat_lit 602,AmC)::(nat_lit 603,tE)::(nat_lit 605,Ame)::(nat_lit 606,tE)::(nat_lit 608,AkF)::(nat_lit 609,Amf)::(nat_lit 610,tE)::(nat_lit 612,AkR)::(nat_lit 613,tE)::(nat_lit 615,AmU)::(nat_lit 616,Alh)::(nat_lit 617,tE)::(nat_lit 619,Al0)::(nat_lit 620,tE)::(nat_lit 622,AkH)::(nat_lit 623,Amv)::(nat_lit 624,tE)::(nat_lit 626,AlB)::(nat_lit 627,tE)::(nat_lit 629,Akn)::(nat_lit 630,Als)::(nat_lit 631,tE)::(nat_lit 633,Akg)::(nat_lit 634,tE)::(nat_lit 636,AlS)::(nat_lit 637,AlV)::(nat_lit 638,tE)::(nat_lit 640,Ak6)::(nat_lit 641,tE)::(nat_lit 643,Ak8)::(nat_lit 644,Aku)::(nat_lit 645,tE)::(nat_lit 647,AmH)::(nat_lit 648,tE)::(nat_lit 650,AlM)::(nat_lit 651,AmT)::(nat_lit 652,tE)::(nat_lit 654,Akp)::(nat_lit 655,tE)::(nat_lit 657,Al5)::(nat_lit 658,AmR)::[]
noncomputable def Bk:O:=nO #[]
noncomputable def ZF:O:=cO #[sT "<module>" 182,sT "<module>" 183,sF 184,iZ 1,iZ 0,iZ 0,iZ 0,iZ 0,.ref 11,.bool false,iZ 181,.ref 12,.none,.none,.none,.none,iZ 185,iZ 1,sF 186]
noncomputable def Abd:O:=rO 13 3 "__main__" 164
noncomputable def AlC (P:Params):O:=dO #[dE P "__name__" 165 (sT "formcycle.errors" 194),dE P "__doc__" 166 .none,dE P "__package__" 167 .none,dE P "__loader__" 168 (.builtin "__main__.__loader__#opaque"),dE P "__spec__" 169 .none,dE P "__annotations__" 170 (.ref 6),dE P "__builtins__" 171 (.ref 4),dE P "__file__" 173 (sF 172),dE P "__cached__" 174 .none,dE P "_wall" 193 (.ref 21),dE P "FormError" 213 (.ref 31),dE P "NoTurn" 238 (.ref 51),dE P "NoShape" 263 (.ref 70),dE P "TooGreat" 290 (.ref 89),dE P "NoRoot" 315 (.ref 108),dE P "Apart" 331 (.ref 120),dE P "NotPlain" 356 (.ref 139)] 17
noncomputable def Aid:O:=nO #[iZ 1,iZ 0,.ref 20,iZ 5,iZ 0,.ref 27,iZ 7,iZ 0,.ref 40,iZ 11,iZ 0,.ref 59,iZ 15,iZ 0,.ref 78,iZ 20,iZ 0,.ref 97,iZ 24,iZ 0,.ref 116,iZ 26,iZ 0,.ref 128]
noncomputable def Ad8:O:=.mk .none none (Data.func (FuncData.mk (.ofString "_wall") (.ofString "_wall") (fA (tp 0)) (.stmts (fB (tp 0))) (fS (tp 0)) 0 [] .none .none .none .none none .none .none 0)) #[]
noncomputable def Gz:O:=bO #[.builtin "type.__prepare__",.type "type"]
noncomputable def AdX (P:Params):O:=dO #[dE P "__module__" 203 (sT "formcycle.errors" 194),dE P "__qualname__" 205 (sT "FormError" 204),dE P "__firstlineno__" 207 (.int 5 206),dE P "__static_attributes__" 208 (.ref 29)] 4
noncomputable def AeJ:O:=cO #[sT "FormError" 198,sT "FormError" 199,sF 200,iZ 5,iZ 0,iZ 0,iZ 0,iZ 0,.ref 25,.bool false,iZ 181,.ref 26,.none,.none,.none,.none,iZ 201,iZ 5,sF 202]
noncomputable def Aed:O:=rO 27 24 "formcycle.errors" 194
noncomputable def AjM:O:=.mk (.type "type") none (Data.cls (ClassData.mk (.ofString "FormError") [.type "ValueError"] [.ref 31,.type "ValueError",.type "Exception",.type "BaseException",.type "object"] 30 (.ofString "FormError") Bool.true [] [.ref 51,.ref 70,.ref 89,.ref 108,.ref 120,.ref 139] Bool.false none Bool.false)) #[some (.ref 22),none,some (sT "FormError" 196),some (sT "FormError" 204),some (.builtin "ValueError.__new__"),some (.bool true)]
noncomputable def Aew:O:=sO 31
noncomputable def Aev:O:=bO #[.builtin "object.__init_subclass__",.ref 31]
noncomputable def AeI (P:Params):O:=dO #[dE P "__module__" 221 (sT "formcycle.errors" 194),dE P "__qualname__" 223 (sT "NoTurn" 222),dE P "__firstlineno__" 225 (.int 7 224),dE P "__init__" 233 (.ref 48),dE P "__static_attributes__" 235 (.ref 49)] 5
noncomputable def AdT:O:=nO #[iZ 9,iZ 4,.ref 47]
noncomputable def AeH:O:=cO #[sT "NoTurn" 216,sT "NoTurn" 217,sF 218,iZ 7,iZ 0,iZ 0,iZ 0,iZ 0,.ref 38,.bool false,iZ 181,.ref 39,.none,.none,.none,.none,iZ 219,iZ 7,sF 220]
noncomputable def AdN:O:=rO 40 37 "formcycle.errors" 194
noncomputable def AeK:O:=.mk .none none (Data.func (FuncData.mk (.ofString "__init__") (.ofString "NoTurn.__init__") (fA (inC (tp 3) 0)) (.stmts (fB (inC (tp 3) 0))) (fS (inC (tp 3) 0)) 0 [] .none .none .none .none none .none .none 0)) #[]
noncomputable def Aes:O:=sO 51
noncomputable def Aeb:O:=bO #[.builtin "object.__init_subclass__",.ref 51]
noncomputable def AdL (P:Params):O:=dO #[dE P "__module__" 246 (sT "formcycle.errors" 194),dE P "__qualname__" 248 (sT "NoShape" 247),dE P "__firstlineno__" 250 (.int 11 249),dE P "__init__" 258 (.ref 67),dE P "__static_attributes__" 260 (.ref 68)] 5
noncomputable def Aex:O:=nO #[iZ 13,iZ 4,.ref 66]
noncomputable def Aez:O:=cO #[sT "NoShape" 241,sT "NoShape" 242,sF 243,iZ 11,iZ 0,iZ 0,iZ 0,iZ 0,.ref 57,.bool false,iZ 181,.ref 58,.none,.none,.none,.none,iZ 244,iZ 11,sF 245]
noncomputable def Aep:O:=rO 59 56 "formcycle.errors" 194
noncomputable def Aej:O:=.mk .none none (Data.func (FuncData.mk (.ofString "__init__") (.ofString "NoShape.__init__") (fA (inC (tp 4) 0)) (.stmts (fB (inC (tp 4) 0))) (fS (inC (tp 4) 0)) 0 [] .none .none .none .none none .none .none 0)) #[]
noncomputable def AeG:O:=sO 70
noncomputable def Aeh:O:=bO #[.builtin "object.__init_subclass__",.ref 70]
noncomputable def Ad1 (P:Params):O:=dO #[dE P "__module__" 271 (sT "formcycle.errors" 194),dE P "__qualname__" 273 (sT "TooGreat" 272),dE P "__firstlineno__" 275 (.int 15 274),dE P "__init__" 284 (.ref 86),dE P "__static_attributes__" 287 (.ref 87)] 5
noncomputable def Ad5:O:=nO #[iZ 17,iZ 4,.ref 85]
noncomputable def AdU:O:=cO #[sT "TooGreat" 266,sT "TooGreat" 267,sF 268,iZ 15,iZ 0,iZ 0,iZ 0,iZ 0,.ref 76,.bool false,iZ 181,.ref 77,.none,.none,.none,.none,iZ 269,iZ 15,sF 270]
noncomputable def AdV:O:=rO 78 75 "formcycle.errors" 194
noncomputable def Aeq:O:=.mk .none none (Data.func (FuncData.mk (.ofString "__init__") (.ofString "TooGreat.__init__") (fA (inC (tp 5) 0)) (.stmts (fB (inC (tp 5) 0))) (fS (inC (tp 5) 0)) 0 [] .none .none .none .none none .none .none 0)) #[]
noncomputable def Ael:O:=sO 89
noncomputable def AeD:O:=bO #[.builtin "object.__init_subclass__",.ref 89]
noncomputable def Aet (P:Params):O:=dO #[dE P "__module__" 298 (sT "formcycle.errors" 194),dE P "__qualname__" 300 (sT "NoRoot" 299),dE P "__firstlineno__" 302 (.int 20 301),dE P "__init__" 310 (.ref 105),dE P "__static_attributes__" 312 (.ref 106)] 5
noncomputable def Aee:O:=nO #[iZ 22,iZ 4,.ref 104]
noncomputable def AdW:O:=cO #[sT "NoRoot" 293,sT "NoRoot" 294,sF 295,iZ 20,iZ 0,iZ 0,iZ 0,iZ 0,.ref 95,.bool false,iZ 181,.ref 96,.none,.none,.none,.none,iZ 296,iZ 20,sF 297]
noncomputable def AeB:O:=rO 97 94 "formcycle.errors" 194
noncomputable def Abi:O:=.mk .none none (Data.func (FuncData.mk (.ofString "__init__") (.ofString "NoRoot.__init__") (fA (inC (tp 6) 0)) (.stmts (fB (inC (tp 6) 0))) (fS (inC (tp 6) 0)) 0 [] .none .none .none .none none .none .none 0)) #[]
noncomputable def AaJ:O:=sO 108
noncomputable def Abf:O:=bO #[.builtin "object.__init_subclass__",.ref 108]
noncomputable def Aao (P:Params):O:=dO #[dE P "__module__" 323 (sT "formcycle.errors" 194),dE P "__qualname__" 325 (sT "Apart" 324),dE P "__firstlineno__" 327 (.int 24 326),dE P "__static_attributes__" 328 (.ref 118)] 4
noncomputable def Abe:O:=cO #[sT "Apart" 318,sT "Apart" 319,sF 320,iZ 24,iZ 0,iZ 0,iZ 0,iZ 0,.ref 114,.bool false,iZ 181,.ref 115,.none,.none,.none,.none,iZ 321,iZ 24,sF 322]
noncomputable def Zw:O:=rO 116 113 "formcycle.errors" 194
noncomputable def Zk:O:=sO 120
noncomputable def Abx:O:=bO #[.builtin "object.__init_subclass__",.ref 120]
noncomputable def Aa5 (P:Params):O:=dO #[dE P "__module__" 339 (sT "formcycle.errors" 194),dE P "__qualname__" 341 (sT "NotPlain" 340),dE P "__firstlineno__" 343 (.int 26 342),dE P "__init__" 351 (.ref 136),dE P "__static_attributes__" 353 (.ref 137)] 5
noncomputable def Zi:O:=nO #[iZ 28,iZ 4,.ref 135]
noncomputable def ZK:O:=cO #[sT "NotPlain" 334,sT "NotPlain" 335,sF 336,iZ 26,iZ 0,iZ 0,iZ 0,iZ 0,.ref 126,.bool false,iZ 181,.ref 127,.none,.none,.none,.none,iZ 337,iZ 26,sF 338]
noncomputable def Zq:O:=rO 128 125 "formcycle.errors" 194
noncomputable def AaY:O:=.mk .none none (Data.func (FuncData.mk (.ofString "__init__") (.ofString "NotPlain.__init__") (fA (inC (tp 8) 0)) (.stmts (fB (inC (tp 8) 0))) (fS (inC (tp 8) 0)) 0 [] .none .none .none .none none .none .none 0)) #[]
noncomputable def AaV:O:=sO 139
noncomputable def AaD:O:=bO #[.builtin "object.__init_subclass__",.ref 139]
noncomputable def AiS (P:Params):O:=dO #[dE P "__name__" 165 (sT "formcycle.shapes" 653),dE P "__doc__" 166 .none,dE P "__package__" 167 .none,dE P "__loader__" 168 (.builtin "__main__.__loader__#opaque"),dE P "__spec__" 169 .none,dE P "__annotations__" 170 (.ref 6),dE P "__builtins__" 171 (.ref 4),dE P "__file__" 173 (sF 172),dE P "__cached__" 174 .none,dE P "_wall" 193 (.ref 21),dE P "FormError" 213 (.ref 31),dE P "NoTurn" 238 (.ref 51),dE P "NoShape" 263 (.ref 70),dE P "TooGreat" 290 (.ref 89),dE P "NoRoot" 315 (.ref 108),dE P "Apart" 331 (.ref 120),dE P "NotPlain" 356 (.ref 139),dE P "NoMeasure" 381 (.ref 158),dE P "divisor" 392 (.ref 167),dE P "shares" 403 (.ref 174),dE P "row_less" 412 (.ref 181),dE P "root" 421 (.ref 188),dE P "is_square" 429 (.ref 195),dE P "check_at_most" 437 (.ref 202),dE P "check_within" 445 (.ref 209),dE P "SAME" 452 (.ref 210),dE P "is_turn" 459 (.ref 217),dE P "check_turn" 466 (.ref 224),dE P "led" 474 (.ref 231),dE P "put_behind" 482 (.ref 238),dE P "back" 489 (.ref 245),dE P "measure" 498 (.ref 252),dE P "value" 508 (.ref 259),dE P "content" 515 (.ref 266),dE P "moved" 525 (.ref 273),dE P "middle" 535 (.ref 280),dE P "shape" 543 (.ref 287),dE P "check_bowl" 552 (.ref 294),dE P "stands_least" 562 (.ref 301),dE P "settled" 571 (.ref 308),dE P "turn_lower" 579 (.ref 315),dE P "MOST_MEASURE" 583 (.int 4000 582),dE P "check_saddle" 590 (.ref 322),dE P "stands_level" 599 (.ref 329),dE P "turn_behind" 610 (.ref 336),dE P "stop_behind" 619 (.ref 343),dE P "eased" 628 (.ref 350),dE P "stops_round" 639 (.ref 357),dE P "round_of" 645 (.ref 362),dE P "lowered" 652 (.ref 369),dE P "Shape" 709 (.ref 407)] 51
noncomputable def AeU:O:=nO #[iZ 1,iZ 0,.ref 20,iZ 5,iZ 0,.ref 27,iZ 7,iZ 0,.ref 40,iZ 11,iZ 0,.ref 59,iZ 15,iZ 0,.ref 78,iZ 20,iZ 0,.ref 97,iZ 24,iZ 0,.ref 116,iZ 26,iZ 0,.ref 128,iZ 30,iZ 0,.ref 147,iZ 35,iZ 0,.ref 166,iZ 41,iZ 0,.ref 173,iZ 51,iZ 0,.ref 180,iZ 53,iZ 0,.ref 187,iZ 64,iZ 0,.ref 194,iZ 69,iZ 0,.ref 201,iZ 72,iZ 0,.ref 208,iZ 77,iZ 0,.ref 216,iZ 79,iZ 0,.ref 223,iZ 82,iZ 0,.ref 230,iZ 85,iZ 0,.ref 237,iZ 87,iZ 0,.ref 244,iZ 91,iZ 0,.ref 251,iZ 93,iZ 0,.ref 258,iZ 97,iZ 0,.ref 265,iZ 99,iZ 0,.ref 272,iZ 104,iZ 0,.ref 279,iZ 107,iZ 0,.ref 286,iZ 117,iZ 0,.ref 293,iZ 120,iZ 0,.ref 300,iZ 127,iZ 0,.ref 307,iZ 135,iZ 0,.ref 314,iZ 142,iZ 0,.ref 321,iZ 146,iZ 0,.ref 328,iZ 149,iZ 0,.ref 335,iZ 154,iZ 0,.ref 342,iZ 157,iZ 0,.ref 349,iZ 164,iZ 0,.ref 356,iZ 174,iZ 0,.ref 361,iZ 179,iZ 0,.ref 368,iZ 183,iZ 0,.ref 375]
noncomputable def Adg (P:Params):O:=dO #[dE P "__module__" 364 (sT "formcycle.errors" 194),dE P "__qualname__" 366 (sT "NoMeasure" 365),dE P "__firstlineno__" 368 (.int 30 367),dE P "__init__" 376 (.ref 155),dE P "__static_attributes__" 378 (.ref 156)] 5
noncomputable def AcD:O:=nO #[iZ 32,iZ 4,.ref 154]
noncomputable def Ab4:O:=cO #[sT "NoMeasure" 359,sT "NoMeasure" 360,sF 361,iZ 30,iZ 0,iZ 0,iZ 0,iZ 0,.ref 145,.bool false,iZ 181,.ref 146,.none,.none,.none,.none,iZ 362,iZ 30,sF 363]
noncomputable def AbU:O:=rO 147 144 "formcycle.errors" 194
noncomputable def Acv:O:=.mk .none none (Data.func (FuncData.mk (.ofString "__init__") (.ofString "NoMeasure.__init__") (fA (inC (tp 9) 0)) (.stmts (fB (inC (tp 9) 0))) (fS (inC (tp 9) 0)) 0 [] .none .none .none .none none .none .none 0)) #[]
noncomputable def AbV:O:=sO 158
noncomputable def Acz:O:=bO #[.builtin "object.__init_subclass__",.ref 158]
noncomputable def AcN:O:=.mk .none none (Data.func (FuncData.mk (.ofString "divisor") (.ofString "divisor") (fA (tp 11)) (.stmts (fB (tp 11))) (fS (tp 11)) 0 [] .none .none .none .none none .none .none 0)) #[]
noncomputable def Acs:O:=.mk .none none (Data.func (FuncData.mk (.ofString "shares") (.ofString "shares") (fA (tp 12)) (.stmts (fB (tp 12))) (fS (tp 12)) 0 [] .none .none .none .none none .none .none 0)) #[]
noncomputable def AcA:O:=.mk .none none (Data.func (FuncData.mk (.ofString "row_less") (.ofString "row_less") (fA (tp 13)) (.stmts (fB (tp 13))) (fS (tp 13)) 0 [] .none .none .none .none none .none .none 0)) #[]
noncomputable def AbX:O:=.mk .none none (Data.func (FuncData.mk (.ofString "root") (.ofString "root") (fA (tp 14)) (.stmts (fB (tp 14))) (fS (tp 14)) 0 [] .none .none .none .none none .none .none 0)) #[]
noncomputable def AbM:O:=.mk .none none (Data.func (FuncData.mk (.ofString "is_square") (.ofString "is_square") (fA (tp 15)) (.stmts (fB (tp 15))) (fS (tp 15)) 0 [] .none .none .none .none none .none .none 0)) #[]
noncomputable def Ac5:O:=.mk .none none (Data.func (FuncData.mk (.ofString "check_at_most") (.ofString "check_at_most") (fA (tp 16)) (.stmts (fB (tp 16))) (fS (tp 16)) 0 [] .none .none .none .none none .none .none 0)) #[]
noncomputable def Adr:O:=.mk .none none (Data.func (FuncData.mk (.ofString "check_within") (.ofString "check_within") (fA (tp 17)) (.stmts (fB (tp 17))) (fS (tp 17)) 0 [] .none .none .none .none none .none .none 0)) #[]
noncomputable def Ack:O:=.mk .none none (Data.func (FuncData.mk (.ofString "is_turn") (.ofString "is_turn") (fA (tp 20)) (.stmts (fB (tp 20))) (fS (tp 20)) 0 [] .none .none .none .none none .none .none 0)) #[]
noncomputable def Ac9:O:=.mk .none none (Data.func (FuncData.mk (.ofString "check_turn") (.ofString "check_turn") (fA (tp 21)) (.stmts (fB (tp 21))) (fS (tp 21)) 0 [] .none .none .none .none none .none .none 0)) #[]
noncomputable def AbG:O:=.mk .none none (Data.func (FuncData.mk (.ofString "led") (.ofString "led") (fA (tp 22)) (.stmts (fB (tp 22))) (fS (tp 22)) 0 [] .none .none .none .none none .none .none 0)) #[]
noncomputable def Ac0:O:=.mk .none none (Data.func (FuncData.mk (.ofString "put_behind") (.ofString "put_behind") (fA (tp 23)) (.stmts (fB (tp 23))) (fS (tp 23)) 0 [] .none .none .none .none none .none .none 0)) #[]
noncomputable def AbO:O:=.mk .none none (Data.func (FuncData.mk (.ofString "back") (.ofString "back") (fA (tp 24)) (.stmts (fB (tp 24))) (fS (tp 24)) 0 [] .none .none .none .none none .none .none 0)) #[]
noncomputable def Ady:O:=.mk .none none (Data.func (FuncData.mk (.ofString "measure") (.ofString "measure") (fA (tp 26)) (.stmts (fB (tp 26))) (fS (tp 26)) 0 [] .none .none .none .none none .none .none 0)) #[]
noncomputable def AcK:O:=.mk .none none (Data.func (FuncData.mk (.ofString "value") (.ofString "value") (fA (tp 27)) (.stmts (fB (tp 27))) (fS (tp 27)) 0 [] .none .none .none .none none .none .none 0)) #[]
noncomputable def Ab1:O:=.mk .none none (Data.func (FuncData.mk (.ofString "content") (.ofString "content") (fA (tp 28)) (.stmts (fB (tp 28))) (fS (tp 28)) 0 [] .none .none .none .none none .none .none 0)) #[]
noncomputable def Acg:O:=.mk .none none (Data.func (FuncData.mk (.ofString "moved") (.ofString "moved") (fA (tp 29)) (.stmts (fB (tp 29))) (fS (tp 29)) 0 [] .none .none .none .none none .none .none 0)) #[]
noncomputable def AcI:O:=.mk .none none (Data.func (FuncData.mk (.ofString "middle") (.ofString "middle") (fA (tp 30)) (.stmts (fB (tp 30))) (fS (tp 30)) 0 [] .none .none .none .none none .none .none 0)) #[]
noncomputable def Ac7:O:=.mk .none none (Data.func (FuncData.mk (.ofString "shape") (.ofString "shape") (fA (tp 31)) (.stmts (fB (tp 31))) (fS (tp 31)) 0 [] .none .none .none .none none .none .none 0)) #[]
noncomputable def AcJ:O:=.mk .none none (Data.func (FuncData.mk (.ofString "check_bowl") (.ofString "check_bowl") (fA (tp 33)) (.stmts (fB (tp 33))) (fS (tp 33)) 0 [] .none .none .none .none none .none .none 0)) #[]
noncomputable def Acx:O:=.mk .none none (Data.func (FuncData.mk (.ofString "stands_least") (.ofString "stands_least") (fA (tp 34)) (.stmts (fB (tp 34))) (fS (tp 34)) 0 [] .none .none .none .none none .none .none 0)) #[]
noncomputable def Ab8:O:=.mk .none none (Data.func (FuncData.mk (.ofString "settled") (.ofString "settled") (fA (tp 35)) (.stmts (fB (tp 35))) (fS (tp 35)) 0 [] .none .none .none .none none .none .none 0)) #[]
noncomputable def Ac3:O:=.mk .none none (Data.func (FuncData.mk (.ofString "turn_lower") (.ofString "turn_lower") (fA (tp 36)) (.stmts (fB (tp 36))) (fS (tp 36)) 0 [] .none .none .none .none none .none .none 0)) #[]
noncomputable def Ado:O:=.mk .none none (Data.func (FuncData.mk (.ofString "check_saddle") (.ofString "check_saddle") (fA (tp 39)) (.stmts (fB (tp 39))) (fS (tp 39)) 0 [] .none .none .none .none none .none .none 0)) #[]
noncomputable def Acj:O:=.mk .none none (Data.func (FuncData.mk (.ofString "stands_level") (.ofString "stands_level") (fA (tp 40)) (.stmts (fB (tp 40))) (fS (tp 40)) 0 [] .none .none .none .none none .none .none 0)) #[]
noncomputable def AdD:O:=.mk .none none (Data.func (FuncData.mk (.ofString "turn_behind") (.ofString "turn_behind") (fA (tp 41)) (.stmts (fB (tp 41))) (fS (tp 41)) 0 [] .none .none .none .none none .none .none 0)) #[]
noncomputable def AdB:O:=.mk .none none (Data.func (FuncData.mk (.ofString "stop_behind") (.ofString "stop_behind") (fA (tp 42)) (.stmts (fB (tp 42))) (fS (tp 42)) 0 [] .none .none .none .none none .none .none 0)) #[]
noncomputable def Adh:O:=.mk .none none (Data.func (FuncData.mk (.ofString "eased") (.ofString "eased") (fA (tp 43)) (.stmts (fB (tp 43))) (fS (tp 43)) 0 [] .none .none .none .none none .none .none 0)) #[]
noncomputable def AbK:O:=.mk .none none (Data.func (FuncData.mk (.ofString "stops_round") (.ofString "stops_round") (fA (tp 44)) (.stmts (fB (tp 44))) (fS (tp 44)) 0 [] .none .none .none .none none .none .none 0)) #[]
noncomputable def Acm:O:=.mk .none none (Data.func (FuncData.mk (.ofString "round_of") (.ofString "round_of") (fA (tp 45)) (.stmts (fB (tp 45))) (fS (tp 45)) 0 [] .none .none .none .none none .none .none 0)) #[]
noncomputable def Ac1:O:=.mk .none none (Data.func (FuncData.mk (.ofString "lowered") (.ofString "lowered") (fA (tp 46)) (.stmts (fB (tp 46))) (fS (tp 46)) 0 [] .none .none .none .none none .none .none 0)) #[]
noncomputable def Ab2 (P:Params):O:=dO #[dE P "__module__" 662 (sT "formcycle.shapes" 653),dE P "__qualname__" 664 (sT "Shape" 663),dE P "__firstlineno__" 666 (.int 183 665),dE P "__init__" 675 (.ref 383),dE P "least" 682 (.ref 390),dE P "leaves" 690 (.ref 397),dE P "way_to" 698 (.ref 404),dE P "__static_attributes__" 702 (.ref 405)] 8
noncomputable def AcE:O:=nO #[iZ 185,iZ 4,.ref 382,iZ 190,iZ 4,.ref 389,iZ 193,iZ 4,.ref 396,iZ 196,iZ 4,.ref 403]
noncomputable def Adf:O:=cO #[sT "Shape" 657,sT "Shape" 658,sF 659,iZ 183,iZ 0,iZ 0,iZ 0,iZ 0,.ref 373,.bool false,iZ 181,.ref 374,.none,.none,.none,.none,iZ 660,iZ 183,sF 661]
noncomputable def AbN:O:=rO 375 372 "formcycle.shapes" 653
noncomputable def AcZ:O:=.mk .none none (Data.func (FuncData.mk (.ofString "__init__") (.ofString "Shape.__init__") (fA (inC (tp 48) 0)) (.stmts (fB (inC (tp 48) 0))) (fS (inC (tp 48) 0)) 0 [] .none .none .none .none none .none .none 0)) #[]
noncomputable def Acb:O:=.mk .none none (Data.func (FuncData.mk (.ofString "least") (.ofString "Shape.least") (fA (inC (tp 48) 1)) (.stmts (fB (inC (tp 48) 1))) (fS (inC (tp 48) 1)) 0 [] .none .none .none .none none .none .none 0)) #[]
noncomputable def Ab3:O:=.mk .none none (Data.func (FuncData.mk (.ofString "leaves") (.ofString "Shape.leaves") (fA (inC (tp 48) 2)) (.stmts (fB (inC (tp 48) 2))) (fS (inC (tp 48) 2)) 0 [] .none .none .none .none none .none .none 0)) #[]
noncomputable def AcR:O:=.mk .none none (Data.func (FuncData.mk (.ofString "way_to") (.ofString "Shape.way_to") (fA (inC (tp 48) 3)) (.stmts (fB (inC (tp 48) 3))) (fS (inC (tp 48) 3)) 0 [] .none .none .none .none none .none .none 0)) #[]
noncomputable def AbW:O:=.mk (.type "type") none (Data.cls (ClassData.mk (.ofString "Shape") [.type "object"] [.ref 407,.type "object"] 406 (.ofString "Shape") Bool.true [] [] Bool.false none Bool.false)) #[none,none,some (sT "Shape" 655),some (sT "Shape" 663),some (.builtin "object.__new__"),some (.bool true)]
noncomputable def Ab0:O:=sO 407
noncomputable def Adm:O:=bO #[.builtin "object.__init_subclass__",.ref 407]
noncomputable def tr0 (P:Params):BT:=Nd (boot_o_0 P) (Nd (boot_o_1 P) (Nd (boot_o_3 P) (Lf (boot_o_7 P)) (Lf tE)) (Nd (boot_o_5 P) (Lf (boot_o_9 P)) (Lf ZF))) (Nd (boot_o_2 P) (Nd (boot_o_4 P) (Lf (boot_o_8 P)) (Lf Bk)) (Nd (boot_o_6 P) (Lf (boot_o_10 P)) (Lf Abd)))
noncomputable def St0 (w:World) (os:OsState):SharedT:=⟨tr0 w.params,15,Life.mk [] [] [] 0 [] [] Bool.false #[] [] 0 Bool.false Bool.false Bool.false 0 [2000,10,10] Bool.false 0 Bool.true [] [] 0 Bool.false,Array.mk [],Drawn.mk 0 0 0 0,187,os⟩
noncomputable def ps0:Pos:=⟨0,0,0,0⟩
noncomputable def tr9 (P:Params):BT:=Nd (boot_o_0 P) (Nd (boot_o_1 P) (Nd (AlC P) (Nd (boot_o_7 P) (Nd tE (Nd AjM (Nd o63 (Lf Zi) .nil) (Lf tE)) (Nd o47 (Lf AdV) (Lf o111))) (Nd Gz (Nd AdT (Nd AeG (Lf Afd) .nil) (Lf Abi)) (Nd Gz (Lf o87) (Lf (AfP P))))) (Nd tE (Nd Ad8 (Nd o35 (Nd o67 (Lf Bk) .nil) (Lf tE)) (Nd o51 (Lf tE) (Lf Bk))) (Nd AeJ (Nd Bk (Nd (Ad1 P) (Lf AeV) .nil) (Lf (Agh P))) (Nd Aez (Lf AeD) (Lf Afm))))) (Nd (boot_o_5 P) (Nd (boot_o_9 P) (Nd o17 (Nd Aew (Nd Aej (Lf Zq) .nil) (Lf AdW)) (Nd o49 (Lf Bk) (Lf (Aao P)))) (Nd tE (Nd AdN (Nd o73 (Lf AeP) .nil) (Lf AfL)) (Nd tE (Lf o89) (Lf Zk)))) (Nd ZF (Nd o21 (Nd (AeI P) (Nd (o69 P) (Lf tE) .nil) (Lf Afs)) (Nd Aeb (Lf o85) (Lf Zw))) (Nd tE (Nd tE (Nd Ad5 (Lf AaD) .nil) (Lf AaJ)) (Nd tE (Lf Gz) (Lf (Aa5 P))))))) (Nd (boot_o_2 P) (Nd (boot_o_4 P) (Nd (boot_o_8 P) (Nd Bk (Nd o32 (Nd tE (Lf ZK) .nil) (Lf Aee)) (Nd o48 (Lf tE) (Lf Gz))) (Nd (AdX P) (Nd AeH (Nd Aeh (Lf Af0) .nil) (Lf AfE)) (Nd (AdL P) (Lf (o88 P)) (Lf AeW)))) (Nd Aid (Nd o20 (Nd Gz (Nd o68 (Lf Af3) .nil) (Lf Bk)) (Nd Aes (Lf Aeq) (Lf Abe))) (Nd Aed (Nd o44 (Nd tE (Lf AaV) .nil) (Lf AeZ)) (Nd Aep (Lf o92) (Lf Gz))))) (Nd (boot_o_6 P) (Nd (boot_o_10 P) (Nd tE (Nd Aev (Nd o66 (Lf tE) .nil) (Lf AeB)) (Nd (o50 P) (Lf o82) (Lf tE))) (Nd Bk (Nd tE (Nd Gz (Lf (AfK P)) .nil) (Lf Agt)) (Nd Aex (Lf Ael) (Lf Abx)))) (Nd Abd (Nd o22 (Nd tE (Nd o70 (Lf AaY) .nil) (Lf tE)) (Nd o54 (Lf o86) (Lf tE))) (Nd (o30 P) (Nd AeK (Lf AdU) (Lf Abf)) (Nd Bk (Lf (Aet P)) (Lf tE))))))
noncomputable def St9 (w:World) (os:OsState):SharedT:=⟨tr9 w.params,142,Life.mk [] [] [] 0 [] [] Bool.false #[] [] 0 Bool.false Bool.false Bool.false 0 [2000,10,10] Bool.false 0 Bool.true [] [] 0 Bool.false,Array.mk [],Drawn.mk 0 0 0 0,357,os⟩
noncomputable def ps9:Pos:=⟨26,0,29,24⟩
noncomputable def Amc (P:Params):BT:=Nd (boot_o_0 P) (Nd (boot_o_1 P) (Nd (AiS P) (Nd (boot_o_7 P) (Nd tE (Nd o31 (Nd o63 (Nd Zi (Lf AjV) (Lf AhP)) (Nd Akb (Lf tE) .nil)) (Nd tE (Nd AbV (Lf Aik) .nil) (Nd AhS (Lf tE) .nil))) (Nd o47 (Nd AdV (Nd Gz (Lf Acg) (Lf Bk)) (Nd Adr (Lf Aia) .nil)) (Nd o111 (Nd tE (Lf Bk) .nil) (Nd tE (Lf Ac1) .nil)))) (Nd Gz (Nd AdT (Nd AeG (Nd Afd (Lf tE) (Lf tE)) (Nd tE (Lf Acj) .nil)) (Nd Abi (Nd Ajy (Lf tE) .nil) (Nd AjG (Lf Bk) .nil))) (Nd Gz (Nd o87 (Nd AiW (Lf AiA) (Lf AbW)) (Nd Ack (Lf Ahm) .nil)) (Nd (AfP P) (Nd Bk (Lf Ai0) .nil) (Nd Bk (Lf Adf) .nil))))) (Nd tE (Nd Ad8 (Nd o35 (Nd o67 (Nd Bk (Lf AhK) (Lf tE)) (Nd Ajs (Lf tE) .nil)) (Nd tE (Nd Aj7 (Lf tE) .nil) (Nd Ag7 (Lf AbK) .nil))) (Nd o51 (Nd tE (Nd Ab4 (Lf Bk) (Lf AgL)) (Nd tE (Lf Ai9) .nil)) (Nd Bk (Nd AcA (Lf Aiq) .nil) (Nd AbO (Lf Gz) .nil)))) (Nd AeJ (Nd Bk (Nd (Ad1 P) (Nd AeV (Lf tE) (Lf Ab3)) (Nd tE (Lf Bk) .nil)) (Nd (Agh P) (Nd tE (Lf Acx) .nil) (Nd tE (Lf tE) .nil))) (Nd Aez (Nd AeD (Nd AgZ (Lf Ahe) (Lf Adm)) (Nd Bk (Lf tE) .nil)) (Nd Afm (Nd Ahz (Lf Aim) .nil) (Nd Ail (Lf Ahl) .nil)))))) (Nd (boot_o_5 P) (Nd (boot_o_9 P) (Nd o17 (Nd Aew (Nd Aej (Nd Zq (Lf AcK) (Lf Bk)) (Nd AbM (Lf Ag2) .nil)) (Nd AdW (Nd tE (Lf Bk) .nil) (Nd tE (Lf AgM) .nil))) (Nd o49 (Nd Bk (Nd tE (Lf Ahq) (Lf tE)) (Nd Aiw (Lf tE) .nil)) (Nd (Aao P) (Nd AjC (Lf tE) .nil) (Nd Aiu (Lf Aju) .nil)))) (Nd tE (Nd AdN (Nd o73 (Nd AeP (Lf Ah1) (Lf Ai7)) (Nd AiV (Lf Aj4) .nil)) (Nd AfL (Nd Bk (Lf AjX) .nil) (Nd Bk (Lf Ajf) .nil))) (Nd tE (Nd o89 (Nd Acv (Lf tE) (Lf Ajp)) (Nd Aij (Lf Bk) .nil)) (Nd Zk (Nd tE (Lf Ac3) .nil) (Nd tE (Lf tE) .nil))))) (Nd ZF (Nd o21 (Nd (AeI P) (Nd (o69 P) (Nd tE (Lf Bk) (Lf AgU)) (Nd Bk (Lf Aj3) .nil)) (Nd Afs (Nd AcN (Lf Aih) .nil) (Nd AbG (Lf AiU) .nil))) (Nd Aeb (Nd o85 (Nd tE (Lf tE) (Lf AgS)) (Nd Aip (Lf AdB) .nil)) (Nd Zw (Nd AjO (Lf tE) .nil) (Nd Ajw (Lf tE) .nil)))) (Nd tE (Nd tE (Nd Ad5 (Nd AaD (Lf AhW) (Lf Ain)) (Nd AiD (Lf tE) .nil)) (Nd AaJ (Nd AhM (Lf Ah4) .nil) (Nd AgO (Lf Ahj) .nil))) (Nd tE (Nd Gz (Nd (Ajx P) (Lf Ac7) .nil) (Nd tE (Lf Aig) .nil)) (Nd (Aa5 P) (Nd tE (Lf Bk) .nil) (Nd tE (Lf AcZ) .nil))))))) (Nd (boot_o_2 P) (Nd (boot_o_4 P) (Nd (boot_o_8 P) (Nd Bk (Nd o32 (Nd tE (Nd ZK (Lf tE) (Lf tE)) (Nd tE (Lf Ado) .nil)) (Nd Aee (Nd Acz (Lf tE) .nil) (Nd AiI (Lf Bk) .nil))) (Nd o48 (Nd tE (Nd (Adg P) (Lf Aiz) (Lf o400)) (Nd Aj9 (Lf AgT) .nil)) (Nd Gz (Nd Bk (Lf Ajc) .nil) (Nd Bk (Lf Ajv) .nil)))) (Nd (AdX P) (Nd AeH (Nd Aeh (Nd Af0 (Lf Ab1) (Lf Bk)) (Nd Ac5 (Lf Ai2) .nil)) (Nd AfE (Nd tE (Lf Bk) .nil) (Nd tE (Lf Acm) .nil))) (Nd (AdL P) (Nd (o88 P) (Nd tE (Lf Ajr) (Lf AgP)) (Nd Ag4 (Lf tE) .nil)) (Nd AeW (Nd Ajb (Lf tE) .nil) (Nd AhI (Lf AbN) .nil))))) (Nd AeU (Nd o20 (Nd Gz (Nd o68 (Nd Af3 (Lf tE) (Lf Acb)) (Nd tE (Lf Bk) .nil)) (Nd Bk (Nd tE (Lf AcJ) .nil) (Nd tE (Lf AjD) .nil))) (Nd Aes (Nd Aeq (Nd AbU (Lf AhA) (Lf Ag5)) (Nd Bk (Lf tE) .nil)) (Nd Abe (Nd AiL (Lf Aib) .nil) (Nd Ah8 (Lf (Ab2 P)) .nil)))) (Nd Aed (Nd o44 (Nd tE (Nd AaV (Lf Bk) (Lf AiZ)) (Nd Bk (Lf Ai6) .nil)) (Nd AeZ (Nd Acs (Lf o300) .nil) (Nd Ac0 (Lf Bk) .nil))) (Nd Aep (Nd o92 (Nd Ag1 (Lf tE) .nil) (Nd AgN (Lf Adh) .nil)) (Nd Gz (Nd AiJ (Lf tE) .nil) (Nd Ahc (Lf tE) .nil)))))) (Nd (boot_o_6 P) (Nd (boot_o_10 P) (Nd tE (Nd Aev (Nd o66 (Nd tE (Lf Ah9) (Lf Ahy)) (Nd Ahf (Lf AiK) .nil)) (Nd AeB (Nd Bk (Lf AiO) .nil) (Nd Bk (Lf tE) .nil))) (Nd (o50 P) (Nd o82 (Nd AcD (Lf tE) (Lf AcR)) (Nd AgD (Lf Bk) .nil)) (Nd tE (Nd tE (Lf Ab8) .nil) (Nd tE (Lf tE) .nil)))) (Nd Bk (Nd tE (Nd Gz (Nd (AfK P) (Lf Ahp) (Lf tE)) (Nd Ahd (Lf tE) .nil)) (Nd Agt (Nd AhN (Lf tE) .nil) (Nd AiQ (Lf AhU) .nil))) (Nd Aex (Nd Ael (Nd AiF (Lf Bk) (Lf Ab0)) (Nd tE (Lf Ajm) .nil)) (Nd Abx (Nd AbX (Lf Ajt) .nil) (Nd Ady (Lf Bk) .nil))))) (Nd Abd (Nd o22 (Nd tE (Nd o70 (Nd AaY (Lf AjI) (Lf Ahb)) (Nd AjJ (Lf tE) .nil)) (Nd tE (Nd AiY (Lf Ah2) .nil) (Nd AhX (Lf tE) .nil))) (Nd o54 (Nd o86 (Nd Bk (Lf AcI) (Lf (Ag9 P))) (Nd tE (Lf Ahr) .nil)) (Nd tE (Nd tE (Lf Bk) .nil) (Nd tE (Lf AcE) .nil)))) (Nd (o30 P) (Nd AeK (Nd AdU (Nd AhV (Lf tE) (Lf tE)) (Nd tE (Lf AdD) .nil)) (Nd Abf (Nd Aji (Lf tE) .nil) (Nd Ahs (Lf tE) .nil))) (Nd Bk (Nd (Aet P) (Nd AjY (Lf Ajq) .nil) (Nd Ac9 (Lf Ag6) .nil)) (Nd tE (Nd Bk (Lf Aiy) .nil) (Nd Bk (Lf Aj1) .nil)))))))
noncomputable def Aho (w:World) (os:OsState):SharedT:=⟨Amc w.params,412,Life.mk [] [] [] 0 [] [] Bool.false #[] [] 0 Bool.false Bool.false Bool.false 0 [2000,10,10] Bool.false 0 Bool.true [] [] 0 Bool.false,Array.mk [],Drawn.mk 0 0 0 0,710,os⟩
noncomputable def AhG:Pos:=⟨183,0,197,16⟩
end
noncomputable def vw:Program:={ PySem.Challenge.pw_formcycle_k74_whole_classes with main:={ PySem.Challenge.pw_formcycle_k74_whole_classes.main with body:=[tp 0,tp 2,tp 3,tp 4,tp 5,tp 6,tp 7,tp 8,tp 9,tp 11,tp 12,tp 13,tp 14,tp 15,tp 16,tp 17,tp 19,tp 20,tp 21,tp 22,tp 23,tp 24,tp 26,tp 27,tp 28,tp 29,tp 30,tp 31,tp 33,tp 34,tp 35,tp 36,tp 38,tp 39,tp 40,tp 41,tp 42,tp 43,tp 44,tp 45,tp 46,tp 48,tp 49,tp 50,tp 51,tp 52,tp 53,tp 54,tp 56,tp 57,tp 58,tp 59,tp 60,tp 61,tp 62,tp 63,tp 65,tp 66,tp 67,tp 68,tp 69,tp 71,tp 72,tp 73,tp 74,tp 75,tp 76,tp 77,tp 78,tp 79,tp 80,tp 81,tp 82,tp 83,tp 84] } }
noncomputable def asK:List Nat:=[2,3,15,17,18,20,21,22,29,30,31,32,35,42,44,45,47,48,49,50,51,54,61,63,64,66,67,68,69,70,73,80,82,83,85,86,87,88,89,92,99,101,102,104,105,106,107,108,111,118,119,120,123,130,132,133,135,136,137,138,139,142,149,151,152,154,155,156,157,158,161,163,164,166,167,168,170,171,173,174,175,177,178,180,181,182,184,185,187,188,189,191,192,194,195,196,198,199,201,202,203,205,206,208,209,210,211,213,214,216,217,218,220,221,223,224,225,227,228,230,231,232,234,235,237,238,239,241,242,244,245,246,248,249,251,252,253,255,256,258,259,260,262,263,265,266,267,269,270,272,273,274,276,277,279,280,281,283,284,286,287,288,290,291,293,294,295,297,298,300,301,302,304,305,307,308,309,311,312,314,315,316,318,319,321,322,323,325,326,328,329,330,332,333,335,336,337,339,340,342,343,344,346,347,349,350,351,353,354,356,357,358,361,362,363,365,366,368,369,377,379,380,382,383,384,386,387,389,390,391,393,394,396,397,398,400,401,403,404,405,406,407,408,409,412,419,421,422,424,425,426,427,428,431,438,440,441,443,444,445,446,447,450,452,453,455,456,457,459,460,462,463,464,466,467,469,470,471,473,474,476,477,478,480,481,483,484,485,487,488,490,491,492,494,495,497,498,499,501,502,504,505,506,508,509,511,512,513,515,516,518,519,520,522,523,525,526,527,530,531,532,534,535,537,538,539,541,542,544,545,546,549,550,551,553,554,556,557,558,561,562,563,565,566,568,569,570,572,573,575,576,577,580,581,582,584,585,587,588,589,591,592,594,595,596,598,599,601,602,603,605,606,608,609,610,612,613,615,616,617,619,620,622,623,624,626,627,629,630,631,633,634,636,637,638,640,641,643,644,645,647,648,650,651,652,654,655,657,658]
noncomputable def bE:List Stmt:=behindTheImports PySem.Challenge.rw_formcycle_k74_whole_classes.row.prog
noncomputable def ev:Env:={ scope:=PySem.Challenge.rw_formcycle_k74_whole_classes.row.prog.main.scope,locals:=mainNs,globals:=mainNs,cells:=[],code:=.ref 13,frame:=some 14 }
noncomputable def cc:Code:=.body bE ev
noncomputable def qq:Pos:=.mk 0 0 0 0
noncomputable def pp:Pos:=⟨0,0,0,0⟩
theorem Aj8:∀ w os,goT treeTable PySem.Challenge.rw_formcycle_k74_whole_classes.row.prog w 11 (some (.ref 6)) 12 (Q6 w os) (topStub PySem.Challenge.rw_formcycle_k74_whole_classes.row.prog)=some (St0 w os,⟨denote treeTable cc,cc,pp,[topFrame qq]⟩):=fun w os=>by kernel_rfl
theorem AhH:∀ w os,segRunT treeTable PySem.Challenge.rw_formcycle_k74_whole_classes.row.prog w 11 (some (.ref 6)) 1 1 (St0 w os) (blockOf bE ev cc pp [topFrame qq])=some (.next,St0 w os,cc,ps0):=fun w os=>by kernel_rfl
noncomputable def l9:List Stmt:=List.take 9 bE
noncomputable def r9:List Stmt:=List.drop 9 bE
theorem g_9:∀ w os,segRunT treeTable PySem.Challenge.rw_formcycle_k74_whole_classes.row.prog w 11 (some (.ref 6)) 1 1665 (St0 w os) (piecesOf l9 ev cc ps0 [topFrame qq])=some (.next,St9 w os,cc,ps9):=fun w os=>by kernel_rfl
noncomputable def l49:List Stmt:=List.take 40 r9
noncomputable def r49:List Stmt:=List.drop 40 r9
theorem Ak0:∀ w os,segRunT treeTable PySem.Challenge.rw_formcycle_k74_whole_classes.row.prog w 11 (some (.ref 6)) 1 1555 (St9 w os) (piecesOf l49 ev cc ps9 [topFrame qq])=some (.next,Aho w os,cc,AhG):=fun w os=>by kernel_rfl
noncomputable def TL (w:World) (os:OsState):Option SharedT:=Ue treeTable PySem.Challenge.rw_formcycle_k74_whole_classes.row.prog w 11 (some (.ref 6)) 1538 (Aho w os) (restOf r49 ev cc AhG [topFrame qq])
theorem hr:∀ w os r,TL w os=some r→topRun treeTable PySem.Challenge.rw_formcycle_k74_whole_classes.row.prog w (Bw w os).heap.objs.size ((Bw w os).heap.nsMap mainGlobals "__annotations__") 4771 (Bw w os) (topStub PySem.Challenge.rw_formcycle_k74_whole_classes.row.prog)=some r.abs:=fun w os r h=>by
  rw [show (Bw w os).heap.objs.size=11 by kernel_rfl,show (Bw w os).heap.nsMap mainGlobals "__annotations__"=some (.ref 6) by kernel_rfl]
  have k:=Sw _ h
  have k:=piece_app (segRun_of (Ak0 w os)) k
  rw [show l49 ++ r49=r9 from List.take_append_drop _ _] at k
  have k:=piece_app (segRun_of (g_9 w os)) k
  rw [show l9 ++ r9=bE from List.take_append_drop _ _] at k
  have k:=piece_block (segRun_of (AhH w os)) k
  have k:=go_top (AaO _ (Aj8 w os)) k
  rw [boot_abs] at k
  exact k
noncomputable def sA0 (s:Shared):=PyProof.Rows.seen ((PyProof.Rows.recsOf vw).map (·.name)) (PyProof.Rows.ownsOf vw) [] { s with gens:=#[] }
noncomputable def sA1 (s:Shared):=s.heap.bltView
noncomputable def sA2 (s:Shared):=s.heap.keysOk (looseW vw []) ((PyProof.Rows.recsOf vw).map (·.name)) ((PyProof.Rows.litsOf vw).map (·.1)) ((PyProof.Rows.clssOf vw (looseW vw [])).map (·.name)) && s.heap.accountedOkI (importedModules PySem.Challenge.rw_formcycle_k74_whole_classes.row.prog.main.body) && s.heap.isNs mainGlobals && s.heap.isNs builtinsNs && PyProof.Rows.tablesOk vw s.heap && (xlAt vw [] s && recOk (RowW.records PySem.Challenge.rw_formcycle_k74_whole_classes.row.toRowW) s) && (if true then s.gens.size == 0 else !leftWithCleanup s.gens)
noncomputable def sA3 (s:Shared):=PyProof.Rows.tabsOk vw s
noncomputable def sA4 (s:Shared):=pinSeenD vw (PyProof.Rows.drecsOf vw) s
noncomputable def sA5 (s:Shared):=PyProof.Rows.plainSeenE vw (looseW vw []) s
noncomputable def sA6 (s:Shared):=PyProof.Rows.plainSeenD vw [] s
noncomputable def sA7 (s:Shared):=wideSeen vw s
noncomputable def sA8 (s:Shared):=clsSeenW vw [] s
theorem hA:∀ (w:World) (os:OsState),(TL w os).map (fun r=>stays PySem.Challenge.rw_formcycle_k74_whole_classes.row.prog (Bw w os) r.abs)=some true:=fun w os=>by kernel_rfl
theorem hB0:∀ (w:World) (os:OsState),(TL w os).map (fun r=>sA0 r.abs)=some (PyProof.Rows.expectedOf vw):=fun w os=>by kernel_rfl
theorem hB1:∀ (w:World) (os:OsState),(TL w os).map (fun r=>(sA1 r.abs,sA3 r.abs,sA4 r.abs,sA6 r.abs,sA8 r.abs))=some (bltViewBooted,true,pinGoodD (PyProof.Rows.drecsOf vw),PyProof.Rows.plainGoodD vw [],clsGoodW vw []):=fun w os=>by kernel_rfl
theorem hB2:∀ (w:World) (os:OsState),(TL w os).map (fun r=>sA2 r.abs)=some true:=fun w os=>by kernel_rfl
theorem hB5:∀ (w:World) (os:OsState),(TL w os).map (fun r=>sA5 r.abs)=some (PyProof.Rows.plainGoodE vw (looseW vw [])):=fun w os=>by kernel_rfl
theorem hB7:∀ (w:World) (os:OsState),(TL w os).map (fun r=>sA7 r.abs)=some (wideGood vw):=fun w os=>by kernel_rfl
theorem nine {α0 α1 α2 α3 α4 α5 α6 α7 α8:Type} {o:Option SharedT} {A0:Shared→α0} {A1:Shared→α1} {A2:Shared→α2} {A3:Shared→α3} {A4:Shared→α4} {A5:Shared→α5} {A6:Shared→α6} {A7:Shared→α7} {A8:Shared→α8} {a0:α0} {a1:α1} {a2:α2} {a3:α3} {a4:α4} {a5:α5} {a6:α6} {a7:α7} {a8:α8}
    (h0:o.map (fun r=>A0 r.abs)=some a0) (h1:o.map (fun r=>(A1 r.abs,A3 r.abs,A4 r.abs,A6 r.abs,A8 r.abs))=some (a1,a3,a4,a6,a8)) (h2:o.map (fun r=>A2 r.abs)=some a2) (h5:o.map (fun r=>A5 r.abs)=some a5) (h7:o.map (fun r=>A7 r.abs)=some a7) :
    o.map (fun r=>(A0 r.abs,A1 r.abs,A2 r.abs,A3 r.abs,A4 r.abs,A5 r.abs,A6 r.abs,A7 r.abs,A8 r.abs))=some (a0,a1,a2,a3,a4,a5,a6,a7,a8):=by
  cases o with
  | none=>cases h0
  | some r =>
    simp only [Option.map_some,Option.some.injEq,Prod.mk.injEq] at h0 h1 h2 h5 h7 ⊢
    exact ⟨h0,h1.1,h2,h1.2.1,h1.2.2.1,h5,h1.2.2.2.1,h7,h1.2.2.2.2⟩
theorem hB:∀ (w:World) (os:OsState),(TL w os).map (fun r=>openSeen vw [] (importedModules PySem.Challenge.rw_formcycle_k74_whole_classes.row.prog.main.body) (fun s=>xlAt vw [] s && recOk (RowW.records PySem.Challenge.rw_formcycle_k74_whole_classes.row.toRowW) s) true r.abs)=some (openGood vw []):=fun w os=>nine (A0:=sA0) (A1:=sA1) (A2:=sA2) (A3:=sA3) (A4:=sA4) (A5:=sA5) (A6:=sA6) (A7:=sA7) (A8:=sA8) (hB0 w os) (hB1 w os) (hB2 w os) (hB5 w os) (hB7 w os)
theorem hC:∀ (w:World) (os:OsState),(TL w os).map (fun r=>Hook.obs (kHook My.KK My.asK (fun _=>by kernel_rfl)) r.abs)=some (Hook.val (kHook My.KK My.asK (fun _=>by kernel_rfl)) w):=fun w os=>by kernel_rfl
theorem hl:LeftO PySem.Challenge.rw_formcycle_k74_whole_classes.row.prog vw [] (fun s=>xlAt vw [] s && recOk (RowW.records PySem.Challenge.rw_formcycle_k74_whole_classes.row.toRowW) s) (Hook.obs (kHook My.KK My.asK (fun _=>by kernel_rfl))) (Hook.val (kHook My.KK My.asK (fun _=>by kernel_rfl))) 4771:=fun w=>Zy (TL:=TL w) (by kernel_rfl) (by decide) (fun _=>by kernel_rfl) (hr w) (hA w) (hB w) (hC w) (fun os=>by kernel_rfl)
end My
namespace L2
open PySem PySem.Spec PyProof.Rows
noncomputable abbrev Key:=Sum Int Str
noncomputable def XJ:Key→Value→Bool
  | .inl k,v=>Value.isInt k v
  | .inr x,v=>Value.isStrOf x v
noncomputable def Agv (w:World):Key→Int
  | .inl k=>hashInt k
  | .inr x=>hashStr w x
theorem Dd:∀ {k:Key} {v:Value},XJ k v=true→(∃ i t,k=Sum.inl i∧v=Value.int i t)∨(∃ x t,k=Sum.inr x∧v=Value.str x t)
  | .inl i,v,h=>by
    obtain ⟨t,e⟩:=Value.isInt_shape (k:=i) (v:=v) h
    exact .inl ⟨i,t,rfl,e⟩
  | .inr x,v,h=>by
    obtain ⟨t,e⟩:=Value.isStrOf_shape (x:=x) (v:=v) h
    exact .inr ⟨x,t,rfl,e⟩
theorem Yy (i:Int) (t:Tok):XJ (.inl i) (.int i t)=true:=by simp [XJ,Value.isInt]
theorem AfA (a b:Int):decide ((Sum.inl a:Key)=Sum.inl b)=(a == b):=by
  by_cases e:a=b
  · subst e;simp
  · have h:¬ (Sum.inl a:Key)=Sum.inl b:=fun q=>e (Sum.inl.inj q)
    rw [decide_eq_false h]
    exact (beq_eq_false_iff_ne.mpr e).symm
theorem Af6 (a b:Str):decide ((Sum.inr a:Key)=Sum.inr b)=decide (a=b):=by
  by_cases e:a=b
  · subst e;simp
  · have h:¬ (Sum.inr a:Key)=Sum.inr b:=fun q=>e (Sum.inr.inj q)
    rw [decide_eq_false h,decide_eq_false e]
theorem Afx (a:Int) (b:Str):decide ((Sum.inl a:Key)=Sum.inr b)=false:=decide_eq_false (fun q=>nomatch q)
theorem Ags (a:Str) (b:Int):decide ((Sum.inr a:Key)=Sum.inl b)=false:=decide_eq_false (fun q=>nomatch q)
noncomputable def GF (prog:Program) (w:World):PySem.KeyKind prog w Key where
  is:=XJ
  hash:=Agv w
  inj:=fun v a b ha hb=>by
    rcases Dd ha with ⟨i,t,rfl,rfl⟩ | ⟨x,t,rfl,rfl⟩
    · rcases Dd hb with ⟨j,u,rfl,e⟩ | ⟨y,u,rfl,e⟩
      · injection e with e1 _;rw [e1]
      · exact nomatch e
    · rcases Dd hb with ⟨j,u,rfl,e⟩ | ⟨y,u,rfl,e⟩
      · exact nomatch e
      · injection e with e1 _;rw [e1]
  byValue:=fun k v h=>by
    rcases Dd h with ⟨i,t,rfl,rfl⟩ | ⟨x,t,rfl,rfl⟩ <;> rfl
  pyHash:=fun hv h=>by
    rcases Dd hv with ⟨i,t,rfl,rfl⟩ | ⟨x,t,rfl,rfl⟩
    · exact wpAny_pyHash_int h
    · exact wpAny_pyHash_str h
  eqBool:=fun hu hv h=>by
    rcases Dd hu with ⟨i,t,rfl,rfl⟩ | ⟨x,t,rfl,rfl⟩
    · rcases Dd hv with ⟨j,u,rfl,rfl⟩ | ⟨y,u,rfl,rfl⟩
      · rw [AfA] at h;exact wpAny_eqBool_int h
      · rw [Afx] at h;exact SeqAt.EqAt.int_str i t y u _ _ _ _ h
    · rcases Dd hv with ⟨j,u,rfl,rfl⟩ | ⟨y,u,rfl,rfl⟩
      · rw [Ags] at h;exact SeqAt.EqAt.str_int x t j u _ _ _ _ h
      · rw [Af6] at h;exact wpAny_eqBool_str h
  «strs» := fun k x t v h=>by
    rcases Dd h with ⟨i,u,rfl,e⟩ | ⟨y,u,rfl,e⟩
    · exact nomatch e
    · injection e with e1 _
      subst e1
      cases v <;> rfl
theorem T8 (prog:Program) (w:World) (i:Int) (t:Tok):(GF prog w).is (.inl i) (.int i t)=true:=Yy i t
end L2
namespace L2
open PySem PySem.Spec PyProof.Rows
inductive V where
  | non | bl (b:Bool) | int (i:Int) | str (x:Str) | byt (b:Array UInt8) | flt (b:UInt64) | ref (a:Addr) | ty (n:String)
  deriving DecidableEq
noncomputable def RelV:V→Value→Prop
  | .non,u=>u=Value.none
  | .bl b,u=>u=Value.bool b
  | .int i,u=>∃ t,u=Value.int i t
  | .str x,u=>∃ t,u=Value.str x t
  | .byt b,u=>∃ t,u=Value.bytes b t
  | .flt b,u=>∃ t,u=Value.float b t
  | .ref a,u=>u=Value.ref a
  | .ty n,u=>u=Value.type n
noncomputable abbrev Vals:List V→List Value→Prop:=Paired RelV
theorem Vals.length {xs:List V} {us:List Value} (r:Vals xs us):xs.length=us.length:=Paired.length r
theorem Vals.get:∀ {xs:List V} {us:List Value} {i:Nat} {x:V},Vals xs us→xs[i]? = some x→∃ u,us[i]? = some u∧RelV x u
  | _,_,_,_,.nil,e=>by simp at e
  | _,_,0,_,.cons r _,e=>by simp at e;subst e;exact ⟨_,rfl,r⟩
  | _,_,i+1,x,.cons _ t,e=>by
    obtain ⟨u,h1,h2⟩:=Vals.get (i:=i) (x:=x) t (by simpa using e)
    exact ⟨u,by simpa using h1,h2⟩
theorem Vals.append:∀ {xs ys:List V} {us ws:List Value},Vals xs us→Vals ys ws→Vals (xs ++ ys) (us ++ ws)
  | _,_,_,_,.nil,s=>s
  | _,_,_,_,.cons r t,s=>.cons r (Vals.append t s)
theorem Vals.take:∀ {xs:List V} {us:List Value} (n:Nat),Vals xs us→Vals (xs.take n) (us.take n)
  | _,_,0,_=>.nil
  | _,_,_+1,.nil=>.nil
  | _,_,n+1,.cons r t=>.cons r (Vals.take n t)
theorem Vals.drop:∀ {xs:List V} {us:List Value} (n:Nat),Vals xs us→Vals (xs.drop n) (us.drop n)
  | _,_,0,r=>r
  | _,_,_+1,.nil=>.nil
  | _,_,n+1,.cons _ t=>Vals.drop n t
noncomputable def QS:Option V→Option Value→Prop
  | some v,some u=>RelV v u
  | none,none=>True
  | _,_=>False
noncomputable def KV {κ:Type}:List (κ × V)→List (κ × Value)→Prop:=Paired fun (p:κ × V) (q:κ × Value)=>p.1=q.1∧RelV p.2 q.2
noncomputable def kV:Key→V
  | .inl i=>.int i
  | .inr x=>.str x
inductive HO where
    | lst (xs:List V)
    | tup (xs:List V)
    | dK (kvs:List (Key × V)) | dT (kvs:List (List Key × V))
    | set (S:Int→Bool) (n:Nat)
    | ins (C dx:Addr) (fs:List (Str × V))
    | own (x:Addr)
    | xd (fs:List (Str × V))
    | met (f x:Addr)
    | rng (lo hi:Int)
    | frz (o:Obj) (u:HO)
    | tbl (ps:Array Value)
    | ext (φ:Heap→Prop)
noncomputable abbrev Hp:=Addr→Option HO
noncomputable def upd (H:Hp) (a:Addr) (o:HO):Hp:=fun b=>if b=a then some o else H b
theorem Bh {H:Hp} {a:Addr} {o:HO}:upd H a o a=some o:=by unfold upd;rw [if_pos rfl]
theorem Aw {H:Hp} {a b:Addr} {o:HO} (h:b≠a):upd H a o b=H b:=by unfold upd;rw [if_neg h]
theorem Bv {H:Hp} {a b:Addr} {o:HO} (h:H a=some o) (h':H b=none):a≠b:=by
  intro e;subst e;rw [h] at h';cases h'
section
variable (P:Program) (w:World)
noncomputable def Hl (H:Hp) (h:Heap) (a:Addr):HO→Prop
  | .lst xs=>xs.length≤sizeLine∧∃ (its:List Value) (n:Nat),Vals xs its∧h.get? a=some { cls:=.type "list",data:=.seq its.toArray n }
  | .tup xs=>xs.length≤sizeLine∧∃ its:List Value,Vals xs its∧IsTup h a its.toArray
  | .dK kvs=>kvs.length≤sizeLine∧(a == sysModules)=false∧∃ vs,KV kvs vs∧h.DictOf (GF P w) a vs
  | .dT kvs=>kvs.length≤sizeLine∧(a == sysModules)=false∧∃ xs:List (List Key × Addr × Value),
      Paired (fun (p:List Key × V) (q:List Key × Addr × Value)=>p.1=q.1∧H q.2.1=some (.tup (p.1.map kV))∧RelV p.2 q.2.2) kvs xs ∧
      ∃ o es ep,h.get? a=some o∧o.ExactDict∧o.data=.dict es ep∧es.toList=xs.map (entryOfKey (tupleKind (GF P w)))∧(xs.map (·.1)).Nodup
  | .set S n=>h.SetOf (intKind P w) a S n
  | .ins C dx fs=>H dx=some (.own a)∧fs.length≤1000∧dx≠a∧h.get? a=some (PySem.W.instObj C dx) ∧
      ∃ mA,h.Ns1 dx mA∧(∀ f,QS (fs.lookup f) (mA f))∧PySem.Within mA (fs.map (·.1))
  | .own _=>∃ o,h.get? a=some o
  | .xd fs=>∃ mA,h.Ns1 a mA∧∀ f,QS (fs.lookup f) (mA f)
  | .rng lo hi=>∃ t u v,h.get? a=some { cls:=.type "range",data:=.fields #[.int lo t,.int hi u,.int 1 v] }
  | .frz o u=>h.get? a=some o∧Hl H h a u
  | .tbl ps=>h.get? a=some { cls:=.none,data:=.fields ps }
  | .met f x=>h.get? a=some (PySem.W.methodObj (.ref f) (.ref x))
  | .ext φ=>φ h∧(∃ o,h.get? a=some o)∧∀ h1 h2:Heap,φ h1→(∀ o,h1.get? a=some o→h2.get? a=some o)→φ h2
noncomputable def HOk (H:Hp) (h:Heap):Prop:=∀ a o,H a=some o→Hl P w H h a o
end
section
variable {P:Program} {w:World} {H H':Hp} {h h':Heap} {a:Addr} {o:HO}
theorem Hl.lt (x:Hl P w H h a o):a < h.objs.size:=by
  cases o with
  | lst xs=>obtain ⟨_,_,_,_,e⟩:=x;exact Heap.lt_size e
  | tup xs=>obtain ⟨_,_,_,p⟩:=x;exact p.lt
  | dK kvs=>obtain ⟨_,_,_,_,o,_,_,e,_⟩:=x;exact Heap.lt_size e
  | dT kvs=>obtain ⟨_,_,_,_,o,_,_,e,_⟩:=x;exact Heap.lt_size e
  | set S n=>obtain ⟨o,_,_,_,e,_⟩:=x;exact Heap.lt_size e
  | ins C dx fs=>obtain ⟨_,_,_,e,_⟩:=x;exact Heap.lt_size e
  | own y=>obtain ⟨_,e⟩:=x;exact Heap.lt_size e
  | xd fs=>obtain ⟨_,⟨_,_,_,e,_⟩,_⟩:=x;exact Heap.lt_size e
  | rng lo hi=>obtain ⟨_,_,_,e⟩:=x;exact Heap.lt_size e
  | frz ob u=>obtain ⟨e,_⟩:=x;exact Heap.lt_size e
  | tbl ps=>exact Heap.lt_size (show h.get? a=some _ from x)
  | met f y=>exact Heap.lt_size (show h.get? a=some _ from x)
  | ext φ=>obtain ⟨_,⟨_,e⟩,_⟩:=x;exact Heap.lt_size e
theorem Paired.mapP {α β:Type} {F G:α→β→Prop}:∀ {l₁:List α} {l₂:List β},Paired F l₁ l₂→(∀ a b,F a b→G a b)→Paired G l₁ l₂
  | _,_,.nil,_=>.nil
  | _,_,.cons r t,f=>.cons (f _ _ r) (Paired.mapP t f)
theorem Hl.stay (x:Hl P w H h a o) (k:∀ b u,(b=a∨H b=some (.own a))→h.get? b=some u→h'.get? b=some u)
    (ho:∀ b,H b=some (.own a)→H' b=some (.own a)) (ht:∀ b xs,H b=some (.tup xs)→H' b=some (.tup xs)):Hl P w H' h' a o:=by
  induction o with
  | lst xs=>obtain ⟨z,its,n,r,e⟩:=x;exact ⟨z,its,n,r,k _ _ (.inl rfl) e⟩
  | tup xs=>obtain ⟨z,its,r,ob,e,c⟩:=x;exact ⟨z,its,r,ob,k _ _ (.inl rfl) e,c⟩
  | dK kvs=>obtain ⟨z,y,vs,r,ob,es,ep,e,c⟩:=x;exact ⟨z,y,vs,r,ob,es,ep,k _ _ (.inl rfl) e,c⟩
  | dT kvs =>
    obtain ⟨z,y,xs,r,ob,es,ep,e,c⟩:=x
    exact ⟨z,y,xs,Paired.mapP r fun p q z=>⟨z.1,ht _ _ z.2.1,z.2.2⟩,ob,es,ep,k _ _ (.inl rfl) e,c⟩
  | set S n=>obtain ⟨ob,es,ep,t,e,c⟩:=x;exact ⟨ob,es,ep,t,k _ _ (.inl rfl) e,c⟩
  | ins C dx fs =>
    obtain ⟨d,z,ne,e,mA,⟨od,es,ep,e2,c⟩,r⟩:=x
    exact ⟨ho _ d,z,ne,k _ _ (.inl rfl) e,mA,⟨od,es,ep,k _ _ (.inr d) e2,c⟩,r⟩
  | own y=>obtain ⟨ob,e⟩:=x;exact ⟨ob,k _ _ (.inl rfl) e⟩
  | xd fs=>obtain ⟨mA,⟨od,es,ep,e,c⟩,r⟩:=x;exact ⟨mA,⟨od,es,ep,k _ _ (.inl rfl) e,c⟩,r⟩
  | rng lo hi=>obtain ⟨t,u,v,e⟩:=x;exact ⟨t,u,v,k _ _ (.inl rfl) e⟩
  | frz ob u ih=>obtain ⟨e,q⟩:=x;exact ⟨k _ _ (.inl rfl) e,ih q⟩
  | tbl ps =>
    have e:h.get? a=some { cls:=.none,data:=.fields ps }:=x
    show h'.get? a=some { cls:=.none,data:=.fields ps }
    exact k a _ (.inl rfl) e
  | met f y =>
    have e:h.get? a=some (PySem.W.methodObj (.ref f) (.ref y)):=x
    show h'.get? a=some (PySem.W.methodObj (.ref f) (.ref y))
    exact k a _ (.inl rfl) e
  | ext φ=>obtain ⟨p,⟨o,e⟩,st⟩:=x;exact ⟨st _ _ p fun o q=>k _ _ (.inl rfl) q,⟨o,k _ _ (.inl rfl) e⟩,st⟩
theorem HOk.lt (x:HOk P w H h) (e:H a=some o):a < h.objs.size:=(x a o e).lt
theorem HOk.fresh (x:HOk P w H h) (e:h.objs.size≤a):H a=none:=by
  cases q:H a with
  | none=>rfl
  | some u=>exact absurd (Nat.lt_of_lt_of_le (x.lt q) e) (Nat.lt_irrefl _)
theorem HOk.kept (x:HOk P w H h) (k:∀ b u,h.get? b=some u→h'.get? b=some u):HOk P w H h':=fun a o e =>
  (x a o e).stay (fun b u _ q=>k b u q) (fun _ q=>q) fun _ _ q=>q
theorem HOk.laid (x:HOk P w H h) (k:∀ b u,h.get? b=some u→h'.get? b=some u) (hp:h.objs.size≤a) (new:Hl P w (upd H a o) h' a o):HOk P w (upd H a o) h':=fun b u e=>by
  have hn:=x.fresh hp
  by_cases hb:b=a
  · subst hb;rw [Bh] at e;cases e;exact new
  · rw [Aw hb] at e
    exact (x b u e).stay (fun c v _ q=>k c v q) (fun c q=>by rw [Aw (Bv q hn)];exact q) fun c xs q=>by rw [Aw (Bv q hn)];exact q
end
noncomputable def Rd (H:Hp) (a:Addr) (u:HO):Prop:=H a=some u∨∃ o,H a=some (.frz o u)
theorem Rd.ok {P:Program} {w:World} {H:Hp} {h:Heap} {a:Addr} {u:HO} (r:Rd H a u) (x:HOk P w H h):Hl P w H h a u:=by
  rcases r with r | ⟨o,r⟩
  · exact x a u r
  · obtain ⟨_,q⟩:=x a _ r
    exact q
noncomputable def Mut:Option HO→Prop
  | some (.lst _)=>True
  | some (.dK _)=>True
  | some (.dT _)=>True
  | some (.set _ _)=>True
  | some (.ins _ _ _)=>True
  | some (.ext _)=>True
  | _=>False
section
variable {P:Program} {w:World} {H:Hp} {h h':Heap} {x e:Addr} {o':HO}
theorem HOk.write (ok:HOk P w H h) (mu:Mut (H x)) (he:e=x∨H e=some (.own x)) (k:∀ b u,b≠e→h.get? b=some u→h'.get? b=some u) (heo:∃ u,h'.get? e=some u)
    (new:Hl P w (upd H x o') h' x o'):HOk P w (upd H x o') h':=fun b u q=>by
  have nown:∀ c y,H c=some (.own y)→c≠x:=fun c y r z=>by subst z;rw [r] at mu;exact mu
  have ntup:∀ c xs,H c=some (.tup xs)→c≠x:=fun c xs r z=>by subst z;rw [r] at mu;exact mu
  by_cases hb:b=x
  · subst hb;rw [Bh] at q;cases q;exact new
  · rw [Aw hb] at q
    by_cases hbe:b=e
    · have q':H b=some (.own x):=by
        rcases he with z | z
        · exact absurd (hbe.trans z) hb
        · rw [hbe];exact z
      rw [q] at q';cases q'
      obtain ⟨v,hv⟩:=heo
      exact ⟨v,by rw [hbe];exact hv⟩
    · refine (ok b u q).stay (fun c v hc r=>k c v ?_ r) (fun c r=>by rw [Aw (nown c b r)];exact r) fun c xs r=>by rw [Aw (ntup c xs r)];exact r
      rcases hc with rfl | hc
      · exact hbe
      · rintro rfl
        rcases he with z | z
        · exact nown c b hc z
        · rw [hc] at z;cases z;exact hb rfl
end
structure Un (fs ex:List Addr) (H H':Hp) (h h':Heap):Prop where
  keep:∀ b o,h.get? b=some o→H b=none→b∉fs→b∉ex→h'.get? b=some o
  slot:∀ b o,h.get? b=some o→H b=none→b∈fs→b∉ex→∃ sl,h'.get? b=some { o with slots:=sl }
  free:∀ b o,h.get? b=some o→H b=none→b∉ex→H' b=none
  there:∀ b o,h.get? b=some o→b∉ex→∃ o',h'.get? b=some o'
  tups:∀ b xs,H b=some (.tup xs)→H' b=some (.tup xs)
  frzs:∀ b o u,H b=some (.frz o u)→H' b=some (.frz o u)
  tbls:∀ b ps,H b=some (.tbl ps)→∃ more,H' b=some (.tbl (ps ++ more))
section
variable {fs fs' ex ex':List Addr} {H H1 H2:Hp} {h h1 h2 h':Heap} {a x e:Addr} {o:HO}
theorem Un.any (u:Un fs ex H H1 h h1) {b:Addr} {ob:Obj} (q:h.get? b=some ob) (n:H b=none) (hx:b∉ex):∃ sl,h1.get? b=some { ob with slots:=sl }:=by
  by_cases hb:b∈fs
  · exact u.slot b ob q n hb hx
  · exact ⟨ob.slots,u.keep b ob q n hb hx⟩
theorem Un.trans (a:Un fs ex H H1 h h1) (b:Un fs ex H1 H2 h1 h2):Un fs ex H H2 h h2 where
  keep:=fun c ob q n hc hx=>b.keep c ob (a.keep c ob q n hc hx) (a.free c ob q n hx) hc hx
  slot:=fun c ob q n hc hx=>by
    obtain ⟨sl,e1⟩:=a.slot c ob q n hc hx
    obtain ⟨sl',e2⟩:=b.slot c _ e1 (a.free c ob q n hx) hc hx
    exact ⟨sl',e2⟩
  free:=fun c ob q n hx=>by
    obtain ⟨o',e1⟩:=a.there c ob q hx
    exact b.free c o' e1 (a.free c ob q n hx) hx
  there:=fun c ob q hx=>by
    obtain ⟨o',e1⟩:=a.there c ob q hx
    exact b.there c o' e1 hx
  tups:=fun c xs q=>b.tups c xs (a.tups c xs q)
  frzs:=fun c ob xs q=>b.frzs c ob xs (a.frzs c ob xs q)
  tbls:=fun c ps q=>by
    obtain ⟨m1,e1⟩:=a.tbls c ps q
    obtain ⟨m2,e2⟩:=b.tbls c _ e1
    exact ⟨m1 ++ m2,by rw [e2,Array.append_assoc]⟩
theorem Un.kept (k:∀ b u,h.get? b=some u→h'.get? b=some u):Un fs ex H H h h' :=
  ⟨fun b ob q _ _ _=>k b ob q,fun b ob q _ _ _=>⟨ob.slots,k b ob q⟩,fun _ _ _ n _=>n,fun b ob q _=>⟨ob,k b ob q⟩,fun _ _ q=>q,fun _ _ _ q=>q,fun _ ps q=>⟨#[],by rw [q];simp⟩⟩
theorem Un.refl:Un fs ex H H h h:=Un.kept fun _ _ q=>q
theorem Un.laid (k:∀ b u,h.get? b=some u→h'.get? b=some u) (hp:h.objs.size≤a) (hn:H a=none):Un fs ex H (upd H a o) h h' where
  keep:=fun b u q _ _ _=>k b u q
  slot:=fun b u q _ _ _=>⟨u.slots,k b u q⟩
  free:=fun b u q n _=>by rw [Aw (Nat.ne_of_lt (Nat.lt_of_lt_of_le (Heap.lt_size q) hp))];exact n
  there:=fun b u q _=>⟨u,k b u q⟩
  tups:=fun b xs q=>by rw [Aw (Bv q hn)];exact q
  frzs:=fun b u xs q=>by rw [Aw (Bv q hn)];exact q
  tbls:=fun b ps q=>⟨#[],by rw [Aw (Bv q hn),q];simp⟩
theorem Un.write (mu:Mut (H x)) (he:e=x∨H e=some (.own x)) (k:∀ b u,b≠e→h.get? b=some u→h'.get? b=some u) (heo:∃ u,h'.get? e=some u):Un fs ex H (upd H x o) h h':=by
  have hx:∀ b,H b=none→b≠x:=fun b n z=>by subst z;rw [n] at mu;exact mu
  have hb:∀ b,H b=none→b≠e:=fun b n z=>by
    subst z
    rcases he with r | r
    · exact hx b n r
    · rw [n] at r;cases r
  have hm:∀ b u,H b=some u→¬ Mut (some u)→b≠x:=fun b u q nm z=>by subst z;rw [q] at mu;exact nm mu
  refine ⟨fun b u q n _ _=>k b u (hb b n) q,fun b u q n _ _=>⟨u.slots,k b u (hb b n) q⟩,fun b u q n _=>by rw [Aw (hx b n)];exact n,fun b u q _=>?_,
    fun b xs q=>by rw [Aw (hm b _ q fun z=>z)];exact q,fun b u xs q=>by rw [Aw (hm b _ q fun z=>z)];exact q,fun b ps q=>⟨#[],by rw [Aw (hm b _ q fun z=>z),q];simp⟩⟩
  by_cases hbe:b=e
  · subst hbe;exact heo
  · exact ⟨u,k b u hbe q⟩
end
noncomputable def trk (h:Heap) (H:Hp):List Addr:=(List.range h.objs.size).filter fun a=>(H a).isSome
noncomputable def R9 (h:Heap) (H:Hp):Heap:=PySem.W.hideAll h (trk h H)
theorem Y5 (h:Heap) (H:Hp):(R9 h H).objs.size=h.objs.size:=PySem.W.hideAll_size _ _
theorem Abg {h:Heap} {H:Hp} {b:Addr} {o:Obj} (e:h.get? b=some o) (n:H b=none):(R9 h H).get? b=some o :=
  PySem.W.hideAll_get _ e fun hm=>by
    have q:(H b).isSome=true:=(List.mem_filter.mp hm).2
    rw [n] at q;simp at q
theorem AcG {h:Heap} {H:Hp} {b:Addr} {o:Obj} (e:(R9 h H).get? b=some o):h.get? b=some o∧H b=none:=by
  have e':h.get? b=some o:=PySem.W.of_hideAll (trk h H) e
  refine ⟨e',?_⟩
  cases q:H b with
  | none=>rfl
  | some x =>
    have hm:b∈trk h H:=List.mem_filter.mpr ⟨List.mem_range.mpr (Heap.lt_size e'),by simp [q]⟩
    have z:(R9 h H).get? b=none:=PySem.W.hideAll_none (trk h H) hm
    rw [z] at e;cases e
noncomputable def Adc (g h:Heap) (L:Addr):List (Addr × Obj):=(List.range h.objs.size).filterMap fun a=>if a=L∨(g.get? a).isSome=true then none else (h.get? a).map fun o=>(a,o)
noncomputable def rest (g h:Heap) (L d:Addr):List (Addr × Obj):=(Adc g h L).filter fun p=>decide (p.1≠d)
end L2
namespace L2
open PySem PySem.Spec PyProof.Rows
structure Mod (K:PySem.W.Frag) (mg:Str→Option Value) (base:Heap):Prop where
  kin:K.In base
  glob:base.Ns mainGlobals mg
  blt:∃ mb,base.Ns builtinsNs mb∧∀ x:Str,x≠"__name__"→mb x=bootBuiltins x
  nolimit:base.NoLimit
structure Cx where
  prog:Program
  w:World
  K:PySem.W.Frag
  mg:Str→Option Value
  base:Heap
  A:Around
  N:List Str
  s₀:Shared
  H₀:Hp
  env:Env
  outer:List Env
  stack:List Env
  ex:List Addr
  fn:Str→Bool
  calm:Bool
  pn:List (Addr × Obj)
  xe:Value→Shared→Prop
noncomputable def frs (l:List Env):List Addr:=l.filterMap (·.frame)
noncomputable abbrev Cx.fs (X:Cx):List Addr:=frs X.outer
noncomputable def Vis (sc:Scope) (x:Str):Prop:=sc.names.lookup x=some .local∨sc.names.lookup x=some .cell∨sc.names.lookup x=some .free
noncomputable def Loc (sc:Scope) (x:Str):Prop:=sc.names.lookup x=some .local∨sc.names.lookup x=some .cell
noncomputable def Look (env:Env) (h:Heap) (m:Str→Option Value) (x:Str) (u:Value):Prop :=
  (env.kindOf x=some .local∧m x=some u)∨((env.kindOf x=some .cell∨env.kindOf x=some .free)∧∃ c,env.cells.lookup x=some c∧h.IsCell c (some u))
structure Cx.Ok (X:Cx):Prop where
  mod:Mod X.K X.mg X.base
  kind:X.env.scope.kind=.function
  glob:X.env.globals=mainGlobals
  blt:X.env.builtins=builtinsNs
  above:X.s₀.heap.objs.size≤X.env.locals
  inj:∀ x y c,X.env.cells.lookup x=some c→X.env.cells.lookup y=some c→x=y
  has:∀ x,(X.env.kindOf x=some .cell∨X.env.kindOf x=some .free)→∃ c,X.env.cells.lookup x=some c
  cab:∀ x c,X.fn x=true→X.env.cells.lookup x=some c→X.s₀.heap.objs.size≤c
  hd:X.calm=true→X.A.handled=none
  frames:X.A.frames=some X.stack
  stk:X.stack=X.outer∨(X.stack=X.env :: X.outer∧X.env.frame=some X.env.locals)
  exf:∀ b∈X.ex,b≠X.env.locals∧∀ x c,X.env.cells.lookup x=some c→c≠b
  bs:∀ b o,X.base.get? b=some o→X.s₀.heap.get? b=some o∧X.H₀ b=none
  bsz:X.base.objs.size≤X.s₀.heap.objs.size
  noex:∀ b o,X.base.get? b=some o→b∉X.ex
  exfs:∀ b∈X.ex,b∉X.fs
  funs:X.s₀.heap.FunFrames X.base X.outer
  frf:∀ b∈X.fs,X.H₀ b=none
structure Inv (X:Cx) (pins:List (Addr × Obj)) (σ:List (Option V)) (H:Hp) (s:Shared):Prop where
  ok:X.Ok
  os:s.os=X.s₀.os
  bare:AllBare s.gens
  base:Un X.fs X.ex X.H₀ H X.s₀.heap s.heap
  loc:∃ m,s.heap.Ns X.env.locals m∧∀ (i:Nat) (x:Str) (v:V),X.N[i]? = some x→σ[i]? = some (some v)→Vis X.env.scope x→∃ u,RelV v u∧Look X.env s.heap m x u
  cell:∀ x c,X.env.cells.lookup x=some c→∃ v,s.heap.IsCell c v
  free:H X.env.locals=none
  freeC:∀ x c,X.env.cells.lookup x=some c→H c=none
  pin:∀ p∈X.pn ++ pins,s.heap.get? p.1=some p.2∧H p.1=none∧p.1≠X.env.locals∧p.1∉X.fs∧∀ v,p.2.data≠.cell v
  hok:HOk X.prog X.w H s.heap
  len:σ.length=X.N.length
section
variable {X:Cx} {pins:List (Addr × Obj)} {σ:List (Option V)} {H H':Hp} {s:Shared} {h':Heap}
theorem Cx.Ok.nofr (ok:X.Ok) {b:Addr} {o:Obj} (e:X.base.get? b=some o):b∉X.fs:=fun hb=>by
  have:=(ok.funs.mem hb).1
  rw [e] at this;cases this
theorem Inv.bs (I:Inv X pins σ H s):∀ b o,X.base.get? b=some o→s.heap.get? b=some o∧H b=none:=fun b o e =>
  ⟨I.base.keep b o (I.ok.bs b o e).1 (I.ok.bs b o e).2 (I.ok.nofr e) (I.ok.noex b o e),I.base.free b o (I.ok.bs b o e).1 (I.ok.bs b o e).2 (I.ok.noex b o e)⟩
theorem Inv.bk (I:Inv X pins σ H s):∀ b o,X.base.get? b=some o→s.heap.get? b=some o:=fun b o e=>(I.bs b o e).1
theorem Inv.mod (I:Inv X pins σ H s):Mod X.K X.mg X.base:=I.ok.mod
theorem Inv.kIn (I:Inv X pins σ H s):X.K.In s.heap:=I.ok.mod.kin.keeps I.bk
theorem Inv.lt (I:Inv X pins σ H s):X.env.locals < s.heap.objs.size:=let ⟨_,hn,_⟩:=I.loc;hn.lt
theorem Inv.sz (I:Inv X pins σ H s):X.s₀.heap.objs.size≤s.heap.objs.size:=Nat.le_trans I.ok.above (Nat.le_of_lt I.lt)
theorem Inv.nofs (I:Inv X pins σ H s) {a:Addr} (h:s.heap.objs.size≤a):a∉X.fs:=fun hb=>by
  obtain ⟨_,o,ho,_⟩:=I.ok.funs.mem hb
  exact absurd (Nat.lt_of_lt_of_le (Heap.lt_size ho) (Nat.le_trans I.sz h)) (Nat.lt_irrefl _)
theorem Inv.cne (I:Inv X pins σ H s):∀ x c,X.env.cells.lookup x=some c→c≠X.env.locals:=fun x c e z=>by
  obtain ⟨v,o,ho,hd⟩:=I.cell x c e
  obtain ⟨m,⟨o',es,ep,ho',hd',_⟩,_⟩:=I.loc
  rw [z,ho'] at ho;cases ho;rw [hd'] at hd;cases hd
theorem Inv.funs (I:Inv X pins σ H s):s.heap.FunFrames X.base X.outer:=by
  have all:∀ (l:List Env),(∀ b∈frs l,b∈X.fs)→X.s₀.heap.FunFrames X.base l→s.heap.FunFrames X.base l:=by
    intro l
    induction l with
    | nil=>intro _ _;trivial
    | cons env r ih =>
      intro hs hl
      obtain ⟨hk,⟨L,o,hf,hn,ho,hd⟩,hr⟩:=hl
      have hL:L∈X.fs:=hs L (by unfold frs;rw [List.filterMap_cons,hf];exact List.mem_cons_self)
      obtain ⟨sl,e⟩:=I.base.slot L o ho (I.ok.frf L hL) hL fun z=>I.ok.exfs L z hL
      exact ⟨hk,⟨L,_,hf,hn,e,hd⟩,ih (fun b hb=>hs b (by unfold frs;rw [List.filterMap_cons,hf];exact List.mem_cons_of_mem _ hb)) hr⟩
  exact all X.outer (fun _ hb=>hb) I.ok.funs
theorem Inv.stack (I:Inv X pins σ H s):s.heap.FunFrames X.base X.stack:=by
  rcases I.ok.stk with e | ⟨e,hf⟩
  · rw [e];exact I.funs
  · rw [e]
    obtain ⟨m,hn,_⟩:=I.loc
    refine .cons (by rw [I.ok.kind];decide) hf hn ?_ I.funs
    exact Heap.get?_none_of_le (Nat.le_trans I.ok.bsz I.ok.above)
theorem Inv.stkSub (I:Inv X pins σ H s):∀ b∈frs X.stack,b∈X.env.locals :: X.fs:=fun b hb=>by
  rcases I.ok.stk with e | ⟨e,hf⟩
  · rw [e] at hb;exact List.mem_cons_of_mem _ hb
  · rw [e] at hb
    unfold frs at hb
    rw [List.filterMap_cons,hf] at hb
    exact hb
theorem Inv.stkFree (I:Inv X pins σ H s):∀ b∈frs X.stack,H b=none:=fun b hb=>by
  rcases List.mem_cons.mp (I.stkSub b hb) with e | hb
  · rw [e];exact I.free
  · obtain ⟨_,o,ho,_⟩:=I.ok.funs.mem hb
    exact I.base.free b o ho (I.ok.frf b hb) fun z=>I.ok.exfs b z hb
theorem Inv.step {g':Array GenState} {t':Nat} {d':Drawn} {ch:List Addr} (I:Inv X pins σ H s)
    (hch:∀ b∈ch,(b∈X.ex∨X.s₀.heap.objs.size≤b)∧b≠X.env.locals∧(∀ x c,X.env.cells.lookup x=some c→c≠b)∧∀ p∈X.pn ++ pins,p.1≠b)
    (keep:∀ b o,b≠X.env.locals→b∉X.fs→b∉ch→s.heap.get? b=some o→H b=none→h'.get? b=some o)
    (slot:∀ b o,b≠X.env.locals→b∈X.fs→b∉ch→s.heap.get? b=some o→H b=none→∃ sl,h'.get? b=some { o with slots:=sl }) (free:∀ b o,b∉ch→s.heap.get? b=some o→H b=none→H' b=none)
    (there:∀ b o,b∉ch→s.heap.get? b=some o→∃ o',h'.get? b=some o')
    (tups:∀ b xs,H b=some (.tup xs)→H' b=some (.tup xs)) (frzs:∀ b o u,H b=some (.frz o u)→H' b=some (.frz o u)) (tbls:∀ b ps,H b=some (.tbl ps)→∃ more,H' b=some (.tbl (ps ++ more)))
    (ns:∀ m,s.heap.Ns X.env.locals m→h'.Ns X.env.locals m) (hok:HOk X.prog X.w H' h') (hg:AllBare g') :
    Inv X pins σ H' { s with heap:=h',gens:=g',drawn:=d',toks:=t' }:=by
  have neL:∀ b o,X.s₀.heap.get? b=some o→b≠X.env.locals:=fun b o e=>Nat.ne_of_lt (Nat.lt_of_lt_of_le (Heap.lt_size e) I.ok.above)
  have neC:∀ b o,X.s₀.heap.get? b=some o→b∉X.ex→b∉ch:=fun b o e hx hb=>by
    rcases (hch b hb).1 with z | z
    · exact hx z
    · exact absurd (Nat.lt_of_lt_of_le (Heap.lt_size e) z) (Nat.lt_irrefl _)
  have cellK:∀ x c,X.env.cells.lookup x=some c→∀ v,s.heap.IsCell c v→h'.IsCell c v:=fun x c e v ⟨o,ho,hd⟩=>by
    have nch:c∉ch:=fun z=>(hch c z).2.2.1 x c e rfl
    by_cases hc:c∈X.fs
    · obtain ⟨sl,q⟩:=slot c o (I.cne x c e) hc nch ho (I.freeC x c e)
      exact ⟨_,q,hd⟩
    · exact ⟨o,keep c o (I.cne x c e) hc nch ho (I.freeC x c e),hd⟩
  refine ⟨I.ok,I.os,hg,⟨fun b o e n hb hx=>?_,fun b o e n hb hx=>?_,fun b o e n hx=>?_,fun b o e hx=>?_,fun b xs e=>tups b xs (I.base.tups b xs e),fun b o xs e=>frzs b o xs (I.base.frzs b o xs e),fun b ps e=>?_⟩,?_,fun x c e=>?_,?_,fun x c e=>?_,fun p hp=>?_,hok,I.len⟩
  · exact keep b o (neL b o e) hb (neC b o e hx) (I.base.keep b o e n hb hx) (I.base.free b o e n hx)
  · obtain ⟨sl,e1⟩:=I.base.slot b o e n hb hx
    obtain ⟨sl',e2⟩:=slot b _ (neL b o e) hb (neC b o e hx) e1 (I.base.free b o e n hx)
    exact ⟨sl',e2⟩
  · obtain ⟨o',e1⟩:=I.base.there b o e hx
    exact free b o' (neC b o e hx) e1 (I.base.free b o e n hx)
  · obtain ⟨o',e1⟩:=I.base.there b o e hx
    exact there b o' (neC b o e hx) e1
  · obtain ⟨m1,e1⟩:=I.base.tbls b ps e
    obtain ⟨m2,e2⟩:=tbls b _ e1
    exact ⟨m1 ++ m2,by rw [e2,Array.append_assoc]⟩
  · obtain ⟨m,hn,hl⟩:=I.loc
    refine ⟨m,ns m hn,fun i x v e1 e2 e3=>?_⟩
    obtain ⟨u,r,l⟩:=hl i x v e1 e2 e3
    refine ⟨u,r,?_⟩
    rcases l with l | ⟨k,c,e,z⟩
    · exact .inl l
    · exact .inr ⟨k,c,e,cellK x c e _ z⟩
  · obtain ⟨v,z⟩:=I.cell x c e
    exact ⟨v,cellK x c e v z⟩
  · obtain ⟨m,⟨o,_,_,ho,_⟩,_⟩:=I.loc
    exact free _ o (fun z=>(hch _ z).2.1 rfl) ho I.free
  · obtain ⟨v,o,ho,hd⟩:=I.cell x c e
    exact free c o (fun z=>(hch c z).2.2.1 x c e rfl) ho (I.freeC x c e)
  · obtain ⟨e,n,ne,nf,d⟩:=I.pin p hp
    have nch:p.1∉ch:=fun z=>(hch p.1 z).2.2.2 p hp rfl
    exact ⟨keep p.1 p.2 ne nf nch e n,free p.1 p.2 nch e n,ne,nf,d⟩
theorem Inv.un {t':Nat} (I:Inv X pins σ H s) (u:Un X.fs [] H H' s.heap h') (hok:HOk X.prog X.w H' h'):Inv X pins σ H' { s with heap:=h',toks:=t' }:=by
  obtain ⟨m,⟨o,es,ep,ho,r⟩,_⟩:=id I.loc
  obtain ⟨sl,hL⟩:=u.any ho I.free (by simp)
  exact I.step (g':=s.gens) (d':=s.drawn) (ch:=[]) (fun _ z=>nomatch z) (fun b o _ hb _ e n=>u.keep b o e n hb (by simp)) (fun b o _ hb _ e n=>u.slot b o e n hb (by simp)) (fun b o _ e n=>u.free b o e n (by simp)) (fun b o _ e=>u.there b o e (by simp)) u.tups u.frzs u.tbls (fun m' hm=>by
    obtain ⟨o',es',ep',ho',r'⟩:=hm
    rw [ho] at ho';cases ho'
    exact ⟨_,es',ep',hL,r'⟩) hok I.bare
theorem Inv.call {g':Array GenState} {t':Nat} {d':Drawn} {ch:List Addr} (I:Inv X pins σ H s) (u:Un (frs X.stack) ch H H' s.heap h') (hok:HOk X.prog X.w H' h') (hg:AllBare g')
    (hch:∀ b∈ch,(b∈X.ex∨X.s₀.heap.objs.size≤b)∧b≠X.env.locals∧(∀ x c,X.env.cells.lookup x=some c→c≠b)∧∀ p∈X.pn ++ pins,p.1≠b) :
    Inv X pins σ H' { s with heap:=h',gens:=g',drawn:=d',toks:=t' }:=by
  obtain ⟨m,⟨o,es,ep,ho,r⟩,_⟩:=id I.loc
  obtain ⟨sl,hL⟩:=u.any ho I.free fun z=>(hch _ z).2.1 rfl
  exact I.step (ch:=ch) hch (fun b o hL hb hc e n=>u.keep b o e n (fun z=>(List.mem_cons.mp (I.stkSub b z)).elim hL hb) hc) (fun b o _ _ hc e n=>u.any e n hc) (fun b o hc e n=>u.free b o e n hc) (fun b o hc e=>u.there b o e hc) u.tups u.frzs u.tbls (fun m' hm=>by
    obtain ⟨o',es',ep',ho',r'⟩:=hm
    rw [ho] at ho';cases ho'
    exact ⟨_,es',ep',hL,r'⟩) hok hg
theorem Inv.turned {t':Nat} {it:Addr} (I:Inv X pins σ H s) (k:∀ b o,b≠it→s.heap.get? b=some o→h'.get? b=some o) (hn:H it=none) (hL:it≠X.env.locals)
    (h1:it∈X.ex∨X.s₀.heap.objs.size≤it) (h2:∀ x c,X.env.cells.lookup x=some c→c≠it) (h3:∀ p∈X.pn ++ pins,p.1≠it):Inv X pins σ H { s with heap:=h',toks:=t' }:=by
  have nit:∀ b u,H b=some u→b≠it:=fun b u e z=>by rw [z,hn] at e;cases e
  refine I.step (g':=s.gens) (d':=s.drawn) (ch:=[it]) (fun b hb=>?_) (fun b o _ _ hc e _=>k b o (fun z=>hc (by simp [z])) e) (fun b o _ _ hc e _=>⟨o.slots,k b o (fun z=>hc (by simp [z])) e⟩) (fun _ _ _ _ n=>n)
    (fun b o hc e=>⟨o,k b o (fun z=>hc (by simp [z])) e⟩) (fun _ _ e=>e) (fun _ _ _ e=>e) (fun b ps e=>⟨#[],by rw [e];simp⟩) (fun m hm=>?_) (fun b u e=>?_) I.bare
  · have e:b=it:=by simpa using hb
    subst e
    exact ⟨h1,hL,h2,h3⟩
  · obtain ⟨o,es,ep,ho,r⟩:=hm
    exact ⟨o,es,ep,k _ o (Ne.symm hL) ho,r⟩
  · refine (I.hok b u e).stay (fun c v hc q=>k c v ?_ q) (fun _ q=>q) fun _ _ q=>q
    rcases hc with z | z
    · rw [z];exact nit b u e
    · exact nit c _ z
theorem Inv.tok (I:Inv X pins σ H s) (t:Nat):Inv X pins σ H { s with toks:=t }:=I.un (h':=s.heap) (t':=t) Un.refl I.hok
theorem Inv.kept {t':Nat} (I:Inv X pins σ H s) (k:∀ b u,s.heap.get? b=some u→h'.get? b=some u):Inv X pins σ H { s with heap:=h',toks:=t' }:=I.un (Un.kept k) (I.hok.kept k)
theorem Inv.laid {a:Addr} {o:HO} {t':Nat} (I:Inv X pins σ H s) (k:∀ b u,s.heap.get? b=some u→h'.get? b=some u) (hp:s.heap.objs.size≤a) (new:Hl X.prog X.w (upd H a o) h' a o) :
    Inv X pins σ (upd H a o) { s with heap:=h',toks:=t' }:=I.un (Un.laid k hp (I.hok.fresh hp)) (I.hok.laid k hp new)
theorem Inv.write {x e:Addr} {o:HO} {t':Nat} (I:Inv X pins σ H s) (mu:Mut (H x)) (he:e=x∨H e=some (.own x)) (k:∀ b u,b≠e→s.heap.get? b=some u→h'.get? b=some u) (heo:∃ u,h'.get? e=some u)
    (new:Hl X.prog X.w (upd H x o) h' x o):Inv X pins σ (upd H x o) { s with heap:=h',toks:=t' }:=I.un (Un.write mu he k heo) (I.hok.write mu he k heo new)
theorem Inv.pins_of {pins':List (Addr × Obj)} (I:Inv X pins σ H s) (h:∀ p∈pins',s.heap.get? p.1=some p.2∧H p.1=none∧p.1≠X.env.locals∧p.1∉X.fs∧∀ v,p.2.data≠.cell v):Inv X pins' σ H s :=
  ⟨I.ok,I.os,I.bare,I.base,I.loc,I.cell,I.free,I.freeC,fun p hp=>(List.mem_append.mp hp).elim (fun z=>I.pin p (List.mem_append_left _ z)) (h p),I.hok,I.len⟩
theorem Ux {N:List Str} (hN:N.Nodup) {i j:Nat} {x:Str} (a:N[i]? = some x) (b:N[j]? = some x):i=j:=by
  obtain ⟨h1,e1⟩:=List.getElem?_eq_some_iff.mp a
  obtain ⟨h2,e2⟩:=List.getElem?_eq_some_iff.mp b
  exact (List.getElem_inj hN).mp (e1.trans e2.symm)
theorem Q5 {M:Model} {A:Around} {E:Value→Shared→Prop} {i:Nat} {x:Str} {v:V} {u:Value} {Q:Unit→Shared→Prop} (I:Inv X pins σ H s) (hN:X.N.Nodup) (hi:X.N[i]? = some x) (hx:Loc X.env.scope x) (r:RelV v u)
    (h:∀ s',Inv X pins (σ.set i (some v)) H s'→(∃ a,Heap.SameBut a s.heap s'.heap∧(a=X.env.locals∨X.env.cells.lookup x=some a))→Q () s') (hf:X.fn x=true∨X.env.scope.names.lookup x=some .local:=by first | exact .inl rfl | exact .inr rfl | assumption):wpAny M A (storeName X.env x u) Q E s:=by
  obtain ⟨m,hn,hl⟩:=id I.loc
  have hcls:(X.env.scope.kind == .class || (X.env.scope.kind == .module && X.env.locals != X.env.globals))=false:=by rw [I.ok.kind];rfl
  have hiσ:i < σ.length:=by rw [I.len];exact (List.getElem?_eq_some_iff.mp hi).1
  have cne:=I.cne
  have tracked:∀ {a:Addr} {h':Heap},(∃ o,s.heap.get? a=some o∧H a=none)→Heap.SameBut a s.heap h'→HOk X.prog X.w H h':=fun {a h'} ha hs b ob e=>by
    obtain ⟨_,_,hfree⟩:=ha
    refine (I.hok b ob e).stay (fun c w' hc q=>(hs.2 c ?_).trans q) (fun _ q=>q) fun _ _ q=>q
    rintro rfl
    rcases hc with rfl | hc
    · rw [hfree] at e;cases e
    · rw [hfree] at hc;cases hc
  rcases hx with hk | hk
  · refine wpAny_storeName_local hk hn (fun h' hn' hs=>?_) hcls
    obtain ⟨oL,_,_,hoL,_⟩:=id hn
    refine h _ ⟨I.ok,I.os,I.bare,⟨fun b o e n hb hx=>?_,fun b o e n hb hx=>?_,I.base.free,fun b o e hx=>?_,I.base.tups,I.base.frzs,I.base.tbls⟩,⟨_,hn',fun j y v' e1 e2 e3=>?_⟩,fun y c e=>?_,I.free,I.freeC,fun p hp=>?_,tracked ⟨oL,hoL,I.free⟩ hs,by simpa using I.len⟩ ⟨_,hs,.inl rfl⟩
    · exact (hs.2 b (Nat.ne_of_lt (Nat.lt_of_lt_of_le (Heap.lt_size e) I.ok.above))).trans (I.base.keep b o e n hb hx)
    · obtain ⟨sl,e1⟩:=I.base.slot b o e n hb hx
      exact ⟨sl,(hs.2 b (Nat.ne_of_lt (Nat.lt_of_lt_of_le (Heap.lt_size e) I.ok.above))).trans e1⟩
    · obtain ⟨o',e1⟩:=I.base.there b o e hx
      exact ⟨o',(hs.2 b (Nat.ne_of_lt (Nat.lt_of_lt_of_le (Heap.lt_size e) I.ok.above))).trans e1⟩
    · by_cases hj:j=i
      · subst hj
        rw [hi] at e1;cases e1
        rw [List.getElem?_set_self hiσ] at e2
        cases e2
        exact ⟨u,r,.inl ⟨hk,by simp⟩⟩
      · rw [List.getElem?_set_ne (Ne.symm hj)] at e2
        obtain ⟨u',r',q⟩:=hl j y v' e1 e2 e3
        refine ⟨u',r',?_⟩
        rcases q with ⟨k,e⟩ | ⟨k,c,e,z⟩
        · refine .inl ⟨k,?_⟩
          have:y≠x:=fun e=>hj (Ux hN e1 (e ▸ hi))
          simp [this,e]
        · exact .inr ⟨k,c,e,z.sameBut hs (cne y c e)⟩
    · obtain ⟨w',z⟩:=I.cell y c e
      exact ⟨w',z.sameBut hs (cne y c e)⟩
    · obtain ⟨e,n,ne,nf,d⟩:=I.pin p hp
      exact ⟨(hs.2 p.1 ne).trans e,n,ne,nf,d⟩
  · have hfn:X.fn x=true:=by
      rcases hf with z | z
      · exact z
      · rw [z] at hk;cases hk
    obtain ⟨c,hc⟩:=I.ok.has x (.inl hk)
    obtain ⟨w',z⟩:=I.cell x c hc
    refine wpAny_storeName_cell I.ok.kind hk hc z (fun h' hc' hs=>?_)
    obtain ⟨oc,hoc,hocd⟩:=id z
    refine h { s with heap:=h' } ⟨I.ok,I.os,I.bare,⟨fun b o e n hb hx=>?_,fun b o e n hb hx=>?_,I.base.free,fun b o e hx=>?_,I.base.tups,I.base.frzs,I.base.tbls⟩,⟨m,hn.sameBut hs (Ne.symm (cne x c hc)),fun j y v' e1 e2 e3=>?_⟩,fun y c' e=>?_,I.free,I.freeC,fun p hp=>?_,tracked ⟨oc,hoc,I.freeC x c hc⟩ hs,by simpa using I.len⟩ ⟨c,hs,.inr hc⟩
    · exact (hs.2 b (Nat.ne_of_lt (Nat.lt_of_lt_of_le (Heap.lt_size e) (I.ok.cab x c hfn hc)))).trans (I.base.keep b o e n hb hx)
    · obtain ⟨sl,e1⟩:=I.base.slot b o e n hb hx
      exact ⟨sl,(hs.2 b (Nat.ne_of_lt (Nat.lt_of_lt_of_le (Heap.lt_size e) (I.ok.cab x c hfn hc)))).trans e1⟩
    · obtain ⟨o',e1⟩:=I.base.there b o e hx
      exact ⟨o',(hs.2 b (Nat.ne_of_lt (Nat.lt_of_lt_of_le (Heap.lt_size e) (I.ok.cab x c hfn hc)))).trans e1⟩
    · by_cases hj:j=i
      · subst hj
        rw [hi] at e1;cases e1
        rw [List.getElem?_set_self hiσ] at e2
        cases e2
        exact ⟨u,r,.inr ⟨.inl hk,c,hc,hc'⟩⟩
      · rw [List.getElem?_set_ne (Ne.symm hj)] at e2
        obtain ⟨u',r',q⟩:=hl j y v' e1 e2 e3
        refine ⟨u',r',?_⟩
        rcases q with q | ⟨k,c',e,z'⟩
        · exact .inl q
        · refine .inr ⟨k,c',e,z'.sameBut hs ?_⟩
          rintro rfl
          exact hj (Ux hN e1 (I.ok.inj _ _ _ e hc ▸ hi))
    · by_cases hcc:c'=c
      · subst hcc;exact ⟨_,hc'⟩
      · obtain ⟨w2,z2⟩:=I.cell y c' e
        exact ⟨w2,z2.sameBut hs hcc⟩
    · obtain ⟨e,n,ne,nf,d⟩:=I.pin p hp
      refine ⟨(hs.2 p.1 ?_).trans e,n,ne,nf,d⟩
      intro q
      rw [q,hoc] at e
      have q':oc=p.2:=Option.some.inj e
      exact d w' (by rw [←q'];exact hocd)
theorem KR {M:Model} {A:Around} {E:Value→Shared→Prop} {i:Nat} {x:Str} {v:V} {u:Value} {Q:Unit→Shared→Prop} (I:Inv X pins σ H s) (hN:X.N.Nodup) (hi:X.N[i]? = some x) (hx:Loc X.env.scope x) (r:RelV v u)
    (h:∀ s',Inv X pins (σ.set i (some v)) H s'→Q () s') (hf:X.fn x=true∨X.env.scope.names.lookup x=some .local:=by first | exact .inl rfl | exact .inr rfl | assumption):wpAny M A (storeName X.env x u) Q E s :=
  Q5 I hN hi hx r (fun s' I' _=>h s' I') hf
theorem Inv.call' {s':Shared} {ch:List Addr} (I:Inv X pins σ H s) (ho:s'.os=s.os) (u:Un (frs X.stack) ch H H' s.heap s'.heap) (hok:HOk X.prog X.w H' s'.heap) (hg:AllBare s'.gens)
    (hch:∀ b∈ch,(b∈X.ex∨X.s₀.heap.objs.size≤b)∧b≠X.env.locals∧(∀ x c,X.env.cells.lookup x=some c→c≠b)∧∀ p∈X.pn ++ pins,p.1≠b):Inv X pins σ H' s':=by
  obtain ⟨h',g',d',t',o'⟩:=s'
  have e:o'=s.os:=ho
  subst e
  exact I.call (g':=g') (t':=t') (d':=d') u hok hg hch
end
noncomputable abbrev XK:=Value→Option Addr→Hp→Prop
noncomputable abbrev St:=List (Option V)
noncomputable abbrev VK:=V→Hp→Prop
noncomputable abbrev TE:=St→Hp→VK→Prop
noncomputable abbrev TT:=St→Hp→(Bool→Hp→Prop)→Prop
noncomputable abbrev TA:=St→Hp→(List V→Hp→Prop)→Prop
structure Ends where
  nx:St→Hp→Prop
  rt:VK
  bk:St→Hp→Prop:=fun _ _=>False
  ct:St→Hp→Prop:=fun _ _=>False
noncomputable abbrev TS:=Ends→St→Hp→Prop
noncomputable def EP (X:Cx) (pins:List (Addr × Obj)) (σ:St) (Q:VK) (u:Value) (s':Shared):Prop:=∃ v H',Inv X pins σ H' s'∧RelV v u∧Q v H'
noncomputable def TP (X:Cx) (pins:List (Addr × Obj)) (σ:St) (Q:Bool→Hp→Prop) (b:Bool) (s':Shared):Prop:=∃ H',Inv X pins σ H' s'∧Q b H'
noncomputable def AP (X:Cx) (pins:List (Addr × Obj)) (σ:St) (Q:List V→Hp→Prop) (us:List Value) (s':Shared):Prop:=∃ vs H',Inv X pins σ H' s'∧Vals vs us∧Q vs H'
noncomputable def SP (X:Cx) (pins:List (Addr × Obj)) (D:Ends) (f:Flow) (s':Shared):Prop :=
  match f with
  | .next=>∃ σ' H',Inv X pins σ' H' s'∧D.nx σ' H'
  | .brk=>∃ σ' H',Inv X pins σ' H' s'∧D.bk σ' H'
  | .cont=>∃ σ' H',Inv X pins σ' H' s'∧D.ct σ' H'
  | .ret u=>∃ v σ' H',Inv X pins σ' H' s'∧RelV v u∧D.rt v H'
noncomputable def PE (X:Cx) (e:Expr) (t:TE):Prop :=
  ∀ (pins:List (Addr × Obj)) (s:Shared) (σ:St) (H:Hp) (Q:VK),Inv X pins σ H s→t σ H Q→wpAny (model X.prog X.w) X.A (eval e X.env) (EP X pins σ Q) X.xe s
noncomputable def PT (X:Cx) (e:Expr) (t:TT):Prop :=
  ∀ (pins:List (Addr × Obj)) (s:Shared) (σ:St) (H:Hp) (Q:Bool→Hp→Prop),Inv X pins σ H s→t σ H Q→wpAny (model X.prog X.w) X.A (isTrue e X.env (eval e X.env)) (TP X pins σ Q) X.xe s
noncomputable def PW (X:Cx) (e:Expr) (t:TT):Prop :=
  ∀ (whole:Sem Value) (pins:List (Addr × Obj)) (s:Shared) (σ:St) (H:Hp) (Q:Bool→Hp→Prop),Inv X pins σ H s→t σ H Q→wpAny (model X.prog X.w) X.A (isTrue e X.env whole) (TP X pins σ Q) X.xe s
theorem PW.pt {X:Cx} {e:Expr} {t:TT} (h:PW X e t):PT X e t:=h _
noncomputable def PA (X:Cx) (es:List Expr) (t:TA):Prop :=
  ∀ (pos:Pos) (pins:List (Addr × Obj)) (s:Shared) (σ:St) (H:Hp) (Q:List V→Hp→Prop),Inv X pins σ H s→t σ H Q→wpAny (model X.prog X.w) X.A (spliced (backTo pos (starEach es X.env))) (AP X pins σ Q) X.xe s
noncomputable def PS (X:Cx) (st:Stmt) (t:TS):Prop :=
  ∀ (pins:List (Addr × Obj)) (s:Shared) (σ:St) (H:Hp) (D:Ends),Inv X pins σ H s→t D σ H→wpAny (model X.prog X.w) X.A (exec st X.env) (SP X pins D) X.xe s
noncomputable def PSs (X:Cx) (st:List Stmt) (t:TS):Prop :=
  ∀ (pins:List (Addr × Obj)) (s:Shared) (σ:St) (H:Hp) (D:Ends),Inv X pins σ H s→t D σ H→wpAny (model X.prog X.w) X.A (execs st X.env) (SP X pins D) X.xe s
theorem thn {α:Type} {t:Sem α} {Q Q':α→Shared→Prop} {M:Model} {A:Around} {E:Value→Shared→Prop} {s:Shared} (h:wpAny M A t Q E s) (hQ:∀ a s,Q a s→Q' a s):wpAny M A t Q' E s:=wpAny_mono h hQ fun _ _ x=>x
end L2
namespace L2
open PySem PySem.Spec PyProof.Rows
section
variable {X:Cx}
theorem bin {a b:Expr} {ta tb:TE} (ha:PE X a ta) (hb:PE X b tb) {pins:List (Addr × Obj)} {s:Shared} {σ:St} {H:Hp} {R:V→V→Hp→Prop} (I:Inv X pins σ H s) (h:ta σ H fun x H1=>tb σ H1 fun y H2=>R x y H2)
    {α:Type} {Q:α→Shared→Prop} {f:Value→Value→Sem α}
    (hf:∀ v u s2 x y H2,Inv X pins σ H2 s2→RelV x v→RelV y u→R x y H2→wpAny (model X.prog X.w) X.A (f v u) Q X.xe s2) :
    wpAny (model X.prog X.w) X.A (eval a X.env) (fun v s₁=>wpAny (model X.prog X.w) X.A (eval b X.env) (fun u s₂=>wpAny (model X.prog X.w) X.A (f v u) Q X.xe s₂) X.xe s₁) X.xe s:=by
  refine thn (ha pins s σ H _ I h) fun v s1 ⟨x,H1,I1,r1,q1⟩=>?_
  refine thn (hb pins s1 σ H1 _ I1 q1) fun u s2 ⟨y,H2,I2,r2,q2⟩=>?_
  exact hf v u s2 x y H2 I2 r1 r2 q2
noncomputable def AmD (i:Nat):TE:=fun σ H Q=>∃ v,σ[i]? = some (some v)∧Q v H
noncomputable def tC (v:V):TE:=fun _ H Q=>Q v H
theorem Hy {i:Nat} {x:Str} {pos:Pos} (hN:X.N[i]? = some x) (hv:Vis X.env.scope x) (hd:(x == ("__debug__":Str))=false:=by decide) (hcd:(x == ("__classdict__":Str))=false:=by decide):PE X (.Name x pos) (AmD i):=by
  intro pins s σ H Q I h
  obtain ⟨v,e,h⟩:=h
  obtain ⟨m,hn,hl⟩:=I.loc
  obtain ⟨u,r,l⟩:=hl i x v hN e hv
  have fin:EP X pins σ Q u s:=⟨v,H,I,r,h⟩
  rcases l with ⟨hk,hm⟩ | ⟨hk,c,hc,hcell⟩
  · exact wpAny_Name (wpAny_loadName_local I.ok.kind hk hn hm fin) hd
  · rcases hk with hk | hk
    · exact wpAny_Name (wpAny_loadName_cell I.ok.kind hk hc hcell fin) hd
    · exact wpAny_Name (wpAny_loadName_free I.ok.kind hk hc hcell fin hcd) hd
theorem AfN {i j pos}:PE X (.Constant (.int i) j pos) (tC (.int i)):=fun _ _ _ H _ I h=>wpAny_Constant_int ⟨.int i,H,I.tok _,⟨_,rfl⟩,h⟩
theorem AjT {b j pos}:PE X (.Constant (.bool b) j pos) (tC (.bl b)):=fun _ _ _ H _ I h=>Constant_bool ⟨.bl b,H,I,rfl,h⟩
theorem AfQ {j pos}:PE X (.Constant .none j pos) (tC .non):=fun _ _ _ H _ I h=>Constant_none ⟨.non,H,I,rfl,h⟩
theorem AfS {x j pos}:PE X (.Constant (.str x) j pos) (tC (.str x)):=fun _ _ _ H _ I h=>Calls.Constant_str ⟨.str x,H,I.tok _,⟨_,rfl⟩,h⟩
noncomputable def Gl (X:Cx) (x:Str):Prop:=X.env.kindOf x=some .globalImplicit
theorem Tc {E:Value→Shared→Prop} {pins:List (Addr × Obj)} {s:Shared} {σ:St} {H:Hp} {x:Str} {u:Value} {pos:Pos} {Q:Value→Shared→Prop} (I:Inv X pins σ H s) (hg:Gl X x) (hm:X.mg x=some u) (h:Q u s)
    (hd:(x == ("__debug__":Str))=false:=by decide):wpAny (model X.prog X.w) X.A (eval (.Name x pos) X.env) Q E s :=
  Calls.Name_function_global I.ok.kind hg (Calls.loadGlobal_global (by rw [I.ok.glob];exact I.mod.glob.keeps I.bk) hm h) hd
theorem Ql {E:Value→Shared→Prop} {pins:List (Addr × Obj)} {s:Shared} {σ:St} {H:Hp} {x:Str} {u:Value} {pos:Pos} {Q:Value→Shared→Prop} (I:Inv X pins σ H s) (hg:Gl X x) (hm:X.mg x=none) (hv:bootBuiltins x=some u) (h:Q u s)
    (hn:x≠"__name__":=by decide) (hd:(x == ("__debug__":Str))=false:=by decide):wpAny (model X.prog X.w) X.A (eval (.Name x pos) X.env) Q E s:=by
  obtain ⟨mb,h1,h2⟩:=I.mod.blt
  exact Calls.Name_function_global I.ok.kind hg (Calls.loadGlobal_builtin (by rw [I.ok.glob];exact I.mod.glob.keeps I.bk) hm (by rw [I.ok.blt];exact h1.keeps I.bk) ((h2 x hn).trans hv) h) hd
theorem Xb {x:Str} {v:V} {u:Value} {pos:Pos} (hg:Gl X x) (hm:X.mg x=some u) (r:RelV v u) (hd:(x == ("__debug__":Str))=false:=by decide):PE X (.Name x pos) (tC v) :=
  fun _ _ _ H _ I h=>Tc I hg hm ⟨v,H,I,r,h⟩ hd
theorem Acl {x:Str} {v:V} {u:Value} {pos:Pos} (hg:Gl X x) (hm:X.mg x=none) (hv:bootBuiltins x=some u) (r:RelV v u) (hn:x≠"__name__":=by decide) (hd:(x == ("__debug__":Str))=false:=by decide):PE X (.Name x pos) (tC v) :=
  fun _ _ _ H _ I h=>Ql I hg hm hv ⟨v,H,I,r,h⟩ hn hd
variable {a b:Expr} {ta tb:TE} {pos:Pos}
noncomputable def PC (X:Cx) (op:CmpOp) (a b:Expr) (t:TE):Prop :=
  ∀ (pins:List (Addr × Obj)) (s:Shared) (σ:St) (H:Hp) (Q:VK),Inv X pins σ H s→t σ H Q →
    wpAny (model X.prog X.w) X.A (eval a X.env) (fun v s₁=>wpAny (model X.prog X.w) X.A (eval b X.env) (fun u s₂=>wpAny (model X.prog X.w) X.A (compareOp op v u) (EP X pins σ Q) X.xe s₂) X.xe s₁) X.xe s
noncomputable def tB (t:TE):TT:=fun σ H Q=>t σ H fun x H1=>∃ c,x=.bl c∧Q c H1
theorem AkZ {op:CmpOp} {t:TE} (h:PC X op a b t) (h1:behindInMarks op b=false:=by first | exact nobehind _ (by decide) (by decide) | rfl):PT X (.Compare a [op] [b] pos) (tB t):=by
  intro pins s σ H Q I hw
  refine wpAny_isTrue_Compare1 (thn (h pins s σ H _ I hw) fun v s1 h1=>thn h1 fun u s2 h2=>thn h2 fun c s3 ⟨x,H1,I1,r1,q1⟩=>?_) h1
  obtain ⟨d,rfl,q⟩:=q1
  cases r1
  exact wpAny_truthy_bool ⟨H1,I1,q⟩
theorem AfW {e:Expr} {t:TE} (h:PE X e t) (he:∀ whole,isTrue e X.env whole=(do let v ←whole;standAt e.pos;holding [v] (truthy v)):=by intro _;rfl):PT X e (tB t):=by
  intro pins s σ H Q I hw
  refine isTrue_plain (thn (h pins s σ H _ I hw) fun v s1 ⟨x,H1,I1,r1,q1⟩=>?_) (he _)
  obtain ⟨d,rfl,q⟩:=q1
  cases r1
  exact wpAny_truthy_bool ⟨H1,I1,q⟩
variable {tA tB':TT} {rest:List Expr}
noncomputable def Akf (t u:TT):TT:=fun σ H Q=>t σ H fun c H1=>if c=true then u σ H1 Q else Q false H1
noncomputable def tOr (t u:TT):TT:=fun σ H Q=>t σ H fun c H1=>if c=true then Q true H1 else u σ H1 Q
noncomputable def AkL (t:TT):TT:=fun σ H Q=>t σ H fun c H1=>Q (!c) H1
theorem Acn (ha:PT X a tA):PW X (.BoolOp .And [a] pos) tA:=by
  intro wh pins s σ H Q I h
  refine isTrue_and (thn (ha pins s σ H Q I h) fun c s1 e=>?_)
  cases c with
  | true=>exact isTrue_and_nil e
  | false=>exact e
theorem Afk (ha:PT X a tA):PW X (.BoolOp .Or [a] pos) tA:=by
  intro wh pins s σ H Q I h
  refine isTrue_or (thn (ha pins s σ H Q I h) fun c s1 e=>?_)
  cases c with
  | false=>exact isTrue_or_nil e
  | true=>exact e
theorem AfR (ha:PT X a tA) (hb:PW X (.BoolOp .And (b :: rest) pos) tB'):PW X (.BoolOp .And (a :: b :: rest) pos) (Akf tA tB'):=by
  intro wh pins s σ H Q I h
  refine isTrue_and (thn (ha pins s σ H _ I h) fun c s1 ⟨H1,I1,q1⟩=>?_)
  cases c with
  | true=>exact hb wh pins s1 σ H1 Q I1 q1
  | false=>exact ⟨H1,I1,q1⟩
theorem Ajj (ha:PT X a tA) (hb:PW X (.BoolOp .Or (b :: rest) pos) tB'):PW X (.BoolOp .Or (a :: b :: rest) pos) (tOr tA tB'):=by
  intro wh pins s σ H Q I h
  refine isTrue_or (thn (ha pins s σ H _ I h) fun c s1 ⟨H1,I1,q1⟩=>?_)
  cases c with
  | true=>exact ⟨H1,I1,q1⟩
  | false=>exact hb wh pins s1 σ H1 Q I1 q1
theorem Ago (ha:PT X a tA):PT X (.UnaryOp .Not a pos) (AkL tA):=by
  intro pins s σ H Q I h
  exact isTrue_not (ha pins s σ H (fun c H1=>Q (!c) H1) I h)
noncomputable def AgY (ta tb:TE):TE:=fun σ H Q=>ta σ H fun x H1=>∃ c,x=.bl c∧if c=true then tb σ H1 Q else Q (.bl false) H1
noncomputable def Ak4 (ta tb:TE):TE:=fun σ H Q=>ta σ H fun x H1=>∃ c,x=.bl c∧if c=true then Q (.bl true) H1 else tb σ H1 Q
noncomputable def Ajg (ta:TE):TE:=fun σ H Q=>ta σ H fun x H1=>∃ c,x=.bl c∧Q (.bl (!c)) H1
theorem Agg {op} {t:TE} (h:PE X a t):PE X (.BoolOp op [a] pos) t:=fun pins s σ H Q I hw=>BoolOp_one (h pins s σ H Q I hw)
theorem AfJ (ha:PE X a ta) (hb:PE X (.BoolOp .And (b :: rest) pos) tb):PE X (.BoolOp .And (a :: b :: rest) pos) (AgY ta tb):=by
  intro pins s σ H Q I h
  refine BoolOp_and (thn (ha pins s σ H _ I h) fun v s1 ⟨x,H1,I1,r1,q1⟩=>?_)
  obtain ⟨c,rfl,q1⟩:=q1
  cases r1
  refine wpAny_truthy_bool ?_
  cases c with
  | true=>exact hb pins s1 σ H1 Q I1 q1
  | false=>exact ⟨.bl false,H1,I1,rfl,q1⟩
theorem Ajo (ha:PE X a ta) (hb:PE X (.BoolOp .Or (b :: rest) pos) tb):PE X (.BoolOp .Or (a :: b :: rest) pos) (Ak4 ta tb):=by
  intro pins s σ H Q I h
  refine BoolOp_or (thn (ha pins s σ H _ I h) fun v s1 ⟨x,H1,I1,r1,q1⟩=>?_)
  obtain ⟨c,rfl,q1⟩:=q1
  cases r1
  refine wpAny_truthy_bool ?_
  cases c with
  | false=>exact hb pins s1 σ H1 Q I1 q1
  | true=>exact ⟨.bl true,H1,I1,rfl,q1⟩
theorem Af7 (ha:PE X a ta):PE X (.UnaryOp .Not a pos) (Ajg ta):=by
  intro pins s σ H Q I h
  refine UnaryOp_ (thn (ha pins s σ H _ I h) fun v s1 ⟨x,H1,I1,r1,q1⟩=>?_)
  obtain ⟨c,rfl,q1⟩:=q1
  cases r1
  exact not_of (wpAny_truthy_bool ⟨.bl (!c),H1,I1,rfl,q1⟩)
end
end L2
namespace L2
open PySem PySem.Spec PyProof.Rows
noncomputable def SqL (K:PySem.W.Frag) (H:Hp) (a:Addr) (xs:List V):Prop :=
  Rd H a (.lst xs) ∨
    ∃ (o:Obj) (its:Array Value) (n:Nat),K.lookup a=some o∧o.cls=.type "list"∧o.dict=none∧o.data=.seq its n∧its.size≤sizeLine∧Vals xs its.toList
noncomputable def SqT (K:PySem.W.Frag) (H:Hp) (a:Addr) (xs:List V):Prop :=
  Rd H a (.tup xs) ∨
    ∃ (o:Obj) (its:Array Value) (n:Nat),K.lookup a=some o∧o.cls=.type "tuple"∧o.data=.seq its n∧its.size≤sizeLine∧Vals xs its.toList
noncomputable def Ale:Value→Option V
  | .none=>some .non
  | .bool b=>some (.bl b)
  | .int i _=>some (.int i)
  | .str x _=>some (.str x)
  | .bytes b _=>some (.byt b)
  | .float b _=>some (.flt b)
  | .ref a=>some (.ref a)
  | .type n=>some (.ty n)
  | _=>none
theorem RelV.abs {x:V} {u:Value} (r:RelV x u):Ale u=some x:=by
  cases x with
  | non=>cases r;rfl
  | bl _=>cases r;rfl
  | int _=>obtain ⟨t,rfl⟩:=r;rfl
  | str _=>obtain ⟨t,rfl⟩:=r;rfl
  | byt _=>obtain ⟨t,rfl⟩:=r;rfl
  | flt _=>obtain ⟨t,rfl⟩:=r;rfl
  | ref _=>cases r;rfl
  | ty _=>cases r;rfl
theorem RelV.inj {x y:V} {u:Value} (r:RelV x u) (q:RelV y u):x=y:=Option.some.inj (r.abs.symm.trans q.abs)
theorem Vals.inj:∀ {xs ys:List V} {us:List Value},Vals xs us→Vals ys us→xs=ys
  | _,_,_,.nil,.nil=>rfl
  | _,_,_,.cons r t,.cons r' t'=>by rw [r.inj r',Vals.inj t t']
section
variable {X:Cx} {pins:List (Addr × Obj)} {σ:St} {H:Hp} {s:Shared} {a:Addr} {xs ys:List V}
theorem SqL.of {K:PySem.W.Frag} (h:H a=some (.lst xs)):SqL K H a xs:=.inl (.inl h)
theorem SqT.of {K:PySem.W.Frag} (h:H a=some (.tup xs)):SqT K H a xs:=.inl (.inl h)
theorem Inv.list (I:Inv X pins σ H s) (h:SqL X.K H a xs):∃ its:List Value,Vals xs its∧PlainL s.heap a its.toArray∧xs.length≤sizeLine:=by
  rcases h with h | ⟨o,its,n,hk,hc,hd,hs,hz,r⟩
  · obtain ⟨z,its,n,r,e⟩:=h.ok I.hok
    exact ⟨its,r,⟨_,n,e,rfl,rfl,rfl⟩,z⟩
  · refine ⟨its.toList,r,⟨o,n,I.kIn a o hk,hc,hd,by simpa using hs⟩,?_⟩
    have e:=r.length
    simp only [Array.length_toList] at e
    omega
theorem Inv.tuple (I:Inv X pins σ H s) (h:SqT X.K H a xs):∃ its:List Value,Vals xs its∧IsTup s.heap a its.toArray∧xs.length≤sizeLine:=by
  rcases h with h | ⟨o,its,n,hk,hc,hs,hz,r⟩
  · obtain ⟨z,its,r,p⟩:=h.ok I.hok
    exact ⟨its,r,p,z⟩
  · refine ⟨its.toList,r,⟨o,I.kIn a o hk,hc,n,by simpa using hs⟩,?_⟩
    have e:=r.length
    simp only [Array.length_toList] at e
    omega
theorem Inv.list_inj (I:Inv X pins σ H s) (h:SqL X.K H a xs) (h':SqL X.K H a ys):xs=ys:=by
  obtain ⟨its,r,⟨o,n,e,_,_,d⟩,_⟩:=I.list h
  obtain ⟨its',r',⟨o',n',e',_,_,d'⟩,_⟩:=I.list h'
  rw [e] at e';cases e'
  rw [d] at d'
  injection d' with d1 _
  have:its=its':=by simpa using congrArg Array.toList d1
  subst this
  exact r.inj r'
theorem Inv.tuple_inj (I:Inv X pins σ H s) (h:SqT X.K H a xs) (h':SqT X.K H a ys):xs=ys:=by
  obtain ⟨its,r,⟨o,e,_,n,d⟩,_⟩:=I.tuple h
  obtain ⟨its',r',⟨o',e',_,n',d'⟩,_⟩:=I.tuple h'
  rw [e] at e';cases e'
  rw [d] at d'
  injection d' with d1 _
  have:its=its':=by simpa using congrArg Array.toList d1
  subst this
  exact r.inj r'
end
noncomputable abbrev Cx.wish (X:Cx) (E:Value→Shared→Prop):Cx:={ X with xe:=E }
noncomputable abbrev Cx.nox (X:Cx):Cx:=X.wish fun _ _=>False
theorem Cx.Ok.wish {X:Cx} (ok:X.Ok) (E:Value→Shared→Prop):(X.wish E).Ok :=
  ⟨ok.mod,ok.kind,ok.glob,ok.blt,ok.above,ok.inj,ok.has,ok.cab,ok.hd,ok.frames,ok.stk,ok.exf,ok.bs,ok.bsz,ok.noex,ok.exfs,ok.funs,ok.frf⟩
theorem Cx.Ok.unwish {X:Cx} {E:Value→Shared→Prop} (ok:(X.wish E).Ok):X.Ok :=
  ⟨ok.mod,ok.kind,ok.glob,ok.blt,ok.above,ok.inj,ok.has,ok.cab,ok.hd,ok.frames,ok.stk,ok.exf,ok.bs,ok.bsz,ok.noex,ok.exfs,ok.funs,ok.frf⟩
section
variable {X:Cx} {pins:List (Addr × Obj)} {σ:St} {H:Hp} {s:Shared} {E:Value→Shared→Prop}
theorem Inv.wish (I:Inv X pins σ H s) (E:Value→Shared→Prop):Inv (X.wish E) pins σ H s:=⟨I.ok.wish E,I.os,I.bare,I.base,I.loc,I.cell,I.free,I.freeC,I.pin,I.hok,I.len⟩
theorem Inv.unwish (I:Inv (X.wish E) pins σ H s):Inv X pins σ H s:=⟨I.ok.unwish,I.os,I.bare,I.base,I.loc,I.cell,I.free,I.freeC,I.pin,I.hok,I.len⟩
theorem SP.unwish {D:Ends} {f:Flow} {s':Shared} (h:SP (X.wish E) pins D f s'):SP X pins D f s':=by
  cases f with
  | next=>obtain ⟨σ',H',I,q⟩:=h;exact ⟨σ',H',I.unwish,q⟩
  | brk=>obtain ⟨σ',H',I,q⟩:=h;exact ⟨σ',H',I.unwish,q⟩
  | cont=>obtain ⟨σ',H',I,q⟩:=h;exact ⟨σ',H',I.unwish,q⟩
  | ret u=>obtain ⟨v,σ',H',I,r,q⟩:=h;exact ⟨v,σ',H',I.unwish,r,q⟩
theorem PSs.nox {st:List Stmt} {t:TS} (h:PSs X.nox st t):PSs X st t:=fun pins s σ H D I hw =>
  wpAny_mono (h pins s σ H D (I.wish _) hw) (fun _ _ q=>q.unwish) fun _ _ z=>False.elim z
end
section
variable {X:Cx} {st:Stmt} {rest:List Stmt} {t u:TS} {e:Expr} {te:TE} {pos:Pos}
noncomputable def Ajd:TS:=fun D σ H=>D.nx σ H
noncomputable def AlR (t u:TS):TS:=fun D σ H=>t { D with nx:=u D } σ H
theorem AcW:PSs X [] Ajd:=fun _ _ σ H _ I h=>wpAny_execs_nil ⟨σ,H,I,h⟩
theorem O5 (h1:PS X st t) (h2:PSs X rest u):PSs X (st :: rest) (AlR t u):=by
  intro pins s σ H D I h
  refine wpAny_execs_cons (thn (h1 pins s σ H { D with nx:=u D } I h) fun f s1 q=>?_)
  cases f with
  | next =>
    obtain ⟨σ',H',I',q⟩:=q
    exact h2 pins s1 σ' H' D I' q
  | ret v=>exact q
  | brk=>exact q
  | cont=>exact q
theorem R7 (h1:PS X st t):PSs X [st] t:=by
  intro pins s σ H D I h
  refine wpAny_execs_cons (thn (h1 pins s σ H D I h) fun f s1 q=>?_)
  cases f with
  | next=>exact wpAny_execs_nil q
  | ret v=>exact q
  | brk=>exact q
  | cont=>exact q
theorem Inv.quiet {pins:List (Addr × Obj)} {σ:St} {H:Hp} {s:Shared} (I:Inv X pins σ H s):interactive X.env=false:=by simp [interactive,I.ok.kind]
noncomputable def AiG (te:TE):TS:=fun D σ H=>te σ H fun _ H1=>D.nx σ H1
theorem RW (he:PE X e te) (hs:swapsWith e none pos.line X.env=pure false:=by rfl):PS X (.Expr e pos) (AiG te):=by
  intro pins s σ H D I h
  exact wpAny_Expr_any (thn (he pins s σ H _ I h) fun v s1 ⟨x,H1,I1,r1,q1⟩=>⟨σ,H1,I1,q1⟩) I.quiet hs
noncomputable def Al4 (te:TE):TS:=fun D σ H=>te σ H D.rt
theorem Afo (he:PE X e te):PS X (.Return (some e) pos) (Al4 te):=by
  intro pins s σ H D I h
  exact wpAny_Return_some (thn (he pins s σ H _ I h) fun v s1 ⟨x,H1,I1,r1,q1⟩=>⟨x,σ,H1,I1,r1,q1⟩)
noncomputable def AkE (c:TT) (t u:TS):TS:=fun D σ H=>c σ H fun b H1=>if b=true then t D σ H1 else u D σ H1
theorem AiX {c:Expr} {a b:List Stmt} {tc:TT} (hc:PT X c tc) (ha:PSs X a t) (hb:PSs X b u):PS X (.If c a b pos) (AkE tc t u):=by
  intro pins s σ H D I h
  refine wpAny_If (thn (hc pins s σ H _ I h) fun d s1 ⟨H1,I1,q1⟩=>?_)
  cases d with
  | true=>exact ha pins s1 σ H1 D I1 q1
  | false=>exact hb pins s1 σ H1 D I1 q1
noncomputable def Agk:TS:=fun _ _ _=>False
theorem Zv:PS X st Agk:=fun _ _ _ _ _ _ h=>h.elim
end
noncomputable abbrev TG:=V→St→Hp→(St→Hp→Prop)→Prop
noncomputable abbrev TGs:=List V→St→Hp→(St→Hp→Prop)→Prop
noncomputable def PG (X:Cx) (target:Expr) (t:TG):Prop :=
  ∀ (pins:List (Addr × Obj)) (s:Shared) (σ:St) (H:Hp) (v:V) (u:Value) (Q:St→Hp→Prop),Inv X pins σ H s→RelV v u→t v σ H Q →
    wpAny (model X.prog X.w) X.A (assign target X.env u) (fun _ s'=>∃ σ' H',Inv X pins σ' H' s'∧Q σ' H') X.xe s
noncomputable def PGs (X:Cx) (ts:List Expr) (t:TGs):Prop :=
  ∀ (pins:List (Addr × Obj)) (s:Shared) (σ:St) (H:Hp) (vs:List V) (us:List Value) (Q:St→Hp→Prop),Inv X pins σ H s→Vals vs us→t vs σ H Q →
    wpAny (model X.prog X.w) X.A (assignInOrder ((assignEach ts X.env).map (·.2)) us) (fun _ s'=>∃ σ' H',Inv X pins σ' H' s'∧Q σ' H') X.xe s
noncomputable abbrev AfM:=V→V→V→Hp→(Hp→Prop)→Prop
noncomputable def Ai5 (X:Cx) (t:AfM):Prop :=
  ∀ (pins:List (Addr × Obj)) (s:Shared) (σ:St) (H:Hp) (o i v:V) (ov iv u:Value) (Q:Hp→Prop),Inv X pins σ H s→RelV o ov→RelV i iv→RelV v u→t o i v H Q →
    wpAny (model X.prog X.w) X.A (setItem ov iv u) (fun _ s'=>∃ H',Inv X pins σ H' s'∧Q H') X.xe s
section
variable {X:Cx} {pos:Pos}
noncomputable def W7 (i:Nat):TG:=fun v σ H Q=>Q (σ.set i (some v)) H
theorem RQ {i:Nat} {x:Str} (hN:X.N.Nodup) (hi:X.N[i]? = some x) (hx:Loc X.env.scope x) (hf:X.fn x=true∨X.env.scope.names.lookup x=some .local:=by first | exact .inl rfl | exact .inr rfl | assumption):PG X (.Name x pos) (W7 i):=by
  intro pins s σ H v u Q I r h
  exact wpAny_assign_Name (KR I hN hi hx r (fun s' I'=>⟨_,H,I',h⟩) hf)
noncomputable def Ams:TGs:=fun vs σ H Q=>vs=[]∧Q σ H
noncomputable def AjF (t:TG) (u:TGs):TGs:=fun vs σ H Q=>∃ v r,vs=v :: r∧t v σ H fun σ' H'=>u r σ' H' Q
theorem AbZ:PGs X [] Ams:=by
  intro pins s σ H vs us Q I r h
  obtain ⟨e,h⟩:=h
  subst e
  cases r
  exact assignInOrder_nil ⟨σ,H,I,h⟩
theorem AaB {e:Expr} {es:List Expr} {t:TG} {u:TGs} (h1:PG X e t) (h2:PGs X es u)
    (hs:(assignEach (e :: es) X.env).map (·.2)=assign e X.env :: (assignEach es X.env).map (·.2):=by rfl):PGs X (e :: es) (AjF t u):=by
  intro pins s σ H vs us Q I r h
  obtain ⟨v,vr,e1,h⟩:=h
  subst e1
  cases r with
  | cons r rr =>
    rw [hs]
    refine assignInOrder_cons (thn (h1 pins s σ H _ _ _ I r h) fun _ s1 ⟨σ1,H1,I1,q1⟩=>?_)
    exact h2 pins s1 σ1 H1 _ _ Q I1 rr q1
noncomputable def Ake (K:PySem.W.Frag) (n:Nat) (t:TGs):TG:=fun v σ H Q=>∃ a xs,v=.ref a∧SqT K H a xs∧xs.length=n∧t xs σ H Q
theorem Afb {es:List Expr} {k:Nat} {t:TGs} {n:Nat} (hc:X.calm=true) (h:PGs X es t)
    (hn:(assignEach es X.env).length=n:=by rfl) (hst:(assignEach es X.env).findIdx? (·.1)=none:=by rfl):PG X (.Tuple es k pos) (Ake X.K n t):=by
  intro pins s σ H v u Q I r hw
  obtain ⟨a,xs,e1,hq,hl,hw⟩:=hw
  subst e1
  cases r
  obtain ⟨its,rv,ht,hz⟩:=I.tuple hq
  refine assign_Tuple_tuple (I.ok.hd hc) ht (by simp [hn,←hl,rv.length]) hst fun h' hx=>?_
  have I1:Inv X pins σ H { s with heap:=h' }:=I.kept (t':=s.toks) fun b o e=>hx b o (Nat.ne_of_lt (Heap.lt_size e)) e
  exact h pins _ σ H xs _ Q I1 (by simpa using rv) hw
noncomputable def AmE (to ti:TE) (t:AfM):TG:=fun v σ H Q=>to σ H fun o H1=>ti σ H1 fun i H2=>t o i v H2 fun H3=>Q σ H3
theorem AfV {o i:Expr} {to ti:TE} {t:AfM} (ho:PE X o to) (hi:PE X i ti) (hs:Ai5 X t)
    (ha:∀ v,assign (.Subscript o i pos) X.env v=(do
      let ov ←holding [v] (eval o X.env)
      let iv ←holding [v,ov] (eval i X.env)
      standAt pos
      holding [v,ov,iv] (setItem ov iv v)
      release [v,ov,iv] []):=by intro _;rfl):PG X (.Subscript o i pos) (AmE to ti t):=by
  intro pins s σ H v u Q I r h
  rw [ha]
  refine wpAny_bind (wpAny_holding (thn (ho pins s σ H _ I h) fun ov s1 ⟨x,H1,I1,r1,q1⟩=>?_))
  refine wpAny_bind (wpAny_holding (thn (hi pins s1 σ H1 _ I1 q1) fun iv s2 ⟨y,H2,I2,r2,q2⟩=>?_))
  refine wpAny_bind (wpAny_standAt (wpAny_bind (wpAny_holding (thn (hs pins s2 σ H2 x y v ov iv u _ I2 r1 r2 r q2) fun _ s3 ⟨H3,I3,q3⟩=>?_))))
  exact wpAny_release ⟨σ,H3,I3,q3⟩
noncomputable def Air (te:TE) (g:TG):TS:=fun D σ H=>te σ H fun x H1=>g x σ H1 D.nx
theorem AaA {tg e:Expr} {te:TE} {g:TG} (he:PE X e te) (hg:PG X tg g) (hs:swapsWithSole [tg] e pos.line X.env=pure false:=by rfl) (hw:swappedStores [tg] e X.env=pure none:=by rfl)
    (h1:(assignEach [tg] X.env).map (·.2)=[assign tg X.env]:=by rfl):PS X (.Assign [tg] e pos) (Air te g):=by
  intro pins s σ H D I h
  refine wpAny_Assign_stores (thn (he pins s σ H _ I h) fun v s1 ⟨x,H1,I1,r1,q1⟩=>?_) hs hw
  rw [h1]
  exact thn (hg pins s1 σ H1 x v _ I1 r1 q1) fun _ s2 q=>q
theorem V8 {i:Nat} {x:Str} {e:Expr} {te:TE} {pos':Pos} (hN:X.N.Nodup) (hi:X.N[i]? = some x) (hx:Loc X.env.scope x) (he:PE X e te) (hs:swapsWith e (some (.Name x pos')) pos.line X.env=pure false:=by rfl) (hf:X.fn x=true∨X.env.scope.names.lookup x=some .local:=by first | exact .inl rfl | exact .inr rfl | assumption) :
    PS X (.Assign [.Name x pos'] e pos) (Air te (W7 i)):=by
  intro pins s σ H D I h
  refine wpAny_Assign_Name (thn (he pins s σ H _ I h) fun v s1 ⟨y,H1,I1,r1,q1⟩=>?_) hs
  exact KR I1 hN hi hx r1 (fun s2 I2=>⟨_,H1,I2,q1⟩) hf
noncomputable def Alo (i j:Nat) (ta:TA):TS:=fun D σ H=>ta σ H fun vs H1=>∃ v w,vs=[v,w]∧D.nx ((σ.set i (some v)).set j (some w)) H1
theorem AeS {i j:Nat} {x y:Str} {a b:Expr} {ta:TA} {px py pt:Pos} {kt k2 pt2} (hc:X.calm=true) (hN:X.N.Nodup) (hi:X.N[i]? = some x) (hj:X.N[j]? = some y) (hij:i≠j)
    (hx:X.env.scope.names.lookup x=some .local) (hy:X.env.scope.names.lookup y=some .local) (ha:PA X [a,b] ta)
    (hw:swappedStores [.Tuple [.Name x px,.Name y py] kt pt] (.Tuple [a,b] k2 pt2) X.env=pure (some [x,y]))
    (hs:swapsWithSole [.Tuple [.Name x px,.Name y py] kt pt] (.Tuple [a,b] k2 pt2) pos.line X.env=pure false:=by rfl) :
    PS X (.Assign [.Tuple [.Name x px,.Name y py] kt pt] (.Tuple [a,b] k2 pt2) pos) (Alo i j ta):=by
  intro pins s σ H D I h
  rw [exec_Assign_arm]
  refine wpAny_bind (wpAny_standAt ?_)
  rw [hs]
  refine wpAny_bind (wpAny_pure ?_)
  rw [if_neg (by decide)]
  refine wpAny_bind (Tuple_ (thn (ha _ pins s σ H _ I h) fun us s1 ⟨vs,H1,I1,r1,q1⟩=>?_))
  obtain ⟨v,w,e1,q1⟩:=q1
  subst e1
  obtain ⟨u1,u2,rfl,rv,rw'⟩:∃ u1 u2,us=[u1,u2]∧RelV v u1∧RelV w u2:=by
    cases r1 with
    | cons p q =>
      cases q with
      | cons p' q' =>
        cases q'
        exact ⟨_,_,rfl,p,p'⟩
  refine wpAny_newObj_type ?_ (by show 2≤sizeLine;decide)
  have I2:Inv X pins σ H1 { s1 with heap:=s1.heap.push { cls:=.type "tuple",data:=.seq [u1,u2].toArray } }:=I1.kept (t':=s1.toks) fun b o e=>Heap.get?_push_of_some _ e
  rw [hw]
  refine wpAny_bind (wpAny_pure ?_)
  show wpAny (model X.prog X.w) X.A (do rule "assign.swapped-stores";let items ←unpackItems (.ref s1.heap.objs.size) 2 none;assignInOrder [fun v=>bindName X.env y v,fun v=>bindName X.env x v] items.reverse;pure Flow.next) _ _ _
  refine wpAny_bind (wpAny_rule (wpAny_bind (unpackItems_tuple (items:=#[u1,u2]) (I.ok.hd hc) (IsTup.new s1.heap _) fun h' hx'=>?_)))
  have I3:=I2.kept (h':=h') (t':=s1.toks) fun b o e=>hx' b o (Nat.ne_of_lt (Heap.lt_size e)) e
  show wpAny _ _ (assignInOrder [fun v=>bindName X.env y v,fun v=>bindName X.env x v] [u2,u1] >>= fun _=>pure Flow.next) _ _ _
  refine wpAny_bind (assignInOrder_cons (wpAny_bindName (KR I3 hN hj (.inl hy) rw' (fun s2 I4=>?_) (.inr hy))))
  refine assignInOrder_cons (wpAny_bindName (KR I4 hN hi (.inl hx) rv (fun s3 I5=>assignInOrder_nil (wpAny_pure ?_)) (.inr hx)))
  rw [List.set_comm _ _ (Ne.symm hij)] at I5
  exact ⟨_,H1,I5,q1⟩
end
section
variable {X:Cx} {pos:Pos}
noncomputable def Afe (c:TT) (tb:TS):TS:=fun D σ H=>∃ W:Nat→St→Hp→Prop,(∃ m,W m σ H)∧∀ m σ H,W m σ H →
  c σ H fun b H1=>if b=true then ∃ N:St→Hp→Prop,(∀ σ' H',N σ' H'→∃ m',m' < m∧W m' σ' H')∧tb { D with nx:=N,ct:=N,bk:=D.nx } σ H1 else D.nx σ H1
theorem Aaj {c:Expr} {body:List Stmt} {tc:TT} {tb:TS} (hp:PassesOwn (model X.prog X.w) X.A X.env X.xe) (hc:PT X c tc) (hb:PSs X body tb):PS X (.While c body [] pos) (Afe tc tb):=by
  intro pins s σ H D I h
  obtain ⟨W,⟨m0,w0⟩,turn⟩:=h
  refine wpAny_While (codeAny_whileLoop (fun n s'=>∃ σ' H',Inv X pins σ' H' s'∧W n σ' H') ?_ m0 ⟨σ,H,I,w0⟩)
  rintro n s1 ⟨σ1,H1,I1,w1⟩
  refine wpAny_passesOwn hp (thn (hc pins s1 σ1 H1 _ I1 (turn n σ1 H1 w1)) fun b s2 ⟨H2,I2,q2⟩=>?_)
  cases b with
  | true =>
    obtain ⟨N,hN,q2⟩:=q2
    rw [if_pos rfl]
    refine wpAny_passesOwn hp (thn (hb pins s2 σ1 H2 _ I2 q2) fun f s3 q3=>?_)
    cases f with
    | next =>
      obtain ⟨σ3,H3,I3,n3⟩:=q3
      obtain ⟨m',hm,w3⟩:=hN σ3 H3 n3
      exact ⟨m',hm,σ3,H3,I3,w3⟩
    | cont =>
      obtain ⟨σ3,H3,I3,n3⟩:=q3
      obtain ⟨m',hm,w3⟩:=hN σ3 H3 n3
      exact ⟨m',hm,σ3,H3,I3,w3⟩
    | brk=>exact q3
    | ret v=>exact q3
  | false =>
    rw [if_neg Bool.false_ne_true]
    exact wpAny_execs_nil ⟨σ1,H2,I2,q2⟩
end
structure It where
  go:Nat→Hp→Prop
  yld:Nat→Hp→V→Hp→Prop
  stop:Nat→Hp→Prop
noncomputable def KH (X:Cx) (pins:List (Addr × Obj)) (H:Hp) (b:Addr):Prop :=
  H b=none∧b≠X.env.locals∧b∉X.fs∧(b∈X.ex∨X.s₀.heap.objs.size≤b)∧(∀ x c,X.env.cells.lookup x=some c→c≠b)∧∀ p∈X.pn ++ pins,p.1≠b
theorem Inv.fpOk {X:Cx} {pins:List (Addr × Obj)} {σ:St} {H H':Hp} {s:Shared} {b:Addr} (I:Inv X pins σ H s) (hb:s.heap.objs.size≤b) (hn:H' b=none):KH X pins H' b:=by
  refine ⟨hn,Nat.ne_of_gt (Nat.lt_of_lt_of_le I.lt hb),I.nofs hb,.inr (Nat.le_trans I.sz hb),fun x c e z=>?_,fun p hp z=>?_⟩
  · obtain ⟨v,q⟩:=I.cell x c e
    exact absurd (Nat.lt_of_lt_of_le q.lt (by rw [z];exact hb)) (Nat.lt_irrefl _)
  · exact absurd (Nat.lt_of_lt_of_le (Heap.lt_size (I.pin p hp).1) (by rw [z];exact hb)) (Nat.lt_irrefl _)
structure Turn (P:Program) (w:World) (K:PySem.W.Frag) (tg:Expr) (J:It) (fp:List Addr) (it:Addr) (tn:Nat→Heap→Prop):Prop where
  mem:it∈fp
  obj:∀ i h,tn i h→∀ b∈fp,∃ o,h.get? b=some o∧∀ v,o.data≠.cell v
  keep:∀ i h h',tn i h→(∀ b∈fp,∀ o,h.get? b=some o→h'.get? b=some o)→tn i h'
  item:∀ (X:Cx),X.prog=P→X.w=w→X.K=K→X.calm=true→∀ (i:Nat) (pins:List (Addr × Obj)) (s:Shared) (σ:St) (H:Hp) (E:Value→Shared→Prop),Inv X pins σ H s→(∀ b∈fp,KH X pins H b)→tn i s.heap→J.go i H →
    wpAny (model P w) X.A (pyNext (.ref it)) (fun r s1=>∃ u,r=some u ∧
      wpAny (model P w) X.A (letOwnedTupleGo tg (.ref it) u) (fun _ s2=>∃ x H',Inv X pins σ H' s2∧RelV x u∧J.yld i H x H'∧tn (i+1) s2.heap∧∀ b∈fp,H' b=none) E s1) E s
  done:∀ (X:Cx),X.prog=P→X.w=w→X.K=K→X.calm=true→∀ (i:Nat) (pins:List (Addr × Obj)) (s:Shared) (σ:St) (H:Hp) (E:Value→Shared→Prop),Inv X pins σ H s→(∀ b∈fp,KH X pins H b)→tn i s.heap→J.stop i H →
    wpAny (model P w) X.A (pyNext (.ref it)) (fun r s1=>r=none∧Inv X pins σ H s1) E s
  self:∀ (A:Around) (i:Nat) (s:Shared) (Q:Value→Shared→Prop) (E:Value→Shared→Prop),tn i s.heap→Q (.ref it) s→wpAny (model P w) A (pyIter (.ref it)) Q E s
noncomputable abbrev TI:=St→Hp→(It→Hp→Prop)→Prop
noncomputable def PIE (X:Cx) (pins:List (Addr × Obj)) (σ:St) (tg:Expr) (R:It→Hp→Prop) (itv:Value) (s2:Shared):Prop :=
  ∃ (it:Addr) (fp:List Addr) (tn:Nat→Heap→Prop) (J:It) (H':Hp),itv=.ref it∧Inv X pins σ H' s2∧Turn X.prog X.w X.K tg J fp it tn∧tn 0 s2.heap∧(∀ b∈fp,KH X pins H' b)∧R J H'
noncomputable def PI (X:Cx) (tg iter:Expr) (wi:TI):Prop :=
  ∀ (pins:List (Addr × Obj)) (s:Shared) (σ:St) (H:Hp) (R:It→Hp→Prop),Inv X pins σ H s→wi σ H R →
    wpAny (model X.prog X.w) X.A (eval iter X.env) (fun v s1=>wpAny (model X.prog X.w) X.A (pyIter v) (PIE X pins σ tg R) X.xe s1) X.xe s
theorem Zj {M:Model} {A:Around} {E:Value→Shared→Prop} {s:Shared} {tg:Expr} {it:Addr} {u:Value} {o:Obj} {n:String} {vs:Array Value} {Q:Unit→Shared→Prop} (ho:s.heap.get? it=some o) (hc:o.cls=.type n) (hd:o.data=.fields vs)
    (hn:["enumerate","zip","dict_itemiterator","dict_reverseitemiterator","odict_iterator","itertools.zip_longest","itertools.pairwise"].contains n=false) (hQ:Q () s):wpAny M A (letOwnedTupleGo tg (.ref it) u) Q E s:=by
  unfold letOwnedTupleGo
  cases tg <;> first
    | exact wpAny_pure hQ
    | (cases u <;> first
        | exact wpAny_pure hQ
        | (refine wpAny_bind (wpAny_load ho ?_)
           rw [hc,hd]
           show wpAny M A (if (["enumerate","zip","dict_itemiterator","dict_reverseitemiterator","odict_iterator","itertools.zip_longest","itertools.pairwise"].contains n && vs[0]? == some (rawInt _))=true then _ else _) Q E s
           rw [if_neg (by intro h;rw [hn,Bool.false_and] at h;cases h)]
           exact wpAny_pure hQ))
noncomputable def Itl (K:PySem.W.Frag) (a:Addr):It :=
  ⟨fun i H=>∃ xs x,SqL K H a xs∧xs[i]? = some x,fun i H x H'=>H'=H∧∀ xs,SqL K H a xs→xs[i]? = some x,fun i H=>∃ xs,SqL K H a xs∧xs.length≤i⟩
noncomputable def Itt (K:PySem.W.Frag) (a:Addr):It :=
  ⟨fun i H=>∃ xs x,SqT K H a xs∧xs[i]? = some x,fun i H x H'=>H'=H∧∀ xs,SqT K H a xs→xs[i]? = some x,fun i H=>∃ xs,SqT K H a xs∧xs.length≤i⟩
noncomputable def Itr (lo:Int) (n:Nat):It:=⟨fun i _=>i < n,fun i H x H'=>H'=H∧x=.int (lo+i),fun i _=>n≤i⟩
theorem Yk {P:Program} {w:World} {K:PySem.W.Frag} {tg:Expr} (a it:Addr):Turn P w K tg (Itl K a) [it] it (fun i h=>h.IsListIter it a i) where
  mem:=by simp
  obj:=fun i h st b hb=>by
    have e:b=it:=by simpa using hb
    subst e
    obtain ⟨o,e,c,d⟩:=st
    exact ⟨o,e,fun v z=>by rw [d] at z;cases z⟩
  keep:=fun i h h' st k=>st.at fun o e=>k it (by simp) o e
  item:=by
    intro X hP hw hK hc i pins s σ H E I hf st hg
    subst hP hw hK
    obtain ⟨xs,x,hq,hx⟩:=hg
    obtain ⟨its,rv,p,hz⟩:=I.list hq
    obtain ⟨u,hu,ru⟩:=rv.get hx
    obtain ⟨f0,f1,f2,f3,f4,f5⟩:=hf it (by simp)
    refine wpAny_pyNext_list_item st p.isList (x:=u) (by simpa using hu) fun h' st' sb=>?_
    have I1:Inv X pins σ H { s with heap:=h' }:=I.turned (t':=s.toks) (fun b o hb e=>(sb.2 b hb).trans e) f0 f1 f3 f4 f5
    obtain ⟨o,e,c,d⟩:=id st'
    exact ⟨u,rfl,Zj (s:={ s with heap:=h' }) e c d (by decide) ⟨x,H,I1,ru,⟨rfl,fun ys hy=>by rw [I.list_inj hy hq];exact hx⟩,st',fun b hb=>(hf b hb).1⟩⟩
  done:=by
    intro X hP hw hK hc i pins s σ H E I hf st hg
    subst hP hw hK
    obtain ⟨xs,hq,hx⟩:=hg
    obtain ⟨its,rv,p,hz⟩:=I.list hq
    obtain ⟨f0,f1,f2,f3,f4,f5⟩:=hf it (by simp)
    have hl:=rv.length
    exact wpAny_pyNext_list_end (I.ok.hd hc) st p.isList (by simp;omega) fun h' eb=>⟨rfl,I.turned (t':=s.toks) (fun b o hb e=>eb b o hb e) f0 f1 f3 f4 f5⟩
  self:=fun _ _ _ _ _ st h=>wpAny_pyIter_listiter st h
theorem Wd {P:Program} {w:World} {K:PySem.W.Frag} {tg:Expr} (a it:Addr):Turn P w K tg (Itt K a) [it] it (fun i h=>h.IsTupleIter it a i) where
  mem:=by simp
  obj:=fun i h st b hb=>by
    have e:b=it:=by simpa using hb
    subst e
    obtain ⟨o,e,c,d⟩:=st
    exact ⟨o,e,fun v z=>by rw [d] at z;cases z⟩
  keep:=fun i h h' st k=>st.at fun o e=>k it (by simp) o e
  item:=by
    intro X hP hw hK hc i pins s σ H E I hf st hg
    subst hP hw hK
    obtain ⟨xs,x,hq,hx⟩:=hg
    obtain ⟨its,rv,p,hz⟩:=I.tuple hq
    obtain ⟨u,hu,ru⟩:=rv.get hx
    obtain ⟨f0,f1,f2,f3,f4,f5⟩:=hf it (by simp)
    refine wpAny_pyNext_tuple_item st (show s.heap.IsTuple a its.toArray from p) (x:=u) (by simpa using hu) fun h' st' sb=>?_
    have I1:Inv X pins σ H { s with heap:=h' }:=I.turned (t':=s.toks) (fun b o hb e=>(sb.2 b hb).trans e) f0 f1 f3 f4 f5
    obtain ⟨o,e,c,d⟩:=id st'
    exact ⟨u,rfl,Zj (s:={ s with heap:=h' }) e c d (by decide) ⟨x,H,I1,ru,⟨rfl,fun ys hy=>by rw [I.tuple_inj hy hq];exact hx⟩,st',fun b hb=>(hf b hb).1⟩⟩
  done:=by
    intro X hP hw hK hc i pins s σ H E I hf st hg
    subst hP hw hK
    obtain ⟨xs,hq,hx⟩:=hg
    obtain ⟨its,rv,p,hz⟩:=I.tuple hq
    obtain ⟨f0,f1,f2,f3,f4,f5⟩:=hf it (by simp)
    have hl:=rv.length
    exact wpAny_pyNext_tuple_end (I.ok.hd hc) st (show s.heap.IsTuple a its.toArray from p) (by simp;omega) fun h' eb=>⟨rfl,I.turned (t':=s.toks) (fun b o hb e=>eb b o hb e) f0 f1 f3 f4 f5⟩
  self:=fun _ _ _ _ _ st h=>wpAny_pyIter_tupleiter st h
theorem Wn {P:Program} {w:World} {K:PySem.W.Frag} {tg:Expr} (it:Addr) (lo:Int) (n:Nat):Turn P w K tg (Itr lo n) [it] it (fun i h=>IsRangeIter h it (lo+(i:Nat)*1) ((n:Int) - (i:Nat)) 1) where
  mem:=by simp
  obj:=fun i h st b hb=>by
    have e:b=it:=by simpa using hb
    subst e
    exact ⟨_,st,fun v z=>by
      have z':Data.fields _=Data.cell v:=z
      cases z'⟩
  keep:=fun i h h' st k=>k it (by simp) _ st
  item:=by
    intro X hP hw hK hc i pins s σ H E I hf st hg
    subst hP hw hK
    obtain ⟨f0,f1,f2,f3,f4,f5⟩:=hf it (by simp)
    have W:=Walks.range (prog:=X.prog) (w:=X.w) (I.ok.hd hc) it lo 1 n
    refine W.item i s _ _ hg st fun v h' tk hv st' kk=>?_
    obtain ⟨t,rfl⟩:=hv
    have I1:Inv X pins σ H { s with heap:=h',toks:=tk }:=I.turned (fun b o hb e=>kk b o (by simpa using hb) e) f0 f1 f3 f4 f5
    refine ⟨_,rfl,Zj (s:={ s with heap:=h',toks:=tk }) (n:="range_iterator") st' rfl rfl (by decide) ⟨.int (lo+i),H,I1,⟨t,?_⟩,⟨rfl,rfl⟩,st',fun b hb=>(hf b hb).1⟩⟩
    rw [Int.mul_one]
  done:=by
    intro X hP hw hK hc i pins s σ H E I hf st hg
    subst hP hw hK
    obtain ⟨f0,f1,f2,f3,f4,f5⟩:=hf it (by simp)
    exact wpAny_pyNext_range_end (I.ok.hd hc) st (by have:n≤i:=hg;omega) fun h' eb=>⟨rfl,I.turned (t':=s.toks) (fun b o hb e=>eb b o hb e) f0 f1 f3 f4 f5⟩
  self:=fun _ _ _ _ _ st h=>wpAny_pyIter_rangeiter st h
end L2
namespace L2
open PySem PySem.Spec PyProof.Rows
section
variable {X:Cx} {tg:Expr}
noncomputable def AiE (K:PySem.W.Frag) (tl:TE):TI:=fun σ H R=>tl σ H fun x H1=>∃ a,x=.ref a∧(∃ xs,SqL K H1 a xs)∧R (Itl K a) H1
noncomputable def AmN (K:PySem.W.Frag) (tl:TE):TI:=fun σ H R=>tl σ H fun x H1=>∃ a,x=.ref a∧(∃ xs,SqT K H1 a xs)∧R (Itt K a) H1
theorem Acr {l:Expr} {tl:TE} (hl:PE X l tl):PI X tg l (AiE X.K tl):=by
  intro pins s σ H R I h
  refine thn (hl pins s σ H _ I h) fun v s1 ⟨x,H1,I1,r1,q1⟩=>?_
  obtain ⟨a,e,⟨xs,hq⟩,q⟩:=q1
  subst e
  cases r1
  obtain ⟨its,rv,p,hz⟩:=I1.list hq
  refine wpAny_pyIter_list p.isList ?_
  refine ⟨s1.heap.objs.size,[s1.heap.objs.size],_,_,H1,rfl,I1.kept (t':=s1.toks) fun b o e=>Heap.get?_push_of_some _ e,Yk a _,⟨_,Heap.get?_push_size _ rfl,rfl,rfl⟩,fun b hb=>?_,q⟩
  have e:b=s1.heap.objs.size:=by simpa using hb
  subst e
  exact I1.fpOk (Nat.le_refl _) (I1.hok.fresh (Nat.le_refl _))
theorem Ae9 {l:Expr} {tl:TE} (hl:PE X l tl):PI X tg l (AmN X.K tl):=by
  intro pins s σ H R I h
  refine thn (hl pins s σ H _ I h) fun v s1 ⟨x,H1,I1,r1,q1⟩=>?_
  obtain ⟨a,e,⟨xs,hq⟩,q⟩:=q1
  subst e
  cases r1
  obtain ⟨its,rv,p,hz⟩:=I1.tuple hq
  refine wpAny_pyIter_tuple (show s1.heap.IsTuple a its.toArray from p) ?_
  refine ⟨s1.heap.objs.size,[s1.heap.objs.size],_,_,H1,rfl,I1.kept (t':=s1.toks) fun b o e=>Heap.get?_push_of_some _ e,Wd a _,⟨_,Heap.get?_push_size _ rfl,rfl,rfl⟩,fun b hb=>?_,q⟩
  have e:b=s1.heap.objs.size:=by simpa using hb
  subst e
  exact I1.fpOk (Nat.le_refl _) (I1.hok.fresh (Nat.le_refl _))
theorem AaF {pins:List (Addr × Obj)} {σ:St} {H:Hp} {s:Shared} {R:It→Hp→Prop} {E:Value→Shared→Prop} {lo hi:Int} {t u v:Tok} {tk:Nat} (I:Inv X pins σ H s) (h1:-(2 ^ 62)≤lo) (h2:lo < 2 ^ 62) (h3:-(2 ^ 62)≤hi) (h4:hi < 2 ^ 62)
    (q:R (Itr lo (hi - lo).toNat) H):wpAny (model X.prog X.w) X.A (pyIter (.ref s.heap.objs.size)) (PIE X pins σ tg R) E { s with heap:=s.heap.push { cls:=.type "range",data:=.fields #[.int lo t,.int hi u,.int 1 v] },toks:=tk }:=by
  refine wpAny_pyIter_range (IsRange.new ..) (small_one h1 h2 h3 h4) ?_
  have I1:Inv X pins σ H { s with heap:=s.heap.push { cls:=.type "range",data:=.fields #[.int lo t,.int hi u,.int 1 v] },toks:=tk }:=I.kept fun b o e=>Heap.get?_push_of_some _ e
  refine ⟨(s.heap.push { cls:=.type "range",data:=.fields #[.int lo t,.int hi u,.int 1 v] }).objs.size,[(s.heap.push { cls:=.type "range",data:=.fields #[.int lo t,.int hi u,.int 1 v] }).objs.size],_,_,H,rfl,
    I1.kept (t':=tk) fun b o e=>Heap.get?_push_of_some _ e,Wn _ lo (hi - lo).toNat,?_,fun b hb=>?_,q⟩
  · have e1:lo+((0:Nat):Int)*1=lo:=by simp
    have e2:(((hi - lo).toNat:Nat):Int) - ((0:Nat):Int)=Builtin.Range.rangeSize lo hi 1:=by rw [rangeSize_one];split <;> omega
    show IsRangeIter _ _ (lo+((0:Nat):Int)*1) ((((hi - lo).toNat:Nat):Int) - ((0:Nat):Int)) 1
    rw [e1,e2]
    exact Heap.get?_push_size _ rfl
  · have e:b=(s.heap.push { cls:=.type "range",data:=.fields #[.int lo t,.int hi u,.int 1 v] }).objs.size:=by simpa using hb
    subst e
    exact I1.fpOk (Nat.le_refl _) (I1.hok.fresh (Nat.le_refl _))
noncomputable def Ahg (ta:TA):TI:=fun σ H R=>ta σ H fun vs H1=>∃ i j:Int,vs=[.int i,.int j]∧(-(2 ^ 62)≤i∧i < 2 ^ 62∧-(2 ^ 62)≤j∧j < 2 ^ 62)∧R (Itr i (j - i).toNat) H1
theorem Yp {a b:Expr} {ta:TA} {p pos:Pos} (hg:Gl X "range") (hm:X.mg "range"=none) (ha:PA X [a,b] ta) (hs:starEach [a,b] X.env=[(false,eval a X.env),(false,eval b X.env)]:=by rfl) (hs2:starEach [b] X.env=[(false,eval b X.env)]:=by rfl) :
    PI X tg (.Call (.Name "range" p) [a,b] [] pos) (Ahg ta):=by
  intro pins s σ H R I h
  refine Call_ (Ql I hg hm boot_range (PyProof.Rows.callWith_type1 (thn (ha pos pins s σ H _ I h) fun us s1 ⟨vs,H1,I1,r1,q1⟩=>?_) (by rw [hs,hs2]) (by rw [hs2];rfl)))
  obtain ⟨i,j,e,⟨q1,q2,q3,q4⟩,q⟩:=q1
  subst e
  cases r1 with
  | cons r rr =>
    cases rr with
    | cons r' rr =>
      cases rr
      obtain ⟨t,rfl⟩:=r
      obtain ⟨t',rfl⟩:=r'
      exact call_range_2 (AaF I1 q1 q2 q3 q4 q)
noncomputable def Alk (wi:TI) (g:TG) (tb:TS):TS:=fun D σ H=>wi σ H fun J H1=>∃ W:Nat→Nat→St→Hp→Prop,(∃ m,W 0 m σ H1)∧∀ i m σ H,W i m σ H →
  (J.stop i H∧D.nx σ H)∨(J.go i H∧∃ N:St→Hp→Prop,(∀ σ' H',N σ' H'→∃ m',m' < m∧W (i+1) m' σ' H')∧∀ x H',J.yld i H x H'→g x σ H' fun σ2 H2=>tb { D with nx:=N,ct:=N,bk:=D.nx } σ2 H2)
noncomputable def Mu (fp:List Addr) (h:Heap):List (Addr × Obj):=fp.filterMap fun b=>(h.get? b).map fun o=>(b,o)
theorem FW {fp:List Addr} {h:Heap} {b:Addr} {o:Obj} (hb:b∈fp) (e:h.get? b=some o):(b,o)∈Mu fp h:=List.mem_filterMap.mpr ⟨b,hb,by rw [e];rfl⟩
theorem Zb {fp:List Addr} {h:Heap} {p:Addr × Obj} (hp:p∈Mu fp h):p.1∈fp∧h.get? p.1=some p.2:=by
  obtain ⟨b,hb,e⟩:=List.mem_filterMap.mp hp
  cases q:h.get? b with
  | none=>rw [q] at e;cases e
  | some o =>
    rw [q] at e
    have e':(b,o)=p:=Option.some.inj e
    subst e'
    exact ⟨hb,q⟩
theorem Inv.pinned {pins:List (Addr × Obj)} {σ:St} {H:Hp} {s:Shared} {fp:List Addr} (I:Inv X pins σ H s) (hf:∀ b∈fp,KH X pins H b) (ho:∀ b∈fp,∃ o,s.heap.get? b=some o∧∀ v,o.data≠.cell v):Inv X (pins ++ Mu fp s.heap) σ H s :=
  I.pins_of fun p hp=>(List.mem_append.mp hp).elim (fun z=>I.pin p (List.mem_append_right _ z)) fun z=>by
    obtain ⟨hb,e⟩:=Zb z
    obtain ⟨f0,f1,f2,_⟩:=hf p.1 hb
    obtain ⟨o,e',d⟩:=ho p.1 hb
    rw [e] at e';cases e'
    exact ⟨e,f0,f1,f2,d⟩
theorem Inv.unpinned {pins pl:List (Addr × Obj)} {σ:St} {H:Hp} {s:Shared} (I:Inv X (pins ++ pl) σ H s):Inv X pins σ H s:=I.pins_of fun p hp=>I.pin p (List.mem_append_right _ (List.mem_append_left _ hp))
theorem Afz {iter:Expr} {body:List Stmt} {wi:TI} {g:TG} {tb:TS} {pos:Pos} (hp:PassesOwn (model X.prog X.w) X.A X.env X.xe) (hc:X.calm=true) (hi:PI X tg iter wi) (hg:PG X tg g) (hb:PSs X body tb)
    (hs:∀ x,foldedSetIterable iter X.env x=pure x:=by intro _;rfl):PS X (.For tg iter body [] pos) (Alk wi g tb):=by
  intro pins s σ H D I h
  refine wpAny_For (thn (hi pins s σ H _ I h) fun v s1 h1=>thn h1 fun itv s2 h2=>?_) hs
  obtain ⟨it,fp,tn,J,H2,e,I2,T,st2,f2,W,⟨m0,w0⟩,turn⟩:=h2
  subst e
  have stat:∀ {H':Hp},(∀ b∈fp,H' b=none)→∀ b∈fp,KH X pins H' b:=fun hn b hb=>⟨hn b hb,(f2 b hb).2⟩
  refine codeAny_forLoop_any (fun n s'=>∃ i σ' H',Inv X pins σ' H' s'∧tn i s'.heap∧(∀ b∈fp,H' b=none)∧W i n σ' H') ?_ m0 ⟨0,σ,H2,I2,st2,fun b hb=>(f2 b hb).1,w0⟩
  rintro n s3 ⟨i,σ3,H3,I3,st3,fr3,w3⟩
  rcases turn i n σ3 H3 w3 with ⟨stop,qn⟩ | ⟨go,N,hN,step⟩
  · refine wpAny_passesOwn hp (thn (T.done X rfl rfl rfl hc i pins s3 σ3 H3 X.xe I3 (stat fr3) st3 stop) fun r s4 ⟨hr,I4⟩=>?_)
    subst hr
    exact wpAny_execs_nil ⟨σ3,H3,I4,qn⟩
  · refine wpAny_passesOwn hp (thn (T.item X rfl rfl rfl hc i pins s3 σ3 H3 X.xe I3 (stat fr3) st3 go) fun r s4 ⟨u,hr,h4⟩=>?_)
    subst hr
    refine wpAny_passesOwn hp (thn h4 fun _ s5 ⟨x,H5,I5,r5,y5,st5,fr5⟩=>?_)
    have I5':=I5.pinned (stat fr5) (T.obj _ _ st5)
    refine wpAny_passesOwn hp (thn (hg _ s5 σ3 H5 x u _ I5' r5 (step x H5 y5)) fun _ s6 ⟨σ6,H6,I6,q6⟩=>?_)
    refine wpAny_passesOwn hp (thn (hb _ s6 σ6 H6 _ I6 q6) fun f s7 q7=>?_)
    have again:∀ {σ7:St} {H7:Hp},Inv X (pins ++ Mu fp s5.heap) σ7 H7 s7→N σ7 H7→∃ m,m < n∧∃ i σ' H',Inv X pins σ' H' s7∧tn i s7.heap∧(∀ b∈fp,H' b=none)∧W i m σ' H':=fun {σ7 H7} I7 n7=>by
      obtain ⟨m',hm,w7⟩:=hN σ7 H7 n7
      refine ⟨m',hm,i+1,σ7,H7,I7.unpinned,T.keep _ _ _ st5 fun b hb o e=>(I7.pin (b,o) (List.mem_append_right _ (List.mem_append_right _ (FW hb e)))).1,fun b hb=>?_,w7⟩
      obtain ⟨o,e,d⟩:=T.obj _ _ st5 b hb
      exact (I7.pin (b,o) (List.mem_append_right _ (List.mem_append_right _ (FW hb e)))).2.1
    cases f with
    | next=>obtain ⟨σ7,H7,I7,n7⟩:=q7;exact again I7 n7
    | cont=>obtain ⟨σ7,H7,I7,n7⟩:=q7;exact again I7 n7
    | brk=>obtain ⟨σ7,H7,I7,q7⟩:=q7;exact ⟨σ7,H7,I7.unpinned,q7⟩
    | ret v=>obtain ⟨x7,σ7,H7,I7,r7,q7⟩:=q7;exact ⟨x7,σ7,H7,I7.unpinned,r7,q7⟩
end
end L2
namespace L2
open PySem PySem.Spec PyProof.Rows
noncomputable abbrev R2:=V→V→Hp→VK→Prop
noncomputable def OpR (X:Cx) (f:Value→Value→Sem Value) (r:R2):Prop :=
  ∀ (pins:List (Addr × Obj)) (s:Shared) (σ:St) (H:Hp) (x y:V) (v u:Value) (Q:VK),Inv X pins σ H s→RelV x v→RelV y u→r x y H Q →
    wpAny (model X.prog X.w) X.A (f v u) (EP X pins σ Q) X.xe s
noncomputable def UnR (X:Cx) (f:Value→Sem Value) (r:V→Hp→VK→Prop):Prop :=
  ∀ (pins:List (Addr × Obj)) (s:Shared) (σ:St) (H:Hp) (x:V) (v:Value) (Q:VK),Inv X pins σ H s→RelV x v→r x H Q →
    wpAny (model X.prog X.w) X.A (f v) (EP X pins σ Q) X.xe s
noncomputable def J7 (X:Cx) (f:Value) (r:List V→Hp→VK→Prop):Prop :=
  ∀ (pins:List (Addr × Obj)) (s:Shared) (σ:St) (H:Hp) (xs:List V) (us:List Value) (Q:VK),Inv X pins σ H s→Vals xs us→r xs H Q →
    wpAny (model X.prog X.w) X.A (call f us) (EP X pins σ Q) X.xe s
noncomputable def tOp (r:R2) (ta tb:TE):TE:=fun σ H Q=>ta σ H fun x H1=>tb σ H1 fun y H2=>r x y H2 Q
noncomputable def tUn (r:V→Hp→VK→Prop) (ta:TE):TE:=fun σ H Q=>ta σ H fun x H1=>r x H1 Q
noncomputable def rI (C:Int→Int→Prop) (g:Int→Int→V):R2:=fun x y H Q=>∃ i j,x=.int i∧y=.int j∧C i j∧Q (g i j) H
noncomputable def rI0 (g:Int→Int→V):R2:=fun x y H Q=>∃ i j,x=.int i∧y=.int j∧Q (g i j) H
noncomputable def rU (g:Int→V):V→Hp→VK→Prop:=fun x H Q=>∃ i,x=.int i∧Q (g i) H
section
variable {X:Cx} {a b c:Expr} {ta tb tc:TE} {pos:Pos}
theorem AfD (ha:PE X a ta) (hb:PE X b tb) {pins:List (Addr × Obj)} {s:Shared} {σ:St} {H:Hp} {R:V→V→Hp→Prop} (I:Inv X pins σ H s)
    (h:ta σ H fun x H1=>tb σ H1 fun y H2=>R x y H2) {Q:Value→Shared→Prop} {f:Value→Value→Sem Value}
    (hf:∀ v u s2 x y H2,Inv X pins σ H2 s2→RelV x v→RelV y u→R x y H2→wpAny (model X.prog X.w) X.A (f v u) Q X.xe s2) :
    wpAny (model X.prog X.w) X.A (eval a X.env) (fun v s₁=>wpAny (model X.prog X.w) X.A (eval b X.env) (fun u s₂=>wpAny (model X.prog X.w) X.A (f v u) Q X.xe s₂) X.xe s₁) X.xe s:=by
  refine thn (ha pins s σ H _ I h) fun v s1 ⟨x,H1,I1,r1,q1⟩=>?_
  refine thn (hb pins s1 σ H1 _ I1 q1) fun u s2 ⟨y,H2,I2,r2,q2⟩=>?_
  exact hf v u s2 x y H2 I2 r1 r2 q2
theorem AeE {op:Operator} {r:R2} (ho:OpR X (binaryOp op) r) (ha:PE X a ta) (hb:PE X b tb):PE X (.BinOp a op b pos) (tOp r ta tb):=by
  intro pins s σ H Q I h
  exact wpAny_BinOp (AfD ha hb I h fun v u s2 x y H2 I2 rx ry q=>ho pins s2 σ H2 x y v u Q I2 rx ry q)
theorem AjQ {op:UnaryOp} {r:V→Hp→VK→Prop} (ho:UnR X (unaryOp op) r) (ha:PE X a ta):PE X (.UnaryOp op a pos) (tUn r ta):=by
  intro pins s σ H Q I h
  exact UnaryOp_ (thn (ha pins s σ H _ I h) fun v s1 ⟨x,H1,I1,r1,q1⟩=>ho pins s1 σ H1 x v Q I1 r1 q1)
theorem opI {f:Value→Value→Sem Value} {C:Int→Int→Prop} {g:Int→Int→Int}
    (rule:∀ (i j:Int) (t u:Tok) (s:Shared) (Q:Value→Shared→Prop) (E:Value→Shared→Prop),C i j→Q (.int (g i j) s.toks) { s with toks:=s.toks+1 }→wpAny (model X.prog X.w) X.A (f (.int i t) (.int j u)) Q E s) :
    OpR X f (rI C fun i j=>.int (g i j)):=by
  intro pins s σ H x y v u Q I rx ry h
  obtain ⟨i,j,rfl,rfl,hc,q⟩:=h
  obtain ⟨t,rfl⟩:=rx
  obtain ⟨t',rfl⟩:=ry
  exact rule i j t t' s _ _ hc ⟨.int (g i j),H,I.tok _,⟨_,rfl⟩,q⟩
theorem AgI {f:Value→Value→Sem Value} {g:Int→Int→Int}
    (rule:∀ (i j:Int) (t u:Tok) (s:Shared) (Q:Value→Shared→Prop) (E:Value→Shared→Prop),Q (.int (g i j) s.toks) { s with toks:=s.toks+1 }→wpAny (model X.prog X.w) X.A (f (.int i t) (.int j u)) Q E s) :
    OpR X f (rI0 fun i j=>.int (g i j)):=by
  intro pins s σ H x y v u Q I rx ry h
  obtain ⟨i,j,rfl,rfl,q⟩:=h
  obtain ⟨t,rfl⟩:=rx
  obtain ⟨t',rfl⟩:=ry
  exact rule i j t t' s _ _ ⟨.int (g i j),H,I.tok _,⟨_,rfl⟩,q⟩
theorem AbC {f:Value→Value→Sem Value} {g:Int→Int→Bool}
    (rule:∀ (i j:Int) (t u:Tok) (s:Shared) (Q:Value→Shared→Prop) (E:Value→Shared→Prop),Q (.bool (g i j)) s→wpAny (model X.prog X.w) X.A (f (.int i t) (.int j u)) Q E s) :
    OpR X f (rI0 fun i j=>.bl (g i j)):=by
  intro pins s σ H x y v u Q I rx ry h
  obtain ⟨i,j,rfl,rfl,q⟩:=h
  obtain ⟨t,rfl⟩:=rx
  obtain ⟨t',rfl⟩:=ry
  exact rule i j t t' s _ _ ⟨.bl (g i j),H,I,rfl,q⟩
noncomputable def Ads (i j:Int):Prop:=0≤j∧j≤1000000∧i.natAbs < 2 ^ 64
theorem Ae6:OpR X (binaryOp .Add) (rI0 fun i j=>.int (i+j)):=AgI fun _ _ _ _ _ _ _ q=>add_int q
theorem Afj:OpR X (binaryOp .Sub) (rI0 fun i j=>.int (i - j)):=AgI fun _ _ _ _ _ _ _ q=>sub_int q
theorem Adq:OpR X (binaryOp .Mod) (rI (fun _ j=>j≠0) fun i j=>.int (i.fmod j)):=opI fun _ _ _ _ _ _ _ hc q=>mod_int' hc q
theorem Agi:OpR X (binaryOp .LShift) (rI Ads fun i j=>.int (i*2 ^ j.toNat)):=opI fun _ _ _ _ _ _ _ hc q=>lshift_int_small hc.1 hc.2.1 hc.2.2 q
theorem unI {f:Value→Sem Value} {g:Int→Int}
    (rule:∀ (i:Int) (t:Tok) (s:Shared) (Q:Value→Shared→Prop) (E:Value→Shared→Prop),Q (.int (g i) s.toks) { s with toks:=s.toks+1 }→wpAny (model X.prog X.w) X.A (f (.int i t)) Q E s) :
    UnR X f (rU fun i=>.int (g i)):=by
  intro pins s σ H x v Q I rx h
  obtain ⟨i,rfl,q⟩:=h
  obtain ⟨t,rfl⟩:=rx
  exact rule i t s _ _ ⟨.int (g i),H,I.tok _,⟨_,rfl⟩,q⟩
theorem Afr:UnR X (unaryOp .USub) (rU fun i=>.int (-i)):=unI fun _ _ _ _ _ q=>neg_int q
end
section
variable {X:Cx} {a b c:Expr} {ta tb tc:TE} {pos:Pos}
theorem IW {pins:List (Addr × Obj)} {σ:St} {H:Hp} {s:Shared} {Q:VK} {k k':Bool} (I:Inv X pins σ H s) (q:Q (.bl k) H) (e:k=k'):EP X pins σ Q (.bool k') s:=by
  subst e
  exact ⟨.bl k,H,I,rfl,q⟩
theorem Aa7:OpR X (compareOp .Lt) (rI0 fun i j=>.bl (decide (i < j))):=AbC fun _ _ _ _ _ _ _ q=>lt_int q
theorem Uu:OpR X (compareOp .LtE) (rI0 fun i j=>.bl (decide (i≤j))):=AbC fun _ _ _ _ _ _ _ q=>le_int q
theorem Aja:OpR X (compareOp .Gt) (rI0 fun i j=>.bl (decide (j < i))):=AbC fun _ _ _ _ _ _ _ q=>gt_int q
theorem AdZ:OpR X (compareOp .GtE) (rI0 fun i j=>.bl (decide (j≤i))):=AbC fun _ _ _ _ _ _ _ q=>ge_int q
theorem Acu:OpR X (compareOp .IsNot) (fun x y H Q=>y=.non∧Q (.bl (!decide (x=.non))) H):=by
  intro pins s σ H x y v u Q I rx ry h
  obtain ⟨rfl,q⟩:=h
  cases ry
  refine isnot_none_gen (IW I q ?_)
  cases x <;> first
    | (cases rx;rfl)
    | (obtain ⟨t,rfl⟩:=rx;rfl)
theorem OpR.or {f:Value→Value→Sem Value} {r r':R2} (h:OpR X f r) (h':OpR X f r'):OpR X f (fun x y H Q=>r x y H Q∨r' x y H Q):=by
  intro pins s σ H x y v u Q I rx ry q
  rcases q with q | q
  · exact h pins s σ H x y v u Q I rx ry q
  · exact h' pins s σ H x y v u Q I rx ry q
theorem Jb (b:Expr) {op:CmpOp} (h:op≠.In:=by decide) (h2:op≠.NotIn:=by decide):behindInMarks op b=false:=by
  have e1:(op == CmpOp.In)=false:=by cases op <;> first | rfl | exact absurd rfl h
  have e2:(op == CmpOp.NotIn)=false:=by cases op <;> first | rfl | exact absurd rfl h2
  cases b <;> simp [behindInMarks,e1,e2]
theorem Xg {op:CmpOp} {r:R2} (ho:OpR X (compareOp op) r) (ha:PE X a ta) (hb:PE X b tb) (hm:behindInMarks op b=false):PE X (.Compare a [op] [b] pos) (tOp r ta tb):=by
  intro pins s σ H Q I h
  exact wpAny_Compare1 (AfD ha hb I h fun v u s2 x y H2 I2 rx ry q=>ho pins s2 σ H2 x y v u Q I2 rx ry q) hm
noncomputable def AjA (t:TE):TT:=fun σ H Q=>t σ H fun x H'=>∃ k,x=.bl k∧Q k H'
theorem X6 {op:CmpOp} {r:R2} (ho:OpR X (compareOp op) r) (ha:PE X a ta) (hb:PE X b tb) (hm:behindInMarks op b=false):PT X (.Compare a [op] [b] pos) (AjA (tOp r ta tb)):=by
  intro pins s σ H Q I h
  refine wpAny_isTrue_Compare1 (thn (ha pins s σ H _ I h) fun v s1 ⟨x,H1,I1,r1,q1⟩=>thn (hb pins s1 σ H1 _ I1 q1) fun u s2 ⟨y,H2,I2,r2,q2⟩ =>
    thn (ho pins s2 σ H2 x y v u _ I2 r1 r2 q2) fun c s3 ⟨z,H3,I3,r3,k,e,q3⟩=>?_) hm
  subst e
  cases r3
  exact wpAny_truthy_bool ⟨H3,I3,q3⟩
noncomputable def Abo (r r':R2) (ta tb tc:TE):TE:=fun σ H Q=>ta σ H fun x H1=>tb σ H1 fun y H2=>r x y H2 fun z H3=>∃ k,z=.bl k ∧
  (if k=true then tc σ H3 fun w' H4=>r' y w' H4 Q else Q (.bl false) H3)
theorem Z0 {op op':CmpOp} {r r':R2} (ho:OpR X (compareOp op) r) (ho':OpR X (compareOp op') r') (ha:PE X a ta) (hb:PE X b tb) (hc:PE X c tc)
    (hm:lastMarks [op,op'] [b,c]=false:=by with_unfolding_all rfl):PE X (.Compare a [op,op'] [b,c] pos) (Abo r r' ta tb tc):=by
  intro pins s σ H Q I h
  refine Compare_chain (thn (ha pins s σ H _ I h) fun v s1 ⟨x,H1,I1,r1,q1⟩=>chain_link (thn (hb pins s1 σ H1 _ I1 q1) fun u s2 ⟨y,H2,I2,r2,q2⟩ =>
    thn (ho pins s2 σ H2 x y v u _ I2 r1 r2 q2) fun d s3 ⟨z,H3,I3,r3,k,e,q3⟩=>?_)) hm
  subst e
  cases r3
  refine wpAny_truthy_bool ?_
  cases k with
  | false=>exact ite_ff ⟨.bl false,H3,I3,rfl,q3⟩
  | true=>exact ite_tt (chain_last (thn (hc pins s3 σ H3 _ I3 q3) fun w' s4 ⟨z',H4,I4,r4,q4⟩=>ho' pins s4 σ H4 y z' u w' Q I4 r2 r4 q4))
theorem RK:(sizeLine:Nat) < 2 ^ 63:=by rw [sizeLine_eq];decide
theorem vals1 {x:V} {us:List Value} (r:Vals [x] us):∃ u,us=[u]∧RelV x u:=by
  cases r with
  | cons r1 r2=>cases r2;exact ⟨_,rfl,r1⟩
theorem vals2 {x y:V} {us:List Value} (r:Vals [x,y] us):∃ u w',us=[u,w']∧RelV x u∧RelV y w':=by
  cases r with
  | cons r1 r2 =>
    cases r2 with
    | cons r3 r4=>cases r4;exact ⟨_,_,rfl,r1,r3⟩
theorem Aaa:J7 X (.builtin "abs") (fun xs H Q=>∃ i,xs=[.int i]∧Q (.int (if i < 0 then -i else i)) H):=by
  intro pins s σ H xs us Q I r h
  obtain ⟨i,rfl,q⟩:=h
  obtain ⟨u,rfl,t,rfl⟩:=vals1 r
  exact call_abs_int fun u tk=>⟨.int (if i < 0 then -i else i),H,I.tok _,⟨_,rfl⟩,q⟩
theorem Yt (hc:X.calm=true):J7 X (.builtin "max") (fun xs H Q=>∃ i j,xs=[.int i,.int j]∧Q (.int (if j > i then j else i)) H):=by
  intro pins s σ H xs us Q I r h
  obtain ⟨i,j,rfl,q⟩:=h
  obtain ⟨u,w',rfl,⟨t,rfl⟩,⟨t',rfl⟩⟩:=vals2 r
  refine max_two_ints (I.ok.hd hc) fun h' tk k=>⟨_,H,I.kept k,?_,q⟩
  by_cases hj:j > i
  · rw [if_pos hj,if_pos hj];exact ⟨_,rfl⟩
  · rw [if_neg hj,if_neg hj];exact ⟨_,rfl⟩
end
end L2
namespace L2
open PySem PySem.Spec PyProof.Rows
structure WL (h:Heap) (x dx C:Addr) (mA:Str→Option Value):Prop where
  obj:h.get? x=some (PySem.W.instObj C dx)
  ns:h.Ns1 dx mA
  ne:dx≠x
theorem Zf {h:Heap} {dx:Addr} {mA:Str→Option Value} (n:h.Ns1 dx mA):∃ od,h.get? dx=some od∧∀ name,PySem.W.lookIn name od=some (mA name):=by
  obtain ⟨o,es,ep,ho,hd,hk,_,hm⟩:=n
  refine ⟨o,ho,fun name=>?_⟩
  have e:=hm name
  unfold nsFind findBy at e
  rw [←Array.find?_toList] at e
  unfold PySem.W.lookIn
  rw [hd]
  dsimp only
  split
  · rename_i y q
    rw [q] at e
    exact congrArg some e
  · rename_i q
    rw [q] at e
    have a:es.toList.any (·.refKey)=false:=by
      rw [List.any_eq_false]
      intro y hy
      obtain ⟨z,t,hkey⟩:=hk y (Array.mem_toList_iff.mp hy)
      simp [DictEntry.refKey,hkey]
    have a':¬ es.toList.any (·.refKey)=true:=by rw [a];exact Bool.false_ne_true
    rw [if_neg a']
    exact congrArg some e
theorem WL.look {h:Heap} {x dx C:Addr} {mA:Str→Option Value} (I:WL h x dx C mA):∃ od,PySem.W.InstAt h x (PySem.W.instObj C dx) C (some od)∧∀ name,PySem.W.lookIn name od=some (mA name) :=
  let ⟨od,ho,hl⟩:=Zf I.ns
  ⟨od,⟨I.obj,rfl,rfl,ho⟩,hl⟩
section
variable {prog:Program} {w:World} {A:Around} {E:Value→Shared→Prop} {s:Shared} {K:PySem.W.Frag} {x dx C f:Addr} {mA:Str→Option Value} {name:Str} {v:Value}
theorem get_map {expr:Bool} {Q:Value→Shared→Prop} (X:K.In s.heap) (I:WL s.heap x dx C mA) (hg:PySem.W.plainGet K C name=true) (hh:PySem.W.hasDictIn K C=true)
    (ha:PySem.W.findIn K (.ref C) name=some none) (hv:mA name=some v) (hv':PySem.W.handedIn v=true) (h:Q v { s with toks:=s.toks+1 }) :
    wpAny (model prog w) A (getAttr (.ref x) name expr) Q E s:=by
  obtain ⟨od,J,hl⟩:=I.look
  exact PySem.W.get_value X J (PySem.W.plainGet_of hg).1 (PySem.W.findObj_own hh ha rfl (by rw [hl,hv])) hv' h
theorem Aah {pl:Sem Bool} {Q:Value × List Value→Shared→Prop} (X:K.In s.heap) (I:WL s.heap x dx C mA) (hg:PySem.W.plainGet K C name=true)
    (hf:PySem.W.findIn K (.ref C) name=some (some (.ref f))) (ht:PySem.W.isFn K (.ref f)=true) (hv:mA name=none) (h:Q (.ref f,[.ref x]) s) :
    wpAny (model prog w) A (getMethod (.ref x) name pl) Q E s:=by
  obtain ⟨od,J,hl⟩:=I.look
  exact PySem.W.method_fn X J (PySem.W.plainGet_of hg).1 (PySem.W.plainGet_of hg).2 hf (beq_iff_eq.mp ht) (by show (PySem.W.lookIn name od).map (·.isSome)=some false;rw [hl,hv];rfl) h
theorem AcB {ns:List Str} {Q:Unit→Shared→Prop} (X:K.In s.heap) (I:WL s.heap x dx C mA)
    (hs:PySem.W.findIn K (.ref C) "__setattr__"=some (some (.builtin "object.__setattr__"))) (hp:PySem.W.plainOver K C=true) (ht:PySem.W.takerIn K C name=some none) (hh:PySem.W.hasDictIn K C=true)
    (hw:PySem.Within mA ns) (hsz:ns.length≤sizeLine)
    (h:∀ h',WL h' x dx C (fun y=>if y=name then some v else mA y)→Heap.SameBut dx s.heap h'→Q () { s with heap:=h',toks:=s.toks+2 }) :
    wpAny (model prog w) A (setAttr (.ref x) name v) Q E s:=by
  obtain ⟨od,J,hl⟩:=I.look
  refine PySem.W.set_plain X J hs (PySem.W.osa_open (s:={ s with toks:=s.toks+1 }) (r:=none) X J hp ht fun b=>?_)
  obtain ⟨cd,hc,hd'⟩:=PySem.W.any_some hh
  have hx:s.heap.get? x=some ⟨.ref C,some dx,.plain,#[]⟩:=I.obj
  refine wpAny_bind (wpAny_pure (wpAny_bind (wpAny_bind (wpAny_loadPart hx (wpAny_bind (PySem.W.Looks.here (s:={ s with toks:=s.toks+1 }) (PySem.W.looks_clsIn X hc) ?_))))))
  rw [hd']
  refine wpAny_pure (a:=some dx) (wpAny_bind (wpAny_pure (wpAny_bind ?_)))
  refine wpAny_nsSet1 (s:={ s with toks:=s.toks+1 }) I.ns fun h' hn2 hs2=>?_
  obtain ⟨oD,esD,epD,hoD,hdD,hcD⟩:=hn2.count (PySem.Within.cons name v hw)
  refine wpAny_bind (wpAny_lookBehind hoD (by rw [hdD];exact pastItsLine_dict (Nat.le_trans hcD (by rw [List.length_cons];omega))) ?_)
  exact wpAny_pure (h _ ⟨(hs2.2 _ (Ne.symm I.ne)).trans I.obj,hn2,I.ne⟩ hs2)
theorem ZP {R:Result→Shared→Prop} {vs:List Value} {kw:List (Str × Value)} (X:K.In s.heap) (hm:PySem.W.makesIn K C=true)
    (hi:PySem.W.findIn K (.ref C) "__init__"=some (some (.ref f))) (hf:PySem.W.typeIn K (.ref f)=some (.type "function"))
    (h:codeAny (model prog w) (A.under (.builtin "type.__call__" ⟨.ref C :: vs,kw⟩)) (.call (.ref f) ⟨.ref (s.heap.objs.size+1) :: vs,kw⟩) (PySem.W.InitBack (s.heap.objs.size+1) R)
      { s with heap:=(s.heap.push PySem.W.emptyDict).push (PySem.W.instObj C s.heap.objs.size) }) :
    codeAny (model prog w) A (.call (.ref C) ⟨vs,kw⟩) R s:=by
  obtain ⟨hh,g,d,t,os⟩:=s
  exact PySem.W.make_core (PySem.W.makes_of X hm) (PySem.W.looks_findIn X hi) (fun self=>PySem.W.bind_fn X self hf) (.inl rfl) h
end
noncomputable def Hh (f:Str) (v:V):List (Str × V)→List (Str × V)
  | []=>[(f,v)]
  | (g,x) :: r=>if g=f then (g,v) :: r else (g,x) :: Hh f v r
theorem Ni (f g:Str) (v:V):∀ fs:List (Str × V),(Hh f v fs).lookup g=if g=f then some v else fs.lookup g
  | []=>by
    show List.lookup g [(f,v)]=_
    by_cases h:g=f
    · have hb:(g == f)=true:=beq_iff_eq.mpr h
      simp only [List.lookup,hb,if_pos h]
    · have hb:(g == f)=false:=beq_eq_false_iff_ne.mpr h
      simp only [List.lookup,hb,if_neg h]
  | (k,x) :: r=>by
    have ih:=Ni f g v r
    rw [show Hh f v ((k,x) :: r)=(if k=f then (k,v) :: r else (k,x) :: Hh f v r) from rfl]
    by_cases hk:k=f
    · rw [if_pos hk]
      by_cases h:g=k
      · have hb:(g == k)=true:=beq_iff_eq.mpr h
        simp only [List.lookup,hb,if_pos (h.trans hk)]
      · have hb:(g == k)=false:=beq_eq_false_iff_ne.mpr h
        simp only [List.lookup,hb,if_neg (fun e:g=f=>h (e.trans hk.symm))]
    · rw [if_neg hk]
      by_cases h:g=k
      · have hb:(g == k)=true:=beq_iff_eq.mpr h
        simp only [List.lookup,hb,if_neg (fun e:g=f=>hk (h.symm.trans e))]
      · have hb:(g == k)=false:=beq_eq_false_iff_ne.mpr h
        simp only [List.lookup,hb]
        exact ih
theorem M5 (f:Str) (v:V):∀ fs:List (Str × V),f∈(Hh f v fs).map (·.1)∧∀ g,g∈fs.map (·.1)→g∈(Hh f v fs).map (·.1)
  | []=>⟨by simp [Hh],fun g h=>by simp at h⟩
  | (k,x) :: r=>by
    obtain ⟨i1,i2⟩:=M5 f v r
    rw [show Hh f v ((k,x) :: r)=(if k=f then (k,v) :: r else (k,x) :: Hh f v r) from rfl]
    by_cases hk:k=f
    · rw [if_pos hk]
      subst hk
      exact ⟨by simp,fun g h=>by simpa using h⟩
    · rw [if_neg hk]
      refine ⟨?_,fun g h=>?_⟩
      · rw [List.map_cons]
        exact List.mem_cons_of_mem _ i1
      · rw [List.map_cons] at h ⊢
        rcases List.mem_cons.mp h with e | e
        · exact List.mem_cons.mpr (.inl e)
        · exact List.mem_cons_of_mem _ (i2 g e)
theorem Nb (f:Str) (v:V):∀ fs:List (Str × V),(Hh f v fs).length≤fs.length+1
  | []=>by simp [Hh]
  | (k,x) :: r=>by
    have ih:=Nb f v r
    rw [show Hh f v ((k,x) :: r)=(if k=f then (k,v) :: r else (k,x) :: Hh f v r) from rfl]
    by_cases hk:k=f
    · rw [if_pos hk,List.length_cons,List.length_cons];omega
    · rw [if_neg hk,List.length_cons,List.length_cons];omega
theorem QS.some_of {v:V} {o:Option Value} (r:QS (some v) o):∃ u,o=some u∧RelV v u:=by
  cases o with
  | none=>exact (show False from r).elim
  | some u=>exact ⟨u,rfl,r⟩
theorem QS.none_of {o:Option Value} (r:QS none o):o=none:=by
  cases o with
  | none=>rfl
  | some u=>exact (show False from r).elim
theorem Yq {v:V} {u:Value} (r:RelV v u):PySem.W.handedIn u=true:=by
  cases v with
  | non=>cases (show u=Value.none from r);rfl
  | bl b=>cases (show u=Value.bool b from r);rfl
  | int i=>obtain ⟨t,e⟩:=(show ∃ t,u=Value.int i t from r);cases e;rfl
  | str x=>obtain ⟨t,e⟩:=(show ∃ t,u=Value.str x t from r);cases e;rfl
  | byt b=>obtain ⟨t,e⟩:=(show ∃ t,u=Value.bytes b t from r);cases e;rfl
  | flt b=>obtain ⟨t,e⟩:=(show ∃ t,u=Value.float b t from r);cases e;rfl
  | ref a=>cases (show u=Value.ref a from r);rfl
  | ty n=>cases (show u=Value.type n from r);rfl
section
variable {P:Program} {w:World} {H H':Hp} {h h':Heap} {a C dx:Addr} {fs fs':List (Str × V)}
theorem Tq (hok:HOk P w H h) (e:H a=some (.ins C dx fs)):∃ mA,WL h a dx C mA∧(∀ f,QS (fs.lookup f) (mA f))∧PySem.Within mA (fs.map (·.1))∧fs.length≤1000∧H dx=some (.own a):=by
  obtain ⟨d,z,ne,ob,mA,n,r,q⟩:=(show Hl P w H h a (.ins C dx fs) from hok a _ e)
  exact ⟨mA,⟨ob,n,ne⟩,r,q,z,d⟩
end
structure Cls (K:PySem.W.Frag) (C:Addr):Prop where
  pg:PySem.W.plainGet K C Str.empty=true
  hd:PySem.W.hasDictIn K C=true
  po:PySem.W.plainOver K C=true
  sa:PySem.W.findIn K (.ref C) "__setattr__"=some (some (.builtin "object.__setattr__"))
theorem Cls.get {K:PySem.W.Frag} {C:Addr} (c:Cls K C) (f:Str):PySem.W.plainGet K C f=true:=c.pg
noncomputable def Hu (K:PySem.W.Frag) (C:Addr) (f:Str):Prop:=PySem.W.findIn K (.ref C) f=some none
theorem Hu.taker {K:PySem.W.Frag} {C:Addr} {f:Str} (n:Hu K C f):PySem.W.takerIn K C f=some none:=by
  unfold PySem.W.takerIn
  rw [show PySem.W.findIn K (.ref C) f=some none from n]
  rfl
structure Meth (K:PySem.W.Frag) (C:Addr) (m:Str) (f:Addr):Prop where
  at_:PySem.W.findIn K (.ref C) m=some (some (.ref f))
  fn:PySem.W.isFn K (.ref f)=true
  kp:PySem.W.keepIn K (.ref f)=true
section
variable {X:Cx} {pins:List (Addr × Obj)} {σ:St} {H:Hp} {s:Shared} {a C dx:Addr} {fs:List (Str × V)} {f:Str} {v:V} {A:Around} {E:Value→Shared→Prop}
theorem Vx {b:Bool} {Q:Value→Shared→Prop} (I:Inv X pins σ H s) (e:H a=some (.ins C dx fs)) (c:Cls X.K C) (n:Hu X.K C f) (l:fs.lookup f=some v)
    (h:∀ u s',Inv X pins σ H s'→RelV v u→Q u s'):wpAny (model X.prog X.w) A (getAttr (.ref a) f b) Q E s:=by
  obtain ⟨mA,O,r,_,_,_⟩:=Tq I.hok e
  obtain ⟨u,hu,ru⟩:=QS.some_of (v:=v) (o:=mA f) (by rw [←l];exact r f)
  exact get_map I.kIn O (c.get f) c.hd n hu (Yq ru) (h u _ (I.tok _) ru)
theorem V9 {m:Str} {g:Addr} {pl:Sem Bool} {Q:Value × List Value→Shared→Prop} (I:Inv X pins σ H s) (e:H a=some (.ins C dx fs)) (c:Cls X.K C) (k:Meth X.K C m g) (l:fs.lookup m=none)
    (h:Q (.ref g,[.ref a]) s):wpAny (model X.prog X.w) A (getMethod (.ref a) m pl) Q E s:=by
  obtain ⟨mA,O,r,_,_,_⟩:=Tq I.hok e
  have hn:mA m=none:=QS.none_of (by rw [←l];exact r m)
  exact Aah I.kIn O (c.get m) k.at_ k.fn hn h
theorem Wq {y:V} {u:Value} {Q:Unit→Shared→Prop} (I:Inv X pins σ H s) (e:H a=some (.ins C dx fs)) (c:Cls X.K C) (n:Hu X.K C f) (hl:fs.length < 1000) (ry:RelV y u)
    (h:∀ s',Inv X pins σ (upd H a (.ins C dx (Hh f y fs))) s'→Q () s'):wpAny (model X.prog X.w) A (setAttr (.ref a) f u) Q E s:=by
  obtain ⟨mA,O,r,wi,_,ho⟩:=Tq I.hok e
  have hz:(fs.map (·.1)).length≤sizeLine:=by rw [List.length_map,sizeLine_eq];omega
  refine AcB I.kIn O c.sa c.po n.taker c.hd wi hz fun h' O' sb=>h _ ?_
  have hd:∃ o,h'.get? dx=some o:=let ⟨o,_,_,e',_⟩:=O'.ns;⟨o,e'⟩
  refine I.write (x:=a) (e:=dx) (by rw [e];exact True.intro) (.inr ho) (fun b q hb z=>(sb.2 b hb).trans z) hd ?_
  refine ⟨by rw [Aw O.ne];exact ho,?_,O.ne,O'.obj,_,O'.ns,fun g=>?_,fun g hg=>?_⟩
  · have:=Nb f y fs;omega
  · show QS ((Hh f y fs).lookup g) (if g=f then some u else mA g)
    rw [Ni]
    by_cases q:g=f
    · rw [if_pos q,if_pos q];exact ry
    · rw [if_neg q,if_neg q];exact r g
  · by_cases q:g=f
    · rw [q];exact (M5 f y fs).1
    · refine (M5 f y fs).2 g (wi g fun z=>hg ?_)
      show (if g=f then some u else mA g)=none
      rw [if_neg q];exact z
theorem Inv.made (I:Inv X pins σ H s):Inv X pins σ (upd (upd H s.heap.objs.size (.own (s.heap.objs.size+1))) (s.heap.objs.size+1) (.ins C s.heap.objs.size []))
    { s with heap:=(s.heap.push PySem.W.emptyDict).push (PySem.W.instObj C s.heap.objs.size) }:=by
  have e1:(s.heap.push PySem.W.emptyDict).get? s.heap.objs.size=some PySem.W.emptyDict:=Heap.get?_push_size s.heap rfl
  have e2:((s.heap.push PySem.W.emptyDict).push (PySem.W.instObj C s.heap.objs.size)).get? (s.heap.objs.size+1)=some (PySem.W.instObj C s.heap.objs.size):=by
    have:=Heap.get?_push_size (s.heap.push PySem.W.emptyDict) (o:=PySem.W.instObj C s.heap.objs.size) rfl
    rwa [Heap.size_push] at this
  have e3:(s.heap.push PySem.W.emptyDict).Ns s.heap.objs.size (fun _=>none):=⟨PySem.W.emptyDict,#[],_,e1,rfl,(fun e he=>absurd he (by simp)),fun _=>rfl⟩
  have I1:=I.laid (a:=s.heap.objs.size) (o:=.own (s.heap.objs.size+1)) (h':=s.heap.push PySem.W.emptyDict) (t':=s.toks) (fun b u q=>Heap.get?_push_of_some _ q) (Nat.le_refl _) ⟨_,e1⟩
  refine I1.laid (a:=s.heap.objs.size+1) (o:=.ins C s.heap.objs.size []) (t':=s.toks) (fun b u q=>Heap.get?_push_of_some _ q) (Nat.le_of_eq (Heap.size_push _ _)) ?_
  have ne:s.heap.objs.size≠s.heap.objs.size+1:=Nat.ne_of_lt (Nat.lt_succ_self _)
  refine ⟨by rw [Aw ne,Bh],Nat.zero_le _,ne,e2,fun _=>none,(Heap.Ns1.of_empty e3).at fun o q=>Heap.get?_push_of_some _ q,fun _=>True.intro,fun y hy=>absurd rfl hy⟩
theorem Adz {prog:Program} {w:World} {env:Env} {e:Expr} {f:Str} {pos:Pos} {s:Shared} {Q:Value→Shared→Prop} (hb:attributeBase e f env (eval e env)=eval e env)
    (h:wpAny (model prog w) A (eval e env) (fun o s₁=>wpAny (model prog w) A (getAttr o f true) Q E s₁) E s):wpAny (model prog w) A (eval (.Attribute e f pos) env) Q E s :=
  Attribute_any_ h (by rw [arm_eval_Attribute,hb])
end
noncomputable def Alx (K:PySem.W.Frag) (ta:TE) (f:Str):TE:=fun σ H Q=>ta σ H fun x H1=>∃ a C dx fs v,x=.ref a∧H1 a=some (.ins C dx fs)∧Cls K C∧Hu K C f∧fs.lookup f=some v∧Q v H1
noncomputable def Aky (K:PySem.W.Frag) (ta tv:TE) (f:Str):TS:=fun D σ H=>tv σ H fun y H1=>ta σ H1 fun x H2=>∃ a C dx fs,x=.ref a∧H2 a=some (.ins C dx fs)∧Cls K C∧Hu K C f∧fs.length < 1000 ∧
  D.nx σ (upd H2 a (.ins C dx (Hh f y fs)))
section
variable {X:Cx} {o e value:Expr} {f:Str} {pos pos' tpos:Pos} {ta tv:TE}
theorem Agp (he:PE X e ta) (hb:attributeBase e f X.env (eval e X.env)=eval e X.env):PE X (.Attribute e f pos) (Alx X.K ta f):=by
  intro pins s σ H Q I h
  refine Adz hb (thn (he pins s σ H _ I h) fun u s1 ⟨x,H1,I1,rx,a,C,dx,fs,v,ex,ea,c,n,l,q⟩=>?_)
  subst ex
  obtain rfl:u=Value.ref a:=rx
  exact Vx I1 ea c n l fun u' s2 I2 ru=>⟨v,H1,I2,ru,q⟩
theorem VG (ha:PE X o ta) (hv:PE X value tv) (hs:swapsWith value (some (.Attribute o f pos')) pos.line X.env=pure false):PS X (.Assign [.Attribute o f pos'] value pos) (Aky X.K ta tv f):=by
  intro pins s σ H D I h
  refine plainObj_wpAny_Assign_Attribute (thn (hv pins s σ H _ I h) fun u s1 ⟨y,H1,I1,ry,q⟩=>thn (ha pins s1 σ H1 _ I1 q) fun ov s2 ⟨x,H2,I2,rx,a,C,dx,fs,ex,ea,c,n,l,q2⟩=>?_) hs
  subst ex
  obtain rfl:ov=Value.ref a:=rx
  exact Wq I2 ea c n l ry fun s3 I3=>⟨σ,_,I3,q2⟩
end
section
variable {X:Cx} {pins:List (Addr × Obj)} {σ:St} {H:Hp} {s:Shared} {A:Around} {E:Value→Shared→Prop} {Q:Value→Shared→Prop} {c:Value} {b:Bool}
end
end L2
namespace L2
open PySem PySem.Spec PyProof.Rows
structure Et (k:Nat) (A:Around):Prop where
  hd:A.handled=none
  dp:A.depth+3*k+5 < recursionLimit
  un:A.units+16*k+200 < cLine
theorem Et.mono {j k:Nat} {A:Around} (r:Et k A) (h:j≤k):Et j A:=⟨r.hd,by have:=r.dp;omega,by have:=r.un;omega⟩
theorem Et.deeper {k:Nat} {A:Around} (r:Et (k+1) A) (env:Env):Et k (A.deeper env) :=
  ⟨r.hd,by have:=r.dp;show A.depth+1+3*k+5 < _;omega,by have:=r.un;show A.units+3+16*k+200 < _;omega⟩
theorem VH {A:Around} {C:Addr} {us:List Value} {kw:List (Str × Value)}:(A.under (.builtin "type.__call__" ⟨.ref C :: us,kw⟩)).depth=A.depth+1:=by
  first | rfl | simp [Around.under,Code.weight,Code.isCreation,Code.isGuard,Code.isCaller,Code.frames,Code.isFrame,guardIds]
theorem VD {A:Around} {C:Addr} {us:List Value} {kw:List (Str × Value)}:(A.under (.builtin "type.__call__" ⟨.ref C :: us,kw⟩)).units=A.units+1:=by
  first | rfl | simp [Around.under,Code.cUnits,Code.frames,Code.isFrame]
theorem Et.make {k:Nat} {A:Around} (r:Et (k+1) A) (C:Addr) (us:List Value) (kw:List (Str × Value)):Et k (A.under (.builtin "type.__call__" ⟨.ref C :: us,kw⟩)) :=
  ⟨r.hd,by have:=r.dp;rw [VH];omega,by have:=r.un;rw [VD];omega⟩
theorem Et.depth {k:Nat} {A:Around} (r:Et k A):A.depth < recursionLimit:=by have:=r.dp;omega
theorem Et.units {k:Nat} {A:Around} (r:Et k A):A.units+64 < cLine:=by have:=r.un;omega
noncomputable def Aj0:TA:=fun _ H Q=>Q [] H
noncomputable def AhJ (ta:TE) (tr:TA):TA:=fun σ H Q=>ta σ H fun x H1=>tr σ H1 fun xs H2=>Q (x :: xs) H2
section
variable {X:Cx} {e:Expr} {es:List Expr} {te:TE} {t:TA} {pos:Pos}
theorem S7:PA X [] Aj0:=fun _ _ _ _ H Q I h=>Calls.spliced_nil ⟨[],H,I,.nil,h⟩
theorem JF (ha:PE X e te) (hr:PA X es t) (hs:starEach (e :: es) X.env=(false,eval e X.env) :: starEach es X.env:=by rfl):PA X (e :: es) (AhJ te t):=by
  intro pos pins s σ H Q I h
  rw [hs]
  show wpAny _ _ (spliced ((false,eval e X.env) :: backTo pos (starEach es X.env))) _ _ s
  refine Calls.spliced_cons (thn (ha pins s σ H _ I h) fun u s1 ⟨x,H1,I1,r1,q1⟩=>?_)
  exact thn (hr pos pins s1 σ H1 _ I1 q1) fun us s2 ⟨xs,H2,I2,r2,q2⟩=>⟨x :: xs,H2,I2,.cons r1 r2,q2⟩
noncomputable def Ak7 (t:TA):TE:=fun σ H Q=>t σ H fun xs H1=>xs.length≤sizeLine∧∀ p,H1 p=none→Q (.ref p) (upd H1 p (.tup xs))
noncomputable def Alp (t:TA):TE:=fun σ H Q=>t σ H fun xs H1=>xs.length≤sizeLine∧∀ p,H1 p=none→Q (.ref p) (upd H1 p (.lst xs))
theorem Afi {x1} (h:PA X es t):PE X (.Tuple es x1 pos) (Ak7 t):=by
  intro pins s σ H Q I hq
  refine wpAny_Tuple_spliced (thn (h pos pins s σ H _ I hq) fun us s1 ⟨xs,H1,I1,r,z,q⟩=>⟨by rw [←r.length];exact z,?_⟩)
  have hf:H1 s1.heap.objs.size=none:=I1.hok.fresh (Nat.le_refl _)
  refine ⟨.ref s1.heap.objs.size,upd H1 s1.heap.objs.size (.tup xs),I1.laid (t':=s1.toks) (fun b u e=>Heap.get?_push_of_some _ e) (Nat.le_refl _) ?_,rfl,q _ hf⟩
  exact ⟨z,us,r,⟨_,Heap.get?_push_size _ rfl,rfl,_,rfl⟩⟩
theorem Z9 (h:PA X es t):PE X (.List es pos) (Alp t):=by
  intro pins s σ H Q I hq
  refine wpAny_List_spliced (thn (h pos pins s σ H _ I hq) fun us s1 ⟨xs,H1,I1,r,z,q⟩=>⟨by rw [←r.length];exact z,?_⟩)
  have hf:H1 s1.heap.objs.size=none:=I1.hok.fresh (Nat.le_refl _)
  refine ⟨.ref s1.heap.objs.size,upd H1 s1.heap.objs.size (.lst xs),I1.laid (t':=s1.toks) (fun b u e=>Heap.get?_push_of_some _ e) (Nat.le_refl _) ?_,rfl,q _ hf⟩
  exact ⟨z,us,0,r,Heap.get?_push_size _ rfl⟩
end
noncomputable abbrev Sp:=List V→Hp→VK→XK→Prop
noncomputable abbrev CXT:=List Env→Hp→Shared→XK→Value→Shared→Prop
structure Wz (P:Program) (w:World) (K:PySem.W.Frag) (mg:Str→Option Value) (base:Heap) (A:Around) (outer:List Env) (s:Shared) (H:Hp):Prop where
  frames:A.frames=some outer
  mod:Mod K mg base
  bs:∀ b o,base.get? b=some o→s.heap.get? b=some o∧H b=none
  bsz:base.objs.size≤s.heap.objs.size
  funs:s.heap.FunFrames base outer
  frf:∀ b∈frs outer,H b=none
  hok:HOk P w H s.heap
  bare:AllBare s.gens
noncomputable def CE (outer:List Env) (P:Program) (w:World) (H:Hp) (s:Shared) (Q:VK) (u:Value) (s':Shared):Prop :=
  ∃ v H',s'.os=s.os∧AllBare s'.gens∧Un (frs outer) [] H H' s.heap s'.heap∧HOk P w H' s'.heap∧RelV v u∧Q v H'
noncomputable def CR (CX:CXT) (outer:List Env) (P:Program) (w:World) (H:Hp) (s:Shared) (Q:VK) (E:XK) (r:Result) (s':Shared):Prop :=
  match r with
  | .ok (.ret u)=>CE outer P w H s Q u s'
  | .ok _=>False
  | .error e=>CX outer H s E e s'
structure Ho (P:Program) (w:World) (K:PySem.W.Frag) (mg:Str→Option Value) (base:Heap) (CX:CXT) (k:Nat) (f:Addr) (fd:FuncData) (ps:List Str) (sp:Sp):Prop where
  len:∀ vs H Q E,sp vs H Q E→vs.length=ps.length
  run:∀ (A:Around) (outer:List Env) (s:Shared) (H:Hp) (args:Args) (us:List Value) (vs:List V) (Q:VK) (E:XK),Et k A→Wz P w K mg base A outer s H→BindsTo s fd args (ps.zip us)→Vals vs us→sp vs H Q E →
    codeAny (model P w) A (.call (.ref f) args) (CR CX outer P w H s Q E) s
theorem Wz.make {P:Program} {w:World} {K:PySem.W.Frag} {mg:Str→Option Value} {base:Heap} {A:Around} {outer:List Env} {s:Shared} {H:Hp} (e:Wz P w K mg base A outer s H) (C:Addr) (us:List Value) (kw:List (Str × Value)) :
    Wz P w K mg base (A.under (.builtin "type.__call__" ⟨.ref C :: us,kw⟩)) outer s H:=⟨by first | exact e.frames | (simpa [Around.under,Code.envs,Code.isFrame,pushEnvs] using e.frames),e.mod,e.bs,e.bsz,e.funs,e.frf,e.hok,e.bare⟩
section
variable {X:Cx} {pins:List (Addr × Obj)} {σ:St} {H:Hp} {s s':Shared}
theorem Inv.env0 (I:Inv X pins σ H s):Wz X.prog X.w X.K X.mg X.base X.A X.stack s H :=
  ⟨I.ok.frames,I.ok.mod,I.bs,Nat.le_trans I.ok.bsz I.sz,I.stack,I.stkFree,I.hok,I.bare⟩
theorem Inv.after {Q:VK} {u:Value} (I:Inv X pins σ H s) (h:CE X.stack X.prog X.w H s Q u s'):EP X pins σ Q u s':=by
  obtain ⟨v,H',os,bare,un,hok,r,q⟩:=h
  obtain ⟨hh,g,d,t,os'⟩:=s'
  obtain rfl:os'=s.os:=os
  exact ⟨v,H',I.call (h':=hh) (g':=g) (d':=d) (t':=t) (ch:=[]) un hok bare (fun b z=>absurd z (by simp)),r,q⟩
end
noncomputable def Aec (sp:Sp) (dvs:List V) (E:XK) (t:TA):TE:=fun σ H Q=>t σ H fun vs H1=>sp (vs ++ dvs) H1 Q E
noncomputable def AhE (C:Addr) (sp:Sp) (dvs:List V) (E:XK) (t:TA):TE:=fun σ H Q=>t σ H fun vs H1=>∀ x dx,H1 x=none→H1 dx=none→dx≠x →
  sp (.ref x :: (vs ++ dvs)) (upd (upd H1 dx (.own x)) x (.ins C dx [])) (fun v H2=>v=.non∧Q (.ref x) H2) E
noncomputable def Binds (K:PySem.W.Frag) (fd:FuncData) (ps:List Str) (ds:List Value):Prop :=
  ∀ (s:Shared) (us:List Value),K.In s.heap→(us ++ ds).length=ps.length→BindsTo s fd ⟨us,[]⟩ (ps.zip (us ++ ds))
theorem Binds.all {K:PySem.W.Frag} {fd:FuncData} {ps:List Str} (h:∀ us:List Value,us.length=ps.length→bindArgs fd ⟨us,[]⟩=pure (ps.zip us)):Binds K fd ps []:=fun s us _ hl=>by
  rw [List.append_nil] at hl ⊢
  exact .of_eq (h us hl)
noncomputable def Passes (CX:CXT) (X:Cx) (E:XK):Prop:=∀ (pins:List (Addr × Obj)) (σ:St) (H:Hp) (s:Shared) (e:Value) (s':Shared),Inv X pins σ H s→CX X.stack H s E e s'→X.xe e s'
section
variable {X:Cx} {CX:CXT} {k:Nat} {f C:Addr} {fd:FuncData} {ps:List Str} {sp:Sp} {dvs:List V} {ds:List Value} {E:XK} {x m:Str} {p pos apos:Pos} {e o:Expr} {es:List Expr} {ta:TE} {t:TA}
theorem Wc {pins:List (Addr × Obj)} {σ:St} {H:Hp} {s:Shared} {Q:VK} {us:List Value} {vs:List V} (F:Ho X.prog X.w X.K X.mg X.base CX k f fd ps sp) (hr:Et k X.A) (hb:Binds X.K fd ps ds) (hd:Vals dvs ds) (hx:Passes CX X E)
    (I:Inv X pins σ H s) (r:Vals vs us) (h:sp (vs ++ dvs) H Q E):wpAny (model X.prog X.w) X.A (call (.ref f) us) (EP X pins σ Q) X.xe s:=by
  have r2:Vals (vs ++ dvs) (us ++ ds):=r.append hd
  have hl:(us ++ ds).length=ps.length:=by rw [←r2.length];exact F.len _ _ _ _ h
  refine wpAny_call (codeAny_mono (F.run X.A X.stack s H ⟨us,[]⟩ (us ++ ds) (vs ++ dvs) Q E hr I.env0 (hb s us I.kIn hl) r2 h) fun r s' hq=>?_)
  cases r with
  | error e=>exact hx pins σ H s e s' I hq
  | ok fl =>
    cases fl with
    | ret u=>exact I.after hq
    | next=>exact False.elim hq
    | brk=>exact False.elim hq
    | cont=>exact False.elim hq
theorem AcT (F:Ho X.prog X.w X.K X.mg X.base CX k f fd ps sp) (hr:Et k X.A) (hg:Gl X x) (hm:X.mg x=some (.ref f)) (hk:PySem.W.keepIn X.K (.ref f)=true) (hb:Binds X.K fd ps ds) (hd:Vals dvs ds) (hx:Passes CX X E)
    (ha:PA X (e :: es) t) (hdb:(x == ("__debug__":Str))=false:=by decide) (he:starEach (e :: es) X.env=(false,eval e X.env) :: starEach es X.env:=by rfl) (hpl:(backTo pos (starEach es X.env)).any (·.1)=false:=by rfl) :
    PE X (.Call (.Name x p) (e :: es) [] pos) (Aec sp dvs E t):=by
  intro pins s σ H Q I h
  refine wpAny_Call_Name_kw (Tc I hg hm ?_ hdb)
  refine PySem.W.callWith_K (h₀:=X.base) I.ok.mod.kin hk (thn (ha pos pins s σ H _ I h) fun us s1 ⟨vs,H1,I1,r,q⟩=>⟨I1.kIn,?_⟩) he hpl
  exact Wc F hr hb hd hx I1 r q
structure Mk (K:PySem.W.Frag) (C f:Addr):Prop where
  makes:PySem.W.makesIn K C=true
  init:PySem.W.findIn K (.ref C) "__init__"=some (some (.ref f))
  fn:PySem.W.isFn K (.ref f)=true
  kp:PySem.W.keepIn K (.ref C)=true
theorem Abz {pins:List (Addr × Obj)} {σ:St} {H:Hp} {s:Shared} {Q:VK} {us:List Value} {vs:List V} (M:Mk X.K C f) (F:Ho X.prog X.w X.K X.mg X.base CX k f fd ps sp) (hr:Et (k+1) X.A) (hb:Binds X.K fd ps ds) (hd:Vals dvs ds)
    (hx:Passes CX X E) (I:Inv X pins σ H s) (r:Vals vs us)
    (h:∀ x dx,H x=none→H dx=none→dx≠x→sp (.ref x :: (vs ++ dvs)) (upd (upd H dx (.own x)) x (.ins C dx [])) (fun v H2=>v=.non∧Q (.ref x) H2) E) :
    wpAny (model X.prog X.w) X.A (call (.ref C) us) (EP X pins σ Q) X.xe s:=by
  have hq:=h (s.heap.objs.size+1) s.heap.objs.size (I.hok.fresh (Nat.le_succ _)) (I.hok.fresh (Nat.le_refl _)) (Nat.ne_of_lt (Nat.lt_succ_self _))
  have I2:=Inv.made (C:=C) I
  have r2:Vals (V.ref (s.heap.objs.size+1) :: (vs ++ dvs)) (Value.ref (s.heap.objs.size+1) :: (us ++ ds)):=.cons rfl (r.append hd)
  have hl:(Value.ref (s.heap.objs.size+1) :: us ++ ds).length=ps.length:=by
    have e:=r2.length
    rw [F.len _ _ _ _ hq] at e
    exact e.symm
  refine wpAny_call (ZP (f:=f) I.kIn M.makes M.init (beq_iff_eq.mp M.fn) (codeAny_mono (F.run _ X.stack _ _ ⟨Value.ref (s.heap.objs.size+1) :: us,[]⟩ (Value.ref (s.heap.objs.size+1) :: (us ++ ds)) _ _ E (hr.make C us [])
    (I2.env0.make C us []) (hb _ (Value.ref (s.heap.objs.size+1) :: us) I2.kIn hl) r2 hq) fun r s' hq'=>?_))
  cases r with
  | error e=>exact hx pins σ _ _ e s' I2 hq'
  | ok fl =>
    cases fl with
    | ret u =>
      obtain ⟨v,H',I3,rv,ev,q3⟩:=I2.after hq'
      subst ev
      exact ⟨rv,⟨V.ref (s.heap.objs.size+1),H',I3,rfl,q3⟩⟩
    | next=>exact False.elim hq'
    | brk=>exact False.elim hq'
    | cont=>exact False.elim hq'
theorem AbQ (M:Mk X.K C f) (F:Ho X.prog X.w X.K X.mg X.base CX k f fd ps sp) (hr:Et (k+1) X.A) (hg:Gl X x) (hm:X.mg x=some (.ref C)) (hb:Binds X.K fd ps ds) (hd:Vals dvs ds) (hx:Passes CX X E)
    (ha:PA X (e :: es) t) (hdb:(x == ("__debug__":Str))=false:=by decide) (he:starEach (e :: es) X.env=(false,eval e X.env) :: starEach es X.env:=by rfl) (hpl:(backTo pos (starEach es X.env)).any (·.1)=false:=by rfl) :
    PE X (.Call (.Name x p) (e :: es) [] pos) (AhE C sp dvs E t):=by
  intro pins s σ H Q I h
  refine wpAny_Call_Name_kw (Tc I hg hm ?_ hdb)
  refine PySem.W.callWith_K (h₀:=X.base) I.ok.mod.kin M.kp (thn (ha pos pins s σ H _ I h) fun us s1 ⟨vs,H1,I1,r,q⟩=>⟨I1.kIn,?_⟩) he hpl
  exact Abz M F hr hb hd hx I1 r q
end
section
variable {X:Cx} {CX:CXT} {k:Nat} {f C:Addr} {fd:FuncData} {ps ks:List Str} {sp:Sp} {E:XK} {x m:Str} {p pos apos kpos:Pos} {e o:Expr} {es:List Expr} {kws:List Keyword} {te ta:TE} {t tk:TA} {nm:Option Str}
variable {g:List Value→List Value→List Value} {gV:List V→List V→List V}
end
structure Am (N P:List Str) (sc:Scope):Prop where
  kind:sc.kind=.function
  co:sc.isCoroutine=false
  gen:sc.isGenerator=false
  nd:N.Nodup
  pre:N.take P.length=P
  par:∀ x∈P,sc.names.lookup x=some .local∨sc.names.lookup x=some .cell
  nofree:∀ y∈sc.names,y.2≠.free
theorem RB {kindOf:Str→Option NameKind} {x:Str}:∀ {binds:List (Str × Value)} {m:Str→Option Value},(∀ v,(x,v)∉binds)→bindL kindOf binds m x=m x
  | [],_,_=>rfl
  | (n,v) :: r,m,h=>by
    unfold bindL
    rw [RB fun w hw=>h w (List.mem_cons_of_mem _ hw)]
    split
    · have:x≠n:=by rintro rfl;exact h v List.mem_cons_self
      simp [this]
    · rfl
theorem Rj {kindOf:Str→Option NameKind} {x:Str}:∀ {binds:List (Str × Value)} {m:Str→Option Value},(∀ v,(x,v)∉binds)→bindC kindOf binds m x=m x
  | [],_,_=>rfl
  | (n,v) :: r,m,h=>by
    unfold bindC
    rw [Rj fun w hw=>h w (List.mem_cons_of_mem _ hw)]
    split
    · rfl
    · have:x≠n:=by rintro rfl;exact h v List.mem_cons_self
      simp [this]
theorem Ry {kindOf:Str→Option NameKind} {x:Str} {v:Value}:∀ {P:List Str} {vs:List Value} {i:Nat} {m:Str→Option Value},P.Nodup→P[i]? = some x→vs[i]? = some v→kindOf x=some .local →
    bindL kindOf (P.zip vs) m x=some v
  | [],_,_,_,_,h,_,_=>by simp at h
  | _ :: _,[],_,_,_,_,h,_=>by simp at h
  | p :: P,w :: vs,0,m,nd,h1,h2,hk=>by
    simp at h1 h2;subst h1;subst h2
    show bindL kindOf ((p,w) :: P.zip vs) m p=_
    unfold bindL
    rw [RB fun v hv=>(List.nodup_cons.mp nd).1 (List.of_mem_zip hv).1,if_pos hk]
    simp
  | p :: P,w :: vs,i+1,m,nd,h1,h2,hk=>by
    show bindL kindOf ((p,w) :: P.zip vs) m x=_
    unfold bindL
    exact Ry (i:=i) (List.nodup_cons.mp nd).2 (by simpa using h1) (by simpa using h2) hk
theorem Q9 {kindOf:Str→Option NameKind} {x:Str} {v:Value}:∀ {P:List Str} {vs:List Value} {i:Nat} {m:Str→Option Value},P.Nodup→P[i]? = some x→vs[i]? = some v→kindOf x≠some .local →
    bindC kindOf (P.zip vs) m x=some v
  | [],_,_,_,_,h,_,_=>by simp at h
  | _ :: _,[],_,_,_,_,h,_=>by simp at h
  | p :: P,w :: vs,0,m,nd,h1,h2,hk=>by
    simp at h1 h2;subst h1;subst h2
    show bindC kindOf ((p,w) :: P.zip vs) m p=_
    unfold bindC
    rw [Rj fun v hv=>(List.nodup_cons.mp nd).1 (List.of_mem_zip hv).1,if_neg hk]
    simp
  | p :: P,w :: vs,i+1,m,nd,h1,h2,hk=>by
    show bindC kindOf ((p,w) :: P.zip vs) m x=_
    unfold bindC
    exact Q9 (i:=i) (List.nodup_cons.mp nd).2 (by simpa using h1) (by simpa using h2) hk
noncomputable def start (N:List Str) (vs:List V):St:=vs.map some ++ List.replicate (N.length - vs.length) none
noncomputable def Wl (CX:CXT) (P:Program) (w:World) (K:PySem.W.Frag) (mg:Str→Option Value) (base:Heap) (N:List Str) (qual:Str) (scope:Scope) (f:Addr) (cd:Value) (A:Around) (outer:List Env) (s:Shared) (H:Hp) (E:XK):Cx where
  prog:=P
  w:=w
  K:=K
  mg:=mg
  base:=base
  A:=A.deeper (envOfC qual scope s.heap.objs.size f cd)
  N:=N
  s₀:=s
  H₀:=H
  env:=envOfC qual scope s.heap.objs.size f cd
  outer:=outer
  stack:=envOfC qual scope s.heap.objs.size f cd :: outer
  ex:=[]
  calm:=true
  fn:=fun _=>true
  pn:=[]
  xe:=fun e s'=>wpAny (model P w) (A.deeper (envOfC qual scope s.heap.objs.size f cd)) (leaving (envOfC qual scope s.heap.objs.size f cd) e) (fun _ s''=>CX outer H s E e s'') (fun e' s''=>CX outer H s E e' s'') s'
theorem TQ {sc:Scope} {n:Nat} {x:Str} (h:sc.names.lookup x=some .cell):∃ c,(cellsFrom n sc.names []).lookup x=some c:=by
  have q:=PySem.W.cellsFrom_some sc.names n [] (.inl h)
  exact Option.isSome_iff_exists.mp q
theorem YJ {CX:CXT} {P:Program} {w:World} {K:PySem.W.Frag} {mg:Str→Option Value} {base:Heap} {N ps:List Str} {qual:Str} {scope:Scope} {f:Addr} {cd:Value} {A:Around} {outer:List Env} {s s1:Shared} {H:Hp} {E:XK} {us:List Value} {vs:List V}
    (S:Am N ps scope) (hd:A.handled=none) (e0:Wz P w K mg base A outer s H) (hl:vs.length=ps.length) (r:Vals vs us)
    (x:InCallC s s.heap.objs.size (bindL (envOfC qual scope s.heap.objs.size f cd).kindOf (ps.zip us) fun _=>none) (cellsFrom (s.heap.objs.size+1) scope.names []) (bindC (envOfC qual scope s.heap.objs.size f cd).kindOf (ps.zip us) fun _=>none) s1) :
    Inv (Wl CX P w K mg base N qual scope f cd A outer s H E) [] (start N vs) H s1:=by
  have hpl:ps.length≤N.length:=by have:=congrArg List.length S.pre;rw [List.length_take] at this;omega
  obtain ⟨h1,tk,rfl,hk⟩:=x.done
  have noA:∀ b:Addr,b∉(Wl CX P w K mg base N qual scope f cd A outer s H E).ex:=fun b z=>absurd (show b∈([]:List Addr) from z) (by simp)
  refine ⟨⟨e0.mod,S.kind,rfl,rfl,Nat.le_refl _,fun y z c h1 h2=>?_,fun y hy=>?_,fun y c _ h=>?_,fun _=>hd,Around.frames_deeper e0.frames,.inr ⟨rfl,rfl⟩,fun b z=>absurd z (noA b),e0.bs,e0.bsz,fun b _ _=>noA b,fun b z=>absurd z (noA b),e0.funs,e0.frf⟩,
    rfl,e0.bare,Un.kept hk,⟨_,x.toInCall.ns,fun i y v h1 h2 h3=>?_⟩,fun y c h=>⟨_,x.cell y c h⟩,e0.hok.fresh (Nat.le_refl _),fun y c h=>?_,fun p hp=>absurd (show p∈([]:List (Addr × Obj)) from hp) (by simp),e0.hok.kept hk,?_⟩
  · exact name_of_addr x.apart (PySem.mem_of_lookup h1) (PySem.mem_of_lookup h2)
  · have hy:scope.names.lookup y=some .cell∨scope.names.lookup y=some .free:=hy
    rcases hy with hy | hy
    · exact TQ hy
    · exact absurd rfl (S.nofree _ (PySem.mem_of_lookup hy))
  · exact Nat.le_of_lt (x.above y c (PySem.mem_of_lookup h))
  · have hi:i < vs.length:=by
      unfold start at h2
      by_cases hi:i < vs.length
      · exact hi
      · rw [List.getElem?_append_right (by simpa using hi)] at h2
        rw [List.getElem?_replicate] at h2
        split at h2 <;> cases h2
    have ha:vs[i]? = some v:=by
      unfold start at h2
      rw [List.getElem?_append_left (by simpa using hi),List.getElem?_map] at h2
      cases e:vs[i]? with
      | none=>rw [e] at h2;cases h2
      | some a=>rw [e] at h2;cases h2;rfl
    obtain ⟨u,hu,rv⟩:=r.get ha
    have hp:ps[i]? = some y:=by
      rw [←S.pre,List.getElem?_take_of_lt (by omega)];exact h1
    have ndP:ps.Nodup:=by rw [←S.pre];exact S.nd.sublist (List.take_sublist _ _)
    refine ⟨u,rv,?_⟩
    rcases S.par y (List.mem_of_getElem? hp) with k | k
    · exact .inl ⟨k,Ry ndP hp hu k⟩
    · obtain ⟨c,e⟩:=TQ (n:=s.heap.objs.size+1) k
      refine .inr ⟨.inl k,c,e,?_⟩
      have q:=x.cell y c e
      rw [Q9 ndP hp hu (by show scope.names.lookup y≠_;rw [k];decide)] at q
      exact q
  · exact e0.hok.fresh (Nat.le_of_lt (x.above y c (PySem.mem_of_lookup h)))
  · unfold start
    show _=N.length
    rw [List.length_append,List.length_map,List.length_replicate]
    omega
theorem AhC {CX:CXT} {P:Program} {w:World} {K:PySem.W.Frag} {mg:Str→Option Value} {base:Heap} {k:Nat} {f:Addr} {name qual:Str} {params:Arguments} {body:List Stmt} {scope:Scope} {dV kV doc pm cdv ct oc:Value} {an od:Option Addr}
    {osl:Array (Option Value)} {N ps:List Str} {sp:Sp} (lk:K.lookup f=some ⟨oc,od,.func (PySem.W.fnOf name qual params body scope dV kV doc pm an cdv ct),osl⟩) (hcd:PySem.W.codeIn K cdv qual=true) (S:Am N ps scope)
    (len:∀ vs H Q E,sp vs H Q E→vs.length=ps.length)
    (hbody:∀ (A:Around) (outer:List Env) (s:Shared) (H:Hp) (vs:List V) (Q:VK) (E:XK),Et k (A.deeper (envOfC qual scope s.heap.objs.size f cdv))→sp vs H Q E →
      ∃ t,PSs (Wl CX P w K mg base N qual scope f cdv A outer s H E) body t∧t { nx:=fun _ H'=>Q .non H',rt:=Q } (start N vs) H) :
    Ho P w K mg base CX (k+1) f (PySem.W.fnOf name qual params body scope dV kV doc pm an cdv ct) ps sp:=by
  refine ⟨len,fun A outer s H args us vs Q E hr e0 hb r hsp=>?_⟩
  have hl:=len _ _ _ _ hsp
  have KX:K.In s.heap:=e0.mod.kin.keeps fun b o e=>(e0.bs b o e).1
  have lim:s.heap.NoLimit:=e0.mod.nolimit.keeps fun b o e=>(e0.bs b o e).1
  have hkind:∀ y∈ps.zip us,scope.names.lookup y.1=some .local∨(scope.names.lookup y.1=some .cell∧((cellsFrom (s.heap.objs.size+1) scope.names []).lookup y.1).isSome=true):=fun ⟨n,v⟩ hy=>by
    rcases S.par n (List.of_mem_zip hy).1 with q | q
    · exact .inl q
    · exact .inr ⟨q,PySem.W.cellsFrom_some _ _ _ (.inl q)⟩
  refine codeAny_call_function hr.depth (KX _ _ lk) rfl S.co S.gen rfl (PySem.W.codeRec_of KX hcd) (hb _ _ _ _ ?_)
  refine wpAny_newFunctionEnv_cells S.kind hkind fun env he s1 x=>?_
  subst he
  refine ⟨lim.keeps x.toInCall.keep,codeAny_func ?_⟩
  obtain ⟨t,ht,hq⟩:=hbody A outer s H vs Q E (hr.deeper _) hsp
  have I:Inv (Wl CX P w K mg base N qual scope f cdv A outer s H E) [] (start N vs) H s1:=YJ S hr.hd e0 hl r x
  refine wpAny_mono (ht [] s1 (start N vs) H _ I hq) (fun fl s' hs=>?_) fun e s' hs=>hs
  have fin:∀ {σ':St} {H':Hp} {v:V} {u:Value},Inv (Wl CX P w K mg base N qual scope f cdv A outer s H E) [] σ' H' s'→RelV v u→Q v H'→CE outer P w H s Q u s' :=
    fun {σ' H' v u} J rv q=>⟨v,H',J.os,J.bare,J.base,J.hok,rv,q⟩
  cases fl with
  | ret u =>
    obtain ⟨v,σ',H',J,rv,q⟩:=hs
    exact fin J rv q
  | next =>
    obtain ⟨σ',H',J,q⟩:=hs
    exact fin (v:=V.non) (u:=Value.none) J rfl q
  | brk =>
    obtain ⟨_,_,_,q⟩:=hs
    exact False.elim q
  | cont =>
    obtain ⟨_,_,_,q⟩:=hs
    exact False.elim q
end L2
namespace L2
open PySem PySem.Spec PyProof.Rows
section
variable {X:Cx} {x:Str} {p pos:Pos} {e:Expr} {es:List Expr} {t:TA} {id T:String} {r:List V→Hp→VK→Prop}
noncomputable def tCB (r:List V→Hp→VK→Prop) (t:TA):TE:=fun σ H Q=>t σ H fun vs H1=>r vs H1 Q
theorem T6 (hc:J7 X (.builtin id) r) (hg:Gl X x) (hm:X.mg x=none) (hv:bootBuiltins x=some (.builtin id)) (ha:PA X (e :: es) t) (hn:x≠"__name__":=by decide) (hdb:(x == ("__debug__":Str))=false:=by decide)
    (he:starEach (e :: es) X.env=(false,eval e X.env) :: starEach es X.env:=by rfl) (hpl:(backTo pos (starEach es X.env)).any (·.1)=false:=by rfl):PE X (.Call (.Name x p) (e :: es) [] pos) (tCB r t):=by
  intro pins s σ H Q I h
  refine wpAny_Call_Name_kw (Ql I hg hm hv ?_ hn hdb)
  exact PyProof.Rows.callWith_builtin1 (thn (ha pos pins s σ H _ I h) fun us s1 ⟨vs,H1,I1,r1,q1⟩=>hc pins s1 σ H1 vs us Q I1 r1 q1) he hpl
theorem YS (hc:J7 X (.type T) r) (hg:Gl X x) (hm:X.mg x=none) (hv:bootBuiltins x=some (.type T)) (ha:PA X (e :: es) t) (hn:x≠"__name__":=by decide) (hdb:(x == ("__debug__":Str))=false:=by decide)
    (he:starEach (e :: es) X.env=(false,eval e X.env) :: starEach es X.env:=by rfl) (hpl:(backTo pos (starEach es X.env)).any (·.1)=false:=by rfl):PE X (.Call (.Name x p) (e :: es) [] pos) (tCB r t):=by
  intro pins s σ H Q I h
  refine wpAny_Call_Name_kw (Ql I hg hm hv ?_ hn hdb)
  exact PyProof.Rows.callWith_type1 (thn (ha pos pins s σ H _ I h) fun us s1 ⟨vs,H1,I1,r1,q1⟩=>hc pins s1 σ H1 vs us Q I1 r1 q1) he hpl
end
end L2
namespace HT
open PySem PyProof.Rows
noncomputable def lexLt:List Int→List Int→Bool
  | [],[]=>false
  | [],_ :: _=>true
  | _ :: _,[]=>false
  | x :: xs,y :: ys=>if x=y then lexLt xs ys else decide (x < y)
theorem Ez (x y:Int) (xs ys:List Int):lexLt (x :: xs) (y :: ys)=if x=y then lexLt xs ys else decide (x < y):=rfl
theorem Gi:lexLt [] []=false:=rfl
theorem Oc (y:Int) (ys:List Int):lexLt [] (y :: ys)=true:=rfl
theorem Qa (x:Int) (xs:List Int):lexLt (x :: xs) []=false:=rfl
theorem Z6 (A:Around) (s:Shared) (a:Int) (t:Tok) (c:Int) (u:Tok):∃ e,SeqAt.EqAt A s (.int a t) (.int c u) e∧(e=true↔a=c) :=
  ⟨(a == c),SeqAt.EqAt.int_int a t c u,by simp⟩
theorem AaQ (A:Around) (s:Shared) (a:Int) (t:Tok) (c:Int) (u:Tok) (prog:Program) (w:World) (E:Value→Shared→Prop) (Q:Value→Shared→Prop) (h:Q (.bool (decide (a < c))) s) :
    wpAny (model prog w) A (richCompare .Lt (.int a t) (.int c u)) Q E s :=
  (PyProof.Rows.lt_int h:wpAny (model prog w) A (compareOp .Lt (.int a t) (.int c u)) Q E s)
section
open PySem.SeqAt
open PySem.AutoSeq1 (wpAny_loadPart')
open PySem.MeetsSeq PySem.MeetsSeq2 PySem.MeetsSeq3
theorem Qz (l b:Addr) (items items2:Array Value) (n n2:Nat) (dd dd2:Option Addr) (sl sl2:Array (Option Value)) (ns ms:List Int) (hi:IntsAre items.toList ns) (hj:IntsAre items2.toList ms) :
    Meets (Builtin.«tuple.__lt__» ⟨[.ref l,.ref b],[]⟩)
      (fun _ R s=>s.heap.get? l=some { cls:=.type "tuple",dict:=dd,data:=.seq items n,slots:=sl }∧s.heap.get? b=some { cls:=.type "tuple",dict:=dd2,data:=.seq items2 n2,slots:=sl2 } ∧
        R (.ok (.ret (.bool (lexLt ns ms)))) s) :=
  .of_wp fun prog w A R s h=>by
    obtain ⟨hp,g,d,tk,os⟩:=s;obtain ⟨hl,hb,h⟩:=h
    have f2:=AutoSeq1.sub_tuple_tuple
    have z1:items.size=ns.length:=by rw [←hi.length];simp
    have z2:items2.size=ms.length:=by rw [←hj.length];simp
    wp_walk using wpAny_loadPart' hl,wpAny_loadPart' hb,wpAny_forIn_list _ (fun rest b s'=>b.1=none∧s'=⟨hp,g,d,tk,os⟩∧∃ (vs ws:List Value) (ns' ms':List Int),rest=vs.zip ws ∧
      IntsAre vs ns'∧IntsAre ws ms'∧ns'.length+items2.size=ms'.length+items.size∧R (.ok (.ret (.bool (lexLt ns' ms')))) ⟨hp,g,d,tk,os⟩) _
    case turn =>
      rintro ⟨y,x⟩ rest b s' ⟨hb',rfl,vs,ws,ns',ms',hz,hvi,hwi,hlen,hR⟩
      cases hvi with
      | nil=>rw [List.zip_nil_left] at hz;cases hz
      | cons a t hvi' =>
        cases hwi with
        | nil=>rw [List.zip_nil_right] at hz;cases hz
        | cons c u hwi' =>
          rw [List.zip_cons_cons] at hz
          injection hz with hyx hrest
          injection hyx with hy hx
          subst hy hx
          rw [Ez] at hR
          simp only [List.length_cons] at hlen
          obtain ⟨e,he,hiff⟩:=Z6 A.in1 ⟨hp,g,d,tk,os⟩ a t c u
          refine wpAny_bind (he prog w _ _ ?_)
          cases e with
          | true =>
            rw [if_pos (hiff.mp rfl)] at hR
            wp_walk
            exact ⟨rfl,rfl,_,_,_,_,hrest,hvi',hwi',by omega,hR⟩
          | false =>
            rw [if_neg (fun q=>absurd (hiff.mpr q) Bool.false_ne_true)] at hR
            have hri:=AaQ A.in1 ⟨hp,g,d,tk,os⟩ a t c u prog w
            wp_walk using hri
            exact ⟨_,rfl,by simpa using hR⟩
    case fin =>
      rintro ⟨b1,b2⟩ s' ⟨hb',rfl,vs,ws,ns',ms',hz,hvi,hwi,hlen,hR⟩
      simp only at hb'
      subst hb'
      have hv:lexLt ns' ms'=decide (items.size < items2.size):=by
        cases hvi with
        | nil =>
          cases hwi with
          | nil =>
            simp only [List.length_nil] at hlen
            rw [Gi]
            exact (decide_eq_false (by omega)).symm
          | cons c u hw =>
            simp only [List.length_nil,List.length_cons] at hlen
            rw [Oc]
            exact (decide_eq_true (by omega)).symm
        | cons a t hv =>
          cases hwi with
          | nil =>
            simp only [List.length_nil,List.length_cons] at hlen
            rw [Qa]
            exact (decide_eq_false (by omega)).symm
          | cons c u hw =>
            rw [List.zip_cons_cons] at hz
            cases hz
      rw [hv] at hR
      wp_walk
      exact ⟨_,rfl,by simpa [Builtin.Tuple.tupleCompareSizes] using hR⟩
    case h =>
      exact ⟨rfl,rfl,items.toList,items2.toList,ns,ms,rfl,hi,hj,by omega,h⟩
end
section
variable {prog:Program} {w:World} {A:Around} {E:Value→Shared→Prop} {s:Shared}
theorem Kf {l b:Addr} {items items2:Array Value} {ns ms:List Int} {Q:Value→Shared→Prop} (hl:IsTup s.heap l items) (hb:IsTup s.heap b items2) (hi:IntsAre items.toList ns) (hj:IntsAre items2.toList ms)
    (hu:A.units < cLine) (h:Q (.bool (lexLt ns ms)) s):wpAny (model prog w) A (compareOp .Lt (.ref l) (.ref b)) Q E s:=by
  obtain ⟨⟨cls,dd,data,sl⟩,ho,hc,n,hd⟩:=id hl
  obtain ⟨⟨cls2,dd2,data2,sl2⟩,ho2,hc2,n2,hd2⟩:=id hb
  simp only at hc hd hc2 hd2
  subst hc hd hc2 hd2
  exact richCompare_meets_room (op:=.Lt) ⟨_,ho,rfl⟩ ⟨_,ho2,rfl⟩ PySem.F.slot_tuple_lt PySem.F.entry_tuple_lt (PySem.F.args_tuple_lt_2 _ _) (Qz l b items items2 n n2 dd dd2 sl sl2 ns ms hi hj)
    ⟨ho,ho2,show Value.bool (lexLt ns ms)≠Value.notImplemented∧Q (.bool (lexLt ns ms)) s from ⟨(fun x=>nomatch x),h⟩⟩ hu
noncomputable def sIx (n d:Nat):Option Int→Nat
  | none=>d
  | some v=>if v < 0 then (v+(n:Int)).toNat else min v.toNat n
theorem Ui (n d:Nat):sIx n d none=d:=rfl
theorem NQ (n d k:Nat):sIx n d (some (k:Int))=min k n:=by
  show (if (k:Int) < 0 then ((k:Int)+(n:Int)).toNat else min (k:Int).toNat n)=min k n
  rw [if_neg (by omega),Int.toNat_natCast]
end
end HT
namespace L2
open PySem PySem.Spec PyProof.Rows
noncomputable abbrev TO:=St→Hp→(Option Int→Hp→Prop)→Prop
noncomputable def PO (X:Cx) (e:Option Expr) (t:TO):Prop :=
  ∀ (pins:List (Addr × Obj)) (s:Shared) (σ:St) (H:Hp) (Q:Option Int→Hp→Prop),Inv X pins σ H s→t σ H Q →
    wpAny (model X.prog X.w) X.A (evalPart e X.env) (fun u s'=>∃ o H',Inv X pins σ H' s'∧IsPart u o∧Q o H') X.xe s
noncomputable def Adv:TO:=fun _ H Q=>Q none H
noncomputable def AgJ (t:TE):TO:=fun σ H Q=>t σ H fun x H1=>∃ i,x=.int i∧Q (some i) H1
theorem intsAre_of {ns:List Int}:∀ {us:List Value},Vals (ns.map V.int) us→IntsAre us ns:=by
  induction ns with
  | nil=>intro us r;rw [List.map_nil] at r;cases r;exact .nil
  | cons n ns ih =>
    intro us r
    rw [List.map_cons] at r
    cases r with
    | cons r1 r2 =>
      obtain ⟨t,e⟩:=r1
      subst e
      exact .cons n t (ih r2)
section
variable {X:Cx} {e:Expr} {te:TE} {lo hi:Option Expr} {tl th:TO} {pos p2:Pos}
theorem AdA:PO X none Adv:=by
  intro pins s σ H Q I h
  rw [evalPart_none]
  exact wpAny_pure ⟨none,H,I,.none,h⟩
theorem Ab7 (h:PE X e te):PO X (some e) (AgJ te):=by
  intro pins s σ H Q I hw
  rw [evalPart_some]
  refine thn (h pins s σ H _ I hw) fun u s1 ⟨x,H1,I1,r1,q1⟩=>?_
  obtain ⟨i,rfl,q⟩:=q1
  obtain ⟨t,rfl⟩:=r1
  exact ⟨some i,H1,I1,.int i t,q⟩
noncomputable def SlR (X:Cx) (r:V→Option Int→Option Int→Hp→VK→Prop):Prop :=
  ∀ (pins:List (Addr × Obj)) (s:Shared) (σ:St) (H:Hp) (x:V) (v vl vu:Value) (lo hi:Option Int) (sl:Addr) (Q:VK),Inv X pins σ H s→RelV x v→s.heap.IsSliceOf sl vl vu .none→IsPart vl lo→IsPart vu hi→r x lo hi H Q →
    ∃ T id,typeLookup (.type T) "__getitem__"=pure (some (.builtin id))∧s.TypeIs v T∧wpAny (model X.prog X.w) X.A (getItem v (.ref sl)) (EP X pins σ Q) X.xe s
noncomputable def tSl (r:V→Option Int→Option Int→Hp→VK→Prop) (te:TE) (tl th:TO):TE:=fun σ H Q=>te σ H fun x H1=>tl σ H1 fun l H2=>th σ H2 fun u H3=>r x l u H3 Q
theorem Uo {r:V→Option Int→Option Int→Hp→VK→Prop} (hr:SlR X r) (he:PE X e te) (hl:PO X lo tl) (hu:PO X hi th):PE X (.Subscript e (.Slice lo hi none p2) pos) (tSl r te tl th):=by
  intro pins s σ H Q I h
  refine Subscript_ (thn (he pins s σ H _ I h) fun v s1 ⟨x,H1,I1,r1,q1⟩=>?_)
  refine wpAny_Slice (thn (hl pins s1 σ H1 _ I1 q1) fun vl s2 ⟨l,H2,I2,pl,q2⟩=>thn (hu pins s2 σ H2 _ I2 q2) fun vu s3 ⟨u,H3,I3,pu,q3⟩=>?_)
  rw [evalPart_none]
  refine wpAny_pure ?_
  have I4:Inv X pins σ H3 { s3 with heap:=s3.heap.push { cls:=.type "slice",data:=.fields #[vl,vu,.none] } }:=I3.kept (t':=s3.toks) fun b ob q=>Heap.get?_push_of_some _ q
  obtain ⟨T,id,hT,ht,hg⟩:=hr pins { s3 with heap:=s3.heap.push { cls:=.type "slice",data:=.fields #[vl,vu,.none] } } σ H3 x v vl vu l u s3.heap.objs.size Q I4 r1 (Heap.IsSliceOf.new ..) pl pu q3
  show wpAny (model X.prog X.w) X.A (subscriptTail e (.Slice lo hi none p2) v (.ref s3.heap.objs.size)) (EP X pins σ Q) X.xe { s3 with heap:=s3.heap.push { cls:=.type "slice",data:=.fields #[vl,vu,.none] } }
  exact tail_any (ops:=[.ref s3.heap.objs.size,v]) ht hT hg (by with_unfolding_all rfl)
noncomputable def YZ (xs:List V) (lo hi:Option Int):List V:=(xs.drop (HT.sIx xs.length 0 lo)).take (HT.sIx xs.length xs.length hi - HT.sIx xs.length 0 lo)
theorem Uw (xs:List V) (lo hi:Option Int):(YZ xs lo hi).length≤xs.length:=by
  unfold YZ
  rw [List.length_take,List.length_drop]
  omega
end
end L2
namespace L2
open PySem PySem.Spec PyProof.Rows
noncomputable def ixN (n:Nat) (i:Int):Option Nat:=if 0≤i then (if i < n then some i.toNat else none) else if -(n:Int)≤i then some (i+n).toNat else none
noncomputable def atI {α:Type} (xs:List α) (i:Int):Option α:=(ixN xs.length i).bind fun j=>xs[j]?
theorem Acd {n:Nat} {i:Int} {j:Nat} (h:ixN n i=some j):seqIndex? i n=some j∧j < n∧-(n:Int)≤i∧i < n:=by
  unfold ixN at h
  by_cases h0:0≤i
  · rw [if_pos h0] at h
    by_cases h1:i < n
    · rw [if_pos h1] at h
      have e:i.toNat=j:=Option.some.inj h
      exact ⟨by rw [seqIndex_of h0 h1,e],by omega,by omega,h1⟩
    · rw [if_neg h1] at h;cases h
  · rw [if_neg h0] at h
    by_cases h1:-(n:Int)≤i
    · rw [if_pos h1] at h
      have e:(i+n).toNat=j:=Option.some.inj h
      exact ⟨by rw [seqIndex_neg (by omega) h1,e],by omega,h1,by omega⟩
    · rw [if_neg h1] at h;cases h
theorem RM {α:Type} {xs:List α} {i:Int} {v:α} (h:atI xs i=some v):∃ j,seqIndex? i xs.length=some j∧xs[j]? = some v∧j < xs.length∧-(xs.length:Int)≤i∧i < xs.length:=by
  unfold atI at h
  cases e:ixN xs.length i with
  | none=>rw [e] at h;cases h
  | some j =>
    rw [e] at h
    obtain ⟨h1,h2,h3,h4⟩:=Acd e
    exact ⟨j,h1,h,h2,h3,h4⟩
theorem Ab5 {α:Type} {xs:List α} {j:Nat} {v:α} (h:xs[j]? = some v):atI xs (j:Int)=some v:=by
  have hj:j < xs.length:=(List.getElem?_eq_some_iff.mp h).1
  have e:ixN xs.length (j:Int)=some j:=by
    unfold ixN
    rw [if_pos (by omega),if_pos (by omega)];simp
  unfold atI;rw [e];exact h
noncomputable def RP (b:Expr):Prop:=∀ o i,subscripted b false o i=operate [o,i] (getItem o i)
noncomputable def IxR (X:Cx) (r:R2):Prop :=
  ∀ (value slice:Expr) (pins:List (Addr × Obj)) (s:Shared) (σ:St) (H:Hp) (x y:V) (v u:Value) (Q:VK),Inv X pins σ H s→RelV x v→RelV y u→r x y H Q →
    subscripted slice false v u=operate [v,u] (getItem v u)→wpAny (model X.prog X.w) X.A (subscriptTail value slice v u) (EP X pins σ Q) X.xe s
noncomputable def MtR (X:Cx) (id:String) (r:V→List V→Hp→VK→Prop):Prop :=
  ∀ (pins:List (Addr × Obj)) (s:Shared) (σ:St) (H:Hp) (x:V) (xs:List V) (v:Value) (us:List Value) (Q:VK),Inv X pins σ H s→RelV x v→Vals xs us→r x xs H Q →
    wpAny (model X.prog X.w) X.A (call (.builtin id) (v :: us)) (EP X pins σ Q) X.xe s
section
variable {X:Cx} {a b:Expr} {ta tb:TE} {pos:Pos}
theorem IxR.or {r r':R2} (h:IxR X r) (h':IxR X r'):IxR X (fun x y H Q=>r x y H Q∨r' x y H Q):=by
  intro value slice pins s σ H x y v u Q I rx ry q hs
  rcases q with q | q
  · exact h value slice pins s σ H x y v u Q I rx ry q hs
  · exact h' value slice pins s σ H x y v u Q I rx ry q hs
theorem Ahh {r:R2} (hr:IxR X r) (ha:PE X a ta) (hb:PE X b tb) (hs:RP b):PE X (.Subscript a b pos) (tOp r ta tb):=by
  intro pins s σ H Q I h
  exact Subscript_ (AfD ha hb I h fun v u s2 x y H2 I2 rx ry q=>hr a b pins s2 σ H2 x y v u Q I2 rx ry q (hs _ _))
noncomputable def AjH (K:PySem.W.Frag):R2:=fun x y H Q=>∃ p xs i v,x=.ref p∧y=.int i∧SqL K H p xs∧atI xs i=some v∧Q v H
noncomputable def Aio (K:PySem.W.Frag):R2:=fun x y H Q=>∃ p xs i v,x=.ref p∧y=.int i∧SqT K H p xs∧atI xs i=some v∧Q v H
noncomputable def AgF:R2:=fun x y H Q=>∃ z i c,x=.str z∧y=.int i∧z.length≤sizeLine∧atI z.cps.toList i=some c∧Q (.str ⟨#[c]⟩) H
theorem AcX:IxR X (AjH X.K):=by
  intro value slice pins s σ H x y v u Q I rx ry h hs
  obtain ⟨p,xs,i,z,rfl,rfl,hq,he,q⟩:=h
  cases rx
  obtain ⟨t,rfl⟩:=ry
  obtain ⟨its,r,pl,hz⟩:=I.list hq
  obtain ⟨j,h1,h2,h3,h4,h5⟩:=RM he
  obtain ⟨w,ew,rw'⟩:=r.get h2
  have hl:=r.length
  have hn:=RK
  have fin:EP X pins σ Q w s:=⟨z,H,I,rw',q⟩
  by_cases h0:0≤i
  · have hj:i.toNat=j:=by
      rw [seqIndex_of h0 h5] at h1
      exact Option.some.inj h1
    exact item_listR pl.isList h0 (by omega) (by rw [hj];simpa using ew) fin hs
  · have hj:(i+(its.toArray.size:Int)).toNat=j:=by
      rw [seqIndex_neg (by omega) h4] at h1
      rw [List.size_toArray,←hl]
      exact Option.some.inj h1
    exact subscriptTail_builtinR (x:=w) pl.isList.typeIs slot_list_getitem.lookup
      (wpAny_getItem_list_neg (Q:=fun r s'=>r=w∧EP X pins σ Q r s') pl.isList (by omega) (by rw [List.size_toArray] <;> omega) (by omega) (by rw [hj];simpa using ew) ⟨rfl,fin⟩) hs
theorem Ae8:IxR X (Aio X.K):=by
  intro value slice pins s σ H x y v u Q I rx ry h hs
  obtain ⟨p,xs,i,z,rfl,rfl,hq,he,q⟩:=h
  cases rx
  obtain ⟨t,rfl⟩:=ry
  obtain ⟨its,r,pl,hz⟩:=I.tuple hq
  obtain ⟨j,h1,h2,h3,h4,h5⟩:=RM he
  obtain ⟨w,ew,rw'⟩:=r.get h2
  have hl:=r.length
  have hn:=RK
  have fin:EP X pins σ Q w s:=⟨z,H,I,rw',q⟩
  exact subscriptTail_builtinR (x:=w) pl.typeIs slot_tuple_getitem.lookup
    (getItem_tuple (j:=j) (Q:=fun r s'=>r=w∧EP X pins σ Q r s') pl (by omega) (by omega) (by rw [List.size_toArray,←hl];exact h1) (by simpa using ew) ⟨rfl,fin⟩) hs
theorem Afq:IxR X AgF:=by
  intro value slice pins s σ H x y v u Q I rx ry h hs
  obtain ⟨z,i,c,rfl,rfl,hz,he,q⟩:=h
  obtain ⟨t,rfl⟩:=rx
  obtain ⟨t',rfl⟩:=ry
  obtain ⟨j,h1,h2,h3,h4,h5⟩:=RM he
  have hl:z.cps.toList.length=z.length:=by simp [Str.length]
  rw [hl] at h1 h4 h5
  have hn:=RK
  exact tail_any (typeIs_str s z t) slot_str_getitem.lookup (getItem_str (c:=c) (by
    have e1:decide (i < -(2 ^ 63:Int))=false:=decide_eq_false (by omega)
    have e2:decide (i≥2 ^ 63)=false:=decide_eq_false (by omega)
    rw [e1,e2,Bool.or_false]) (by rw [h1];simpa using h2) ⟨.str ⟨#[c]⟩,H,I.tok _,⟨_,rfl⟩,q⟩) hs
noncomputable def rIx (K:PySem.W.Frag):R2:=fun x y H Q=>AjH K x y H Q∨Aio K x y H Q∨AgF x y H Q
theorem Afp:IxR X (rIx X.K):=AcX.or (Ae8.or Afq)
theorem S5 (lo hi:Option Int) (n:Nat):(sliceBounds lo hi none n).1=((HT.sIx n 0 lo:Nat):Int)∧(sliceBounds lo hi none n).2.1=((HT.sIx n n hi:Nat):Int)∧(sliceBounds lo hi none n).2.2=1:=by
  refine ⟨?_,?_,rfl⟩
  · cases lo with
    | none=>simp [sliceBounds,HT.sIx]
    | some i =>
      simp only [sliceBounds,HT.sIx,Option.getD_none,show (1:Int) > 0 by decide,if_true]
      by_cases h:i < 0
      · simp only [h,if_true] <;> omega
      · simp only [h,if_false] <;> omega
  · cases hi with
    | none=>simp [sliceBounds,HT.sIx]
    | some i =>
      simp only [sliceBounds,HT.sIx,Option.getD_none,show (1:Int) > 0 by decide,if_true]
      by_cases h:i < 0
      · simp only [h,if_true] <;> omega
      · simp only [h,if_false] <;> omega
theorem Qq (its:List Value) (lo hi:Option Int):slicePick its.toArray lo hi none=((its.drop (HT.sIx its.length 0 lo)).take (HT.sIx its.length its.length hi - HT.sIx its.length 0 lo)).toArray:=by
  obtain ⟨h1,h2,h3⟩:=S5 lo hi its.toArray.size
  unfold slicePick
  rw [h1,h2,h3]
  simp only [sliceRange_one,pick_run,List.size_toArray] <;> rfl
noncomputable def AkD (K:PySem.W.Frag):V→Option Int→Option Int→Hp→VK→Prop:=fun x lo hi H Q=>∃ a xs,x=.ref a∧SqL K H a xs∧∀ p,H p=none→Q (.ref p) (upd H p (.lst (YZ xs lo hi)))
theorem Xw:SlR X (AkD X.K):=by
  intro pins s σ H x v vl vu lo hi sl Q I rx hs pl pu h
  obtain ⟨a,xs,rfl,hx,q⟩:=h
  cases rx
  obtain ⟨its,r,ht,hz⟩:=I.list hx
  have hlen:=r.length
  refine ⟨"list",_,slot_list_getitem.lookup,ht.isList.typeIs,?_⟩
  refine wpAny_getItem_list_slice ht.isList hs pl pu .none (by simp) ?_ (by rw [List.size_toArray] <;> omega)
  rw [Qq,←hlen]
  refine ⟨.ref s.heap.objs.size,_,I.laid (t':=s.toks) (o:=.lst (YZ xs lo hi)) (fun b ob q=>Heap.get?_push_of_some _ q) (Nat.le_refl _) ?_,rfl,q _ (I.hok.fresh (Nat.le_refl _))⟩
  exact ⟨Nat.le_trans (Uw xs lo hi) hz,_,0,(r.drop (HT.sIx xs.length 0 lo)).take (HT.sIx xs.length xs.length hi - HT.sIx xs.length 0 lo),Heap.get?_push_size _ rfl⟩
theorem RX:J7 X (.builtin "len") (fun xs H Q=>∃ p ys,xs=[.ref p]∧(SqL X.K H p ys∨SqT X.K H p ys)∧Q (.int ys.length) H):=by
  intro pins s σ H xs us Q I r h
  obtain ⟨p,ys,rfl,hq,q⟩:=h
  obtain ⟨u,rfl,rx⟩:=vals1 r
  cases rx
  have hn:=RK
  rcases hq with hq | hq
  · obtain ⟨its,r',pl,hz⟩:=I.list hq
    have hlen:=r'.length
    exact Calls.call_len_list pl.isList (by simp only [List.size_toArray] <;> omega) ⟨.int ys.length,H,I.tok _,⟨s.toks+1,by rw [List.size_toArray,hlen]⟩,q⟩
  · obtain ⟨its,r',pl,hz⟩:=I.tuple hq
    have hlen:=r'.length
    exact len_tuple pl (by simp only [List.size_toArray] <;> omega) ⟨.int ys.length,H,I.tok _,⟨s.toks+1,by rw [List.size_toArray,hlen]⟩,q⟩
theorem Qu:J7 X (.type "tuple") (fun xs H Q=>∃ p ys,xs=[.ref p]∧((SqL X.K H p ys∧∀ l,H l=none→Q (.ref l) (upd H l (.tup ys)))∨(SqT X.K H p ys∧Q (.ref p) H))):=by
  intro pins s σ H xs us Q I r h
  obtain ⟨p,ys,rfl,h⟩:=h
  obtain ⟨u,rfl,rx⟩:=vals1 r
  cases rx
  rcases h with ⟨hq,q⟩ | ⟨hq,q⟩
  · obtain ⟨its,r',pl,hz⟩:=I.list hq
    have hlen:=r'.length
    refine call_tuple_list pl.isList (fun h' kp=>?_) (by simp only [List.size_toArray] <;> omega)
    have I1:Inv X pins σ H { s with heap:=h' }:=I.kept (t':=s.toks) kp
    have I2:Inv X pins σ (upd H h'.objs.size (.tup ys)) { s with heap:=h'.push { cls:=.type "tuple",data:=.seq its.toArray } } :=
      I1.laid (t':=s.toks) (fun b o e=>Heap.get?_push_of_some _ e) (Nat.le_refl _) (show Hl X.prog X.w _ _ _ (.tup ys) from ⟨hz,its,r',IsTup.new _ _⟩)
    exact ⟨.ref h'.objs.size,_,I2,rfl,q _ (I1.hok.fresh (Nat.le_refl _))⟩
  · obtain ⟨its,r',pl,hz⟩:=I.tuple hq
    exact call_tuple_same pl ⟨.ref p,H,I,rfl,q⟩
noncomputable def tyV (K:PySem.W.Frag) (T:String) (x:V) (H:Hp):Prop:=match x with
  | .str _=>T="str"
  | .int _=>T="int"
  | .ref p=>(T="list"∧∃ xs,SqL K H p xs)∨(T="tuple"∧∃ o,K.lookup p=some o∧o.cls=.type "tuple"∧o.dict=none) ∨
      (T="dict"∧((∃ kvs,H p=some (.dK kvs))∨∃ kvs,H p=some (.dT kvs)))∨(T="set"∧∃ S n,H p=some (.set S n))
  | _=>False
theorem ZQ {pins:List (Addr × Obj)} {σ:St} {H:Hp} {s:Shared} {T:String} {x:V} {v:Value} (I:Inv X pins σ H s) (r:RelV x v) (ty:tyV X.K T x H) :
    s.TypeIs v T∧∀ a,v=.ref a→∃ ob,s.heap.get? a=some ob∧ob.dict=none:=by
  cases x with
  | str z =>
    obtain ⟨t,rfl⟩:=r
    cases (show T="str" from ty)
    exact ⟨typeIs_str s z t,fun _ e=>nomatch e⟩
  | int i =>
    obtain ⟨t,rfl⟩:=r
    cases (show T="int" from ty)
    exact ⟨typeIs_int s i t,fun _ e=>nomatch e⟩
  | ref p =>
    cases r
    rcases ty with ⟨rfl,xs,hq⟩ | ⟨rfl,o,hk,hc,hd⟩ | ⟨rfl,hk⟩ | ⟨rfl,S,n,hk⟩
    · obtain ⟨its,_,pl,_⟩:=I.list hq
      refine ⟨pl.isList.typeIs,fun a e=>?_⟩
      cases e
      obtain ⟨o,n,e,c,hd,_⟩:=pl
      exact ⟨o,e,hd⟩
    · refine ⟨⟨o,I.kIn p o hk,hc⟩,fun a e=>?_⟩
      cases e
      exact ⟨o,I.kIn _ o hk,hd⟩
    · have z:∃ o,s.heap.get? p=some o∧o.ExactDict:=by
        rcases hk with ⟨kvs,hk⟩ | ⟨kvs,hk⟩
        · obtain ⟨_,_,_,_,o,_,_,e,ex,_⟩:=I.hok p _ hk
          exact ⟨o,e,ex⟩
        · obtain ⟨_,_,_,_,o,_,_,e,ex,_⟩:=I.hok p _ hk
          exact ⟨o,e,ex⟩
      obtain ⟨o,e,ex⟩:=z
      refine ⟨⟨o,e,ex.1⟩,fun a e2=>?_⟩
      cases e2
      exact ⟨o,e,ex.2.1⟩
    · obtain ⟨o,_,_,_,e,ex,_⟩:=I.hok p _ hk
      refine ⟨⟨o,e,ex.1⟩,fun a e2=>?_⟩
      cases e2
      exact ⟨o,e,ex.2.1⟩
  | _=>exact False.elim ty
noncomputable def Alc (K:PySem.W.Frag) (T:String) (r:V→List V→Hp→VK→Prop) (to:TE):TE:=fun σ H Q=>to σ H fun x H1=>tyV K T x H1∧r x [] H1 Q
noncomputable def tBM (K:PySem.W.Frag) (T:String) (r:V→List V→Hp→VK→Prop) (to:TE) (t:TA):TE:=fun σ H Q=>to σ H fun x H1=>tyV K T x H1∧t σ H1 fun xs H2=>r x xs H2 Q
variable {o e:Expr} {es:List Expr} {to:TE} {t:TA} {name:Str} {apos cpos:Pos} {T id:String} {r:V→List V→Hp→VK→Prop}
theorem AfY (pa:PlainAttrs T) (slot:Slot T name id) (hty:typeOf (.builtin id)=pure (.type "method_descriptor")) (hm:MtR X id r) (ho:PE X o to)
    (hbase:attributeBase o name X.env (eval o X.env)=eval o X.env:=by rfl) (hline:(apos.endLine == cpos.line)=true:=by rfl):PE X (.Call (.Attribute o name apos) [] [] cpos) (Alc X.K T r to):=by
  intro pins s σ H Q I h
  refine wpAny_Call_method0_late hbase hline (thn (ho pins s σ H _ I h) fun v s1 ⟨x,H1,I1,r1,ty,q1⟩=>?_)
  obtain ⟨h1,h2⟩:=ZQ I1 r1 ty
  exact ⟨T,id,pa,slot,hty,h1,h2,Calls.callWith_builtin rfl (PySem.evalArgs_none (hm pins s1 σ H1 x [] v [] Q I1 r1 .nil q1))⟩
theorem AeA (pa:PlainAttrs T) (slot:Slot T name id) (hty:typeOf (.builtin id)=pure (.type "method_descriptor")) (hm:MtR X id r) (ho:PE X o to) (ha:PA X (e :: es) t)
    (hbase:attributeBase o name X.env (eval o X.env)=eval o X.env:=by rfl)
    (hfew:((backTo cpos (starEach (e :: es) X.env)).all (fun x=>!x.1) && (backToKw cpos (keywordEach [] X.env)).all (fun x=>x.1.isSome)
      && decide ((e :: es).length+([]:List Keyword).length+(if ([]:List Keyword).isEmpty then 0 else 1) < 30))=true:=by rfl)
    (hline:(apos.endLine == cpos.line)=true:=by rfl) (hs:starEach (e :: es) X.env=(false,eval e X.env) :: starEach es X.env:=by rfl) (hplain:(backTo cpos (starEach es X.env)).any (·.1)=false:=by rfl) :
    PE X (.Call (.Attribute o name apos) (e :: es) [] cpos) (tBM X.K T r to t):=by
  intro pins s σ H Q I h
  refine wpAny_Call_method_late hbase hfew hline rfl (thn (ho pins s σ H _ I h) fun v s1 ⟨x,H1,I1,r1,ty,q1⟩=>?_)
  obtain ⟨h1,h2⟩:=ZQ I1 r1 ty
  refine ⟨T,id,pa,slot,hty,h1,h2,?_⟩
  have hA:=ha cpos pins s1 σ H1 _ I1 q1
  rw [hs] at hA ⊢
  refine Calls.callWith_builtin (by show (false || (backTo cpos (starEach es X.env)).any (·.1))=false;rw [hplain] <;> rfl) (Calls.evalArgs_plain ?_)
  exact thn hA fun us s2 ⟨vs,H2,I2,r2,q2⟩=>hm pins s2 σ H2 x vs v us Q I2 r1 r2 q2
end
end L2
namespace L2
open PySem PySem.Spec PyProof.Rows
noncomputable def MtM (X:Cx) (id:String) (r:V→List V→Hp→VK→Prop):Prop :=
  ∀ (pins:List (Addr × Obj)) (s:Shared) (σ:St) (H:Hp) (x:V) (xs:List V) (v:Value) (us:List Value) (Q:VK),Inv X pins σ H s→RelV x v→Vals xs us→r x xs H Q →
    wpAny (model X.prog X.w) X.A (call (.builtin id) (v :: us)) (EP X pins σ Q) X.xe s
theorem Vals.one:∀ {x:V} {us:List Value},Vals [x] us→∃ u,us=[u]∧RelV x u
  | _,_,.cons r .nil=>⟨_,rfl,r⟩
section
variable {X:Cx} {pins:List (Addr × Obj)} {σ:St} {H:Hp} {s:Shared} {l b:Addr} {xs ys zs:List V}
theorem Inv.lset {its its':List Value} {n:Nat} {f:Array Value→Array Value} {t':Nat} (I:Inv X pins σ H s) (hH:H l=some (.lst xs))
    (e:s.heap.get? l=some { cls:=.type "list",data:=.seq its.toArray n }) (hf:f its.toArray=its'.toArray) (hv:Vals ys its') (hz:ys.length≤sizeLine) :
    Inv X pins σ (upd H l (.lst ys)) { s with heap:=s.heap.update l (Obj.mapSeq f),toks:=t' }:=by
  have q:=PySem.IsL.update e f
  rw [hf] at q
  refine I.write (x:=l) (e:=l) (by rw [hH];exact trivial) (.inl rfl) (fun b' u hb hu=>(Heap.get?_update_other s.heap (Obj.mapSeq f) (Ne.symm hb)).trans hu) ⟨_,q⟩ ?_
  exact ⟨hz,its',_,hv,q⟩
theorem Inv.lnew {its:List Value} {t':Nat} (I:Inv X pins σ H s) (hv:Vals ys its) (hz:ys.length≤sizeLine) :
    Inv X pins σ (upd H s.heap.objs.size (.lst ys)) { s with heap:=s.heap.push { cls:=.type "list",data:=.seq its.toArray },toks:=t' } :=
  I.laid (fun _ _ q=>Heap.get?_push_of_some _ q) (Nat.le_refl _) ⟨hz,its,0,hv,Heap.get?_push_size _ rfl⟩
theorem Inv.fresh (I:Inv X pins σ H s):H s.heap.objs.size=none:=I.hok.fresh (Nat.le_refl _)
theorem Inv.lstM (I:Inv X pins σ H s) (hH:H l=some (.lst xs)):xs.length≤sizeLine∧∃ (its:List Value) (n:Nat),Vals xs its∧xs.length=its.length∧s.heap.get? l=some { cls:=.type "list",data:=.seq its.toArray n }:=by
  obtain ⟨z,its,n,r,e⟩:=I.hok l _ hH
  exact ⟨z,its,n,r,r.length,e⟩
theorem ZX {n:Nat} (h:n≤sizeLine):Builtin.List.listTooLong n=false:=by
  unfold Builtin.List.listTooLong
  exact decide_eq_false (by omega)
end
section
variable {X:Cx}
noncomputable def Adw:V→List V→Hp→VK→Prop:=fun x vs H Q=>∃ l xs y,x=.ref l∧vs=[y]∧H l=some (.lst xs)∧xs.length < sizeLine∧Q .non (upd H l (.lst (xs ++ [y])))
theorem Mf:MtM X "list.append" Adw:=by
  intro pins s σ H x vs v us Q I rx rv h
  obtain ⟨l,xs,y,rfl,rfl,hH,hz,q⟩:=h
  cases rx
  obtain ⟨u,rfl,ru⟩:=rv.one
  obtain ⟨z,its,n,r,hl,e⟩:=I.lstM hH
  refine call_meets F.slot_list_append ⟨_,e,rfl⟩ F.entry_list_append (F.args_list_append_2 _ _) (PySem.list_append l its.toArray n u (by rw [List.size_toArray];omega)) ⟨e,?_⟩
  refine ⟨.non,_,I.lset (its':=its ++ [u]) hH e (by simp) (r.append (.cons ru .nil)) ?_,rfl,q⟩
  rw [List.length_append,List.length_singleton]
  omega
noncomputable def Ac6:V→List V→Hp→VK→Prop:=fun x vs H Q=>∃ l b xs zs,x=.ref l∧vs=[.ref b]∧H l=some (.lst xs)∧H b=some (.lst zs)∧xs.length+zs.length≤sizeLine∧Q .non (upd H l (.lst (xs ++ zs)))
theorem AgC:MtM X "list.extend" Ac6:=by
  intro pins s σ H x vs v us Q I rx rv h
  obtain ⟨l,b,xs,zs,rfl,rfl,hH,hB,hz,q⟩:=h
  cases rx
  obtain ⟨u,rfl,ru⟩:=rv.one
  cases ru
  obtain ⟨z,its,n,r,hl,e⟩:=I.lstM hH
  obtain ⟨z2,its2,n2,r2,hl2,e2⟩:=I.lstM hB
  have hsz:its.toArray.size+its2.toArray.size≤sizeLine:=by rw [List.size_toArray,List.size_toArray];omega
  have hlong:¬ (!its.toArray.isEmpty && Builtin.List.listTooLong (its.toArray.size+its2.toArray.size))=true:=by
    rw [ZX hsz,Bool.and_false]
    exact Bool.false_ne_true
  refine call_meets F.slot_list_extend ⟨_,e,rfl⟩ F.entry_list_extend (F.args_list_extend_2 _ _)
    (AutoSeq1.list_extend_list_list_0 l its.toArray n b its2.toArray n2 hlong (by rw [List.size_toArray];omega) (by omega)) ⟨e,e2,?_⟩
  refine ⟨.non,_,I.lset (its':=its ++ its2) hH e (by simp) (r.append r2) ?_,rfl,q⟩
  rw [List.length_append]
  omega
noncomputable def AmG:R2:=fun x y H Q=>∃ l b xs zs,x=.ref l∧y=.ref b∧H l=some (.lst xs)∧H b=some (.lst zs)∧xs.length+zs.length≤sizeLine∧∀ p,H p=none→Q (.ref p) (upd H p (.lst (xs ++ zs)))
theorem AfZ:OpR X (binaryOp .Add) AmG:=by
  intro pins s σ H x y v u Q I rx ry h
  obtain ⟨l,b,xs,zs,rfl,rfl,hH,hB,hz,q⟩:=h
  cases rx
  cases ry
  obtain ⟨z,its,n,r,hl,e⟩:=I.lstM hH
  obtain ⟨z2,its2,n2,r2,hl2,e2⟩:=I.lstM hB
  refine PySem.P.add_list e e2 ?_ (by rw [List.size_toArray,List.size_toArray];omega)
  have ea:its.toArray ++ its2.toArray=(its ++ its2).toArray:=by simp
  rw [ea]
  exact ⟨.ref _,_,I.lnew (t':=s.toks) (r.append r2) (by rw [List.length_append];omega),rfl,q _ I.fresh⟩
end
section
variable {prog:Program} {w:World} {A:Around} {E:Value→Shared→Prop} {s:Shared}
set_option maxRecDepth 100000 in
end
section
variable {X:Cx}
end
end L2
namespace Att
open PySem PySem.W PySem.Calls PyProof.Rows
theorem Nq {P:Params} {h:Heap}:∀ (ns:List Int) (vs:List Value),WellAll P h vs (ns.map WData.int)→IntsAre vs ns:=by
  intro ns
  induction ns with
  | nil =>
    intro vs w
    rw [List.map_nil] at w
    cases w
    exact .nil
  | cons n ns ih =>
    intro vs w
    rw [List.map_cons] at w
    cases w with
    | cons a b =>
      cases a
      exact .cons _ _ (ih _ b)
theorem YD {l:OpenLaw} {n:Nat} (hn:l.most=some n) {P:Params} {h:Heap} {args:List WData} {vals:List Value}
    (hpre:l.row.toRowW.claim.pre args=true) (hwl:WellAll P h vals args) :
    ∃ a vs ns,vals=[Value.ref a]∧args=[WData.list (ns.map WData.int)]∧h.get? a=some { cls:=.type "list",data:=.seq vs.toArray }∧IntsAre vs ns∧ns.length≤n:=by
  have hsh:WShape.hasAll [] args [.list .int]=true:=(pre_splitW hpre).1
  have hc:l.pre.holds [] { args:=args }=true:=(pre_splitW hpre).2
  obtain ⟨d,r,rfl,h1,h2⟩:=hasAllW_cons hsh
  obtain rfl:=hasAllW_nil h2
  obtain ⟨xs,rfl,h3⟩:=hasW_list h1
  obtain ⟨ns,rfl⟩:=items_int h3
  have hlen:ns.length≤n:=by
    unfold OpenLaw.pre at hc
    have h4:(WTm.not (.lt (.lit (.int (n:Int))) (.len (.arg 0)))).holds [] { args:=[.list (ns.map .int)] }=true:=by
      have h4:=(holds_andW hc).1
      rw [hn] at h4
      exact h4
    have h5:=condW_of h4 (w_not (w_lt w_lit (w_len_list (w_arg rfl))))
    rw [List.length_map] at h5
    refine Nat.le_of_not_lt fun q=>?_
    have q':(n:Int) < ((ns.length:Nat):Int):=by omega
    first
      | (rw [decide_eq_true q'] at h5;exact absurd h5 (by decide))
      | (simp at h5;omega)
  cases hwl with
  | cons w1 w2 =>
    cases w2
    cases w1 with
    | list ho hall=>exact ⟨_,_,ns,rfl,rfl,ho,Nq ns _ hall,hlen⟩
theorem Yj (l:OpenLaw) (args:List WData):l.row.toRowW.claim.post args (.bool true) args=true :=
  postW_of (r:=l.row.toRowW) (X:=(true == true))
    (show WShape.has [] (.bool true) .bool=true by first | rfl | decide | simp [WShape.has,WShape.arms,WShape.armsAll])
    (show (WTm.eq .res (.lit (.bool true))).value [] { args:=args,res:=some (.bool true),after:=args }=some (.bool (true == true)) from w_eq_bool (w_res rfl) w_lit) rfl
theorem Vl {l:OpenLaw} {n:Nat} {q:Program} {loose:List Str} {XP:(Str→Option Value)→Heap→Prop} {YP:World→Heap→Prop} {d:DefRec}
    (hn:l.most=some n) (hdf:d.params.defaults=[])
    (call:∀ (w:World) (s₀ s₁:Shared) (mg mb:Str→Option Value) (fa:Addr) (o:Obj) (pm cd doc:Value) (a:Addr) (vs:List Value) (ns:List Int),
      Ground q loose [] XP w s₀ mg mb s₁.heap→YP w s₁.heap →
      s₁.heap.get? fa=some o→o.data=.func (docDef d.name d.params d.body d.scope pm cd doc)→s₁.heap.CodeRec cd d.name→mg d.name=some (.ref fa) →
      s₁.heap.get? a=some { cls:=.type "list",data:=.seq vs.toArray }→IntsAre vs ns→ns.length≤n→s₁.gens = #[] →
      codeAny (model l.prog w) callerA (.call (.ref fa) ⟨[.ref a],[]⟩) (fun r s'=>r=.ok (.ret (.bool true))∧OldK s₁.heap s'.heap∧s'.os=s₁.os∧AllBare s'.gens) s₁) :
    WalkO q loose XP YP l.row.toRowW d [] (fun f vs=>PySem.call f vs):=by
  intro w s₀ s₁ mg mb G Y fa o pm cd doc dV kV ho hd hcd hD hmg hg args vals as hpre hlay hrd hwl hlo
  obtain rfl:dV=.none:=Dflts.none hD hdf
  obtain rfl:kV=.none:=Dflts.noKw hD
  obtain ⟨a,vs,ns,rfl,rfl,hobj,hints,hlen⟩:=YD hn hpre hwl
  refine enter_call (codeAny_mono (call w s₀ s₁ mg mb fa o pm cd doc a vs ns G Y ho (fd_plain hd) hcd hmg hobj hints hlen hg) fun r s' hq=>?_)
  obtain ⟨rfl,h2,h3,h4⟩:=hq
  exact ⟨.inl ⟨.bool true,.bool true,[],rfl,fun _=>rfl,.bool true,Yj l _,fun _=>⟨List.Pairwise.nil,fun _ hm=>(nomatch hm)⟩⟩,h2,h3,h4⟩
section
variable {prog:Program} {w:World} {A:Around} {E:Value→Shared→Prop} {s:Shared} {K:Frag}
noncomputable def ledger (h:Heap) (L d:Addr):List (Addr × Obj):=(List.range h.objs.size).filterMap fun a=>if a=L∨a=d then none else (h.get? a).map fun o=>(a,o)
end
end Att
namespace L2
open PySem PySem.Spec PyProof.Rows
theorem Ra:∀ {vs:List Value} {ns:List Int},IntsAre vs ns→Vals (ns.map V.int) vs
  | _,_,.nil=>.nil
  | _,_,.cons n t h=>.cons ⟨t,rfl⟩ (Ra h)
noncomputable def Only (H:Hp):Prop:=∀ b,H b=none∨∃ o xs,H b=some (.frz o (.lst xs))
theorem Z7 {P:Program} {w:World} {K:PySem.W.Frag} {mg mb:Str→Option Value} {CX:CXT} {k:Nat} {fa a:Addr} {fd:FuncData} {x:Str} {sp:Sp} {s₁:Shared} {vs:List Value} {ns:List Int}
    (KX:K.In s₁.heap) (hns:s₁.heap.Ns mainGlobals mg) (hb:s₁.heap.Ns builtinsNs mb) (hbb:∀ x:Str,x≠"__name__"→mb x=bootBuiltins x) (hlim:s₁.heap.NoLimit) (hg:s₁.gens = #[])
    (ha:s₁.heap.get? a=some { cls:=.type "list",data:=.seq vs.toArray }) (hi:IntsAre vs ns) (hl:ns.length≤sizeLine) (hr:Et k callerA)
    (F:∀ base:Heap,K.In base→base.Ns mainGlobals mg→Ho P w K mg base CX k fa fd [x] sp) (hbind:∀ (s:Shared) (u:Value),BindsTo s fd ⟨[u],[]⟩ [(x,u)])
    (hsp:∀ H:Hp,Only H→SqL K H a (ns.map V.int)→sp [.ref a] H (fun v _=>v=.bl true) fun _ _ _=>False)
    (hCX:∀ H e s',CX [] H s₁ (fun _ _ _=>False) e s'→False) :
    codeAny (model P w) callerA (.call (.ref fa) ⟨[.ref a],[]⟩) (fun r s'=>r=.ok (.ret (.bool true))∧OldK s₁.heap s'.heap∧s'.os=s₁.os∧AllBare s'.gens) s₁:=by
  have rv:=Ra hi
  have lenV:=hi.length
  have core:∀ H:Hp,Only H→SqL K H a (ns.map V.int)→HOk P w H s₁.heap→(∀ b,H b≠none→b=a)→(H a≠none→K.lookup a=none) →
      codeAny (model P w) callerA (.call (.ref fa) ⟨[.ref a],[]⟩) (fun r s'=>r=.ok (.ret (.bool true))∧OldK s₁.heap s'.heap∧s'.os=s₁.os∧AllBare s'.gens) s₁:=by
    intro H hO hS hok hA hK
    have base_of:∀ {b:Addr} {o:Obj},s₁.heap.get? b=some o→H b=none→(R9 s₁.heap H).get? b=some o:=fun e n=>Abg e n
    have noA:∀ {b:Addr} {o:Obj} {es:Array DictEntry} {ep:Nat},s₁.heap.get? b=some o→o.data=.dict es ep→H b=none:=fun {b o es ep} e d=>by
      cases q:H b with
      | none=>rfl
      | some u =>
        have e':b=a:=hA b (by rw [q];simp)
        subst e'
        rw [ha] at e;cases e
        have d':Data.seq vs.toArray _=Data.dict es ep:=d
        cases d'
    have nsK:∀ {b:Addr} {m:Str→Option Value},s₁.heap.Ns b m→(R9 s₁.heap H).Ns b m:=fun {b m} ⟨o,es,ep,e,d,r⟩=>⟨o,es,ep,base_of e (noA e d),d,r⟩
    have hKb:K.In (R9 s₁.heap H):=fun b o e=>base_of (KX b o e) (by
      cases q:H b with
      | none=>rfl
      | some u =>
        have e':b=a:=hA b (by rw [q];simp)
        subst e'
        rw [hK (by rw [q];simp)] at e;cases e)
    have hM:Mod K mg (R9 s₁.heap H):=⟨hKb,nsK hns,⟨mb,nsK hb,hbb⟩,let ⟨mc,h1,h2⟩:=hlim;⟨mc,nsK h1,h2⟩⟩
    have e0:Wz P w K mg (R9 s₁.heap H) callerA [] s₁ H:=⟨rfl,hM,fun b o e=>AcG e,Nat.le_of_eq (Y5 _ _),trivial,fun b hb=>absurd (show b∈([]:List Addr) from hb) (by simp),hok,.of_eq hg⟩
    refine codeAny_mono ((F _ hKb (nsK hns)).run callerA [] s₁ H ⟨[.ref a],[]⟩ [.ref a] [.ref a] _ _ hr e0 (hbind s₁ (.ref a)) (.cons rfl .nil) (hsp H hO hS)) fun r s' h=>?_
    cases r with
    | error e=>exact (hCX H e s' h).elim
    | ok fl =>
      cases fl with
      | next=>exact False.elim h
      | brk=>exact False.elim h
      | cont=>exact False.elim h
      | ret u =>
        obtain ⟨v,H',os,bare,un,hok',r',q⟩:=h
        have q':v=.bl true:=q
        subst q'
        obtain rfl:u=Value.bool true:=r'
        refine ⟨rfl,OldK.of_keep fun b o e=>?_,os,bare⟩
        cases q:H b with
        | none=>exact un.keep b o e q (by intro z;exact absurd (show b∈([]:List Addr) from z) (by simp)) (by simp)
        | some u =>
          rcases hO b with z | ⟨ob,xs,z⟩
          · rw [q] at z;cases z
          · have z2:=un.frzs b ob _ z
            obtain ⟨e1,_⟩:=hok b _ z
            obtain ⟨e2,_⟩:=hok' b _ z2
            rw [e] at e1;cases e1
            exact e2
  cases hk:K.lookup a with
  | some o =>
    have e:=KX a o hk
    rw [ha] at e
    cases e
    refine core (fun _=>none) (fun _=>.inl rfl) (.inr ⟨_,vs.toArray,_,hk,rfl,rfl,rfl,by rw [List.size_toArray,lenV];exact hl,by simpa using rv⟩) (fun b u z=>by have z':(none:Option HO)=some u:=z;cases z') (fun b z=>absurd rfl z) fun z=>absurd rfl z
  | none =>
    refine core (fun b=>if b=a then some (.frz { cls:=.type "list",data:=.seq vs.toArray } (.lst (ns.map V.int))) else none) (fun b=>?_) (.inl (.inr ⟨{ cls:=.type "list",data:=.seq vs.toArray },if_pos rfl⟩)) (fun b u z=>?_) (fun b z=>?_) fun _=>hk
    · by_cases hb:b=a
      · exact .inr ⟨_,_,if_pos hb⟩
      · exact .inl (if_neg hb)
    · by_cases hb:b=a
      · have z':=(if_pos hb).symm.trans z
        cases z'
        subst hb
        exact ⟨ha,by rw [List.length_map];exact hl,vs,_,rv,ha⟩
      · have z':=(if_neg hb).symm.trans z
        cases z'
    · by_cases hb:b=a
      · exact hb
      · exact absurd (if_neg hb) z
end L2
namespace L2
open PySem PySem.Spec PyProof.Rows
noncomputable abbrev KOf {K:PySem.W.Frag} {h:Heap} (_:K.In h):PySem.W.Frag:=K
theorem Adj {l:PySem.W.OpenLaw} {n k:Nat} {q:Program} {loose:List Str} {XP:(Str→Option Value)→Heap→Prop} {YP:World→Heap→Prop} {d:DefRec} {K:Params→PySem.W.Frag} {CX:World→CXT} {sp:World→Sp} {x:Str}
    (hn:l.most=some n) (hn2:n≤sizeLine) (hdf:d.params.defaults=[]) (hr:Et k callerA)
    (hY:∀ (w:World) (h:Heap),YP w h→(K w.params).In h)
    (F:∀ (w:World) (mg:Str→Option Value) (fa:Addr) (h:Heap),(K w.params).In h→h.Ns mainGlobals mg→mg d.name=some (.ref fa) →
      ∃ fd:FuncData,(∀ (s:Shared) (u:Value),BindsTo s fd ⟨[u],[]⟩ [(x,u)]) ∧
        ∀ base:Heap,(K w.params).In base→base.Ns mainGlobals mg→Ho l.prog w (K w.params) mg base (CX w) k fa fd [x] (sp w))
    (hsp:∀ (w:World) (H:Hp) (a:Addr) (ns:List Int),ns.length≤n→Only H→SqL (K w.params) H a (ns.map V.int)→sp w [.ref a] H (fun v _=>v=.bl true) fun _ _ _=>False)
    (hCX:∀ (w:World) (H:Hp) (s:Shared) (e:Value) (s':Shared),CX w [] H s (fun _ _ _=>False) e s'→False) :
    PySem.W.WalkO q loose XP YP l.row.toRowW d [] (fun f vs=>PySem.call f vs):=by
  refine Att.Vl hn hdf fun w s₀ s₁ mg mb fa o pm cd doc a vs ns G Y ho hd hcd hmg hobj hints hlen hg=>?_
  have KX:=hY w _ Y
  obtain ⟨fd,hb,hF⟩:=F w mg fa _ KX G.T.g hmg
  exact Z7 KX G.T.g G.T.b G.T.builtins G.T.nolimit hg hobj hints (Nat.le_trans hlen hn2) hr hF hb (fun H hO hS=>hsp w H a ns hlen hO hS) fun H e s'=>hCX w H s₁ e s'
end L2
namespace L2
open PySem PySem.Spec PyProof.Rows
noncomputable def inClass (s:Stmt) (j:Nat):Stmt:=match s with
  | .ClassDef _ _ _ body _ _ _ _ _ _ _=>body.getD j (.Pass ⟨0,0,0,0⟩)
  | _=>.Pass ⟨0,0,0,0⟩
noncomputable def Ef (s:Stmt):Arguments:=match s with
  | .FunctionDef _ a _ _ _ _ _ _ _ _=>a
  | _=>{ posonlyargs:=[],args:=[],vararg:=none,kwonlyargs:=[],kw_defaults:=[],kwarg:=none,defaults:=[] }
noncomputable def Du (s:Stmt):List Stmt:=match s with
  | .FunctionDef _ _ b _ _ _ _ _ _ _=>b
  | _=>[]
noncomputable def Ai (s:Stmt):Scope:=match s with
  | .FunctionDef _ _ _ _ _ _ sc _ _ _=>sc
  | _=>{ kind:=.function,names:=[],isGenerator:=false,isCoroutine:=false }
noncomputable abbrev CX0:CXT:=fun _ _ _ _ _ _=>False
noncomputable abbrev E0:XK:=fun _ _ _=>False
theorem Yb {X:Cx}:Passes CX0 X E0:=fun _ _ _ _ _ _ _ h=>h.elim
structure Fun (K:PySem.W.Frag) (x qual:Str) (st:Stmt) (f:Addr) (fd:FuncData):Prop where
  ex:∃ (oc:Value) (od:Option Addr) (kV doc pm:Value) (an:Option Addr) (cdv ct:Value) (osl:Array (Option Value)),
    fd=PySem.W.fnOf x qual (Ef st) (Du st) (Ai st) .none kV doc pm an cdv ct∧K.lookup f=some ⟨oc,od,.func fd,osl⟩∧PySem.W.codeIn K cdv qual=true
  kp:PySem.W.keepIn K (.ref f)=true
section
variable {P:Program} {w:World} {K:PySem.W.Frag} {mg:Str→Option Value} {base:Heap}
theorem Fun.ok {x qual:Str} {st:Stmt} {f:Addr} {fd:FuncData} {N ps:List Str} {k:Nat} {sp:Sp} (F:Fun K x qual st f fd) (S:Am N ps (Ai st)) (len:∀ vs H Q E,sp vs H Q E→vs.length=ps.length)
    (hbody:∀ (cdv:Value) (A:Around) (outer:List Env) (s:Shared) (H:Hp) (vs:List V) (Q:VK) (E:XK),Et k (A.deeper (envOfC qual (Ai st) s.heap.objs.size f cdv))→sp vs H Q E →
      ∃ t,PSs (Wl CX0 P w K mg base N qual (Ai st) f cdv A outer s H E).nox (Du st) t∧t { nx:=fun _ H'=>Q .non H',rt:=Q } (start N vs) H):Ho P w K mg base CX0 (k+1) f fd ps sp:=by
  obtain ⟨oc,od,kV,doc,pm,an,cdv,ct,osl,rfl,lk,hcd⟩:=F.ex
  refine AhC lk hcd S len fun A outer s H vs Q E hr hsp=>?_
  obtain ⟨t,h,q⟩:=hbody cdv A outer s H vs Q E hr hsp
  exact ⟨t,h.nox,q⟩
theorem Fun.binds {x qual:Str} {st:Stmt} {f:Addr} {fd:FuncData} {ps:List Str} (F:Fun K x qual st f fd)
    (h:∀ (kV doc pm:Value) (an:Option Addr) (cdv ct:Value) (us:List Value),us.length=ps.length→bindArgs (PySem.W.fnOf x qual (Ef st) (Du st) (Ai st) .none kV doc pm an cdv ct) ⟨us,[]⟩=pure (ps.zip us)):Binds K fd ps []:=by
  obtain ⟨oc,od,kV,doc,pm,an,cdv,ct,osl,rfl,lk,hcd⟩:=F.ex
  exact .all (h kV doc pm an cdv ct)
theorem LR {x qual:Str} {st:Stmt} {f:Addr} {oc:Value} {od an:Option Addr} {osl:Array (Option Value)} {kV doc pm cdv ct:Value} (l:K.lookup f=some ⟨oc,od,.func (PySem.W.fnOf x qual (Ef st) (Du st) (Ai st) .none kV doc pm an cdv ct),osl⟩)
    (c:PySem.W.codeIn K cdv qual=true) (k:PySem.W.keepIn K (.ref f)=true):Fun K x qual st f (PySem.W.fnOf x qual (Ef st) (Du st) (Ai st) .none kV doc pm an cdv ct):=⟨⟨oc,od,kV,doc,pm,an,cdv,ct,osl,rfl,l,c⟩,k⟩
end
theorem YL {n:Nat} (h:n≤1000):n < sizeLine:=Nat.lt_of_le_of_lt h (by decide)
section
variable {X:Cx}
end
theorem NK {c A B:Prop} [Decidable c] (h1:c→A) (h2:¬ c→B):if c then A else B:=by
  by_cases h:c
  · rw [if_pos h]
    exact h1 h
  · rw [if_neg h]
    exact h2 h
noncomputable def Same (H H':Hp):Prop:=∀ b o,H b=some o→H' b=some o
theorem Same.refl (H:Hp):Same H H:=fun _ _ h=>h
theorem Same.trans {H H1 H2:Hp} (a:Same H H1) (b:Same H1 H2):Same H H2:=fun c o h=>b c o (a c o h)
theorem Same.seq {K:PySem.W.Frag} {H H':Hp} {a:Addr} {xs:List V} (e:Same H H') (h:SqL K H a xs):SqL K H' a xs:=by
  rcases h with (h | ⟨o,h⟩) | h
  · exact .inl (.inl (e _ _ h))
  · exact .inl (.inr ⟨o,e _ _ h⟩)
  · exact .inr h
end L2
namespace L2
open PySem PySem.Spec PyProof.Rows
noncomputable def exO (a C dx:Addr) (h:Heap):Prop:=∃ o vs,h.get? a=some o∧o.cls=.ref C∧o.dict=some dx∧o.data=.fields vs∧dx≠a
section
variable {M:Model} {A:Around} {E:Value→Shared→Prop} {s:Shared} {base:Heap} {env:Env} {outer:List Env} {L e:Addr}
end
section
variable {P:Program} {w:World} {H:Hp} {h h':Heap} {fs:List Addr} {e:Addr} {oe:Obj} {vs:Array Value} {old:Option Addr} {φ:Heap→Prop}
end
end L2
namespace L2
open PySem PySem.Spec PyProof.Rows
noncomputable def Exc (H:Hp) (a:Addr):Prop:=∃ C dx,H a=some (.ext (exO a C dx))
section
variable {X:Cx} {pins:List (Addr × Obj)} {σ:St} {H:Hp} {s:Shared} {a:Addr} {E:Value→Shared→Prop} {Q:Unit→Shared→Prop}
end
section
variable {X:Cx} {k:Nat} {f:Addr} {fd:FuncData} {ps:List Str} {sp:Sp} {x:Str} {p pos:Pos} {e:Expr} {es:List Expr} {t:TA}
end
end L2
namespace L2
open PySem PySem.Spec PyProof.Rows
noncomputable abbrev bmV:List Value:=[.type "ValueError",.type "Exception",.type "BaseException",.type "object"]
noncomputable def AkQ (es:Array DictEntry):Bool:=es.toList.all fun e=>match e.key with | .str _ _=>true | _=>false
structure XC (K:PySem.W.Frag) (C F:Addr):Prop where
  obj:∃ nm q N bs sn sub ab col dd k0 k1 k2 k3 k5,K.lookup C=some (excClassObj nm q C N bs (.ref F :: bmV) true sn sub ab col dd k0 k1 k2 k3 k5 "ValueError.__new__")
  tail:∃ c0 dd cd sl oc od es ep sl',K.lookup F=some ⟨c0,dd,.cls cd,sl⟩∧K.lookup cd.ns=some ⟨oc,od,.dict es ep,sl'⟩∧AkQ es=true∧nsFind es "__init__"=none
  sa:PySem.W.findIn K (.ref C) "__setattr__"=some (some (.builtin "object.__setattr__"))
  ga:PySem.W.findIn K (.ref C) "__getattribute__"=some (some (.builtin "BaseException.__getattribute__"))
  gh:PySem.W.findIn K (.ref C) "__getattr__"=some none
  cl:PySem.W.findIn K (.ref C) "__class__"=some (some (.builtin "object.__class__"))
  gg:PySem.W.specialIn K (.builtin "object.__class__") "__get__"=some (some (.builtin "getset_descriptor.__get__"))
  gt:PySem.W.takesIn K (.builtin "object.__class__")=some true
section
variable {prog:Program} {w:World} {A:Around} {E:Value→Shared→Prop} {s:Shared} {K:PySem.W.Frag} {C U fI:Addr} {rest:List Value}
end
end L2
namespace L2
open PySem PySem.Spec PyProof.Rows PySem.W PySem.Builtin PySem.Builtin.ObjectAttr
section
variable {prog:Program} {w:World} {A:Around} {E:Value→Shared→Prop} {s:Shared} {K:PySem.W.Frag} {C U x:Addr} {name:Str} {v:Value}
end
end L2
namespace L2
open PySem PySem.Spec PyProof.Rows PySem.W PySem.Builtin PySem.Builtin.ObjectAttr
section
variable {prog:Program} {w:World} {A:Around} {E:Value→Shared→Prop} {s:Shared} {K:PySem.W.Frag} {C U x:Addr} {name:Str} {v:Value} {ox:Obj} {od:Option Obj}
end
end L2
namespace L2
open PySem PySem.Spec PyProof.Rows PySem.SeqAt
inductive Dt where
  | non | bl (b:Bool) | int (i:Int) | str (x:Str) | tup (ds:List Dt) | lst (ds:List Dt) | fn (a:Addr)
    | exc (c:Str) (ns:List Str) (ds:List Dt)
    | obj (c:Str) (ns:List Str) (ds:List Dt)
noncomputable def LsD (K:PySem.W.Frag) (H:Hp) (a:Addr) (xs:List V):Prop:=H a=some (.lst xs)∨(SqL K H a xs∧∀ x∈xs,∃ i:Int,x=.int i)
theorem LsD.sq {K:PySem.W.Frag} {H:Hp} {a:Addr} {xs:List V} (h:LsD K H a xs):SqL K H a xs:=by
  rcases h with h | ⟨h,_⟩
  · exact SqL.of h
  · exact h
theorem LsD.mono {K:PySem.W.Frag} {H H':Hp} {a:Addr} {xs:List V} (s:Same H H') (h:LsD K H a xs):LsD K H' a xs:=by
  rcases h with h | ⟨h,q⟩
  · exact .inl (s _ _ h)
  · exact .inr ⟨s.seq h,q⟩
mutual
noncomputable def Rp (K:PySem.W.Frag) (H:Hp):Dt→V→Prop
  | .non,v=>v=.non
  | .bl b,v=>v=.bl b
  | .int i,v=>v=.int i
  | .str x,v=>v=.str x
  | .fn a,v=>v=.ref a
  | .exc c ns ds,v=>∃ a C U dx vs,v=.ref a∧PySem.W.nsIn K mainGlobals c=some (some (.ref C))∧XC K C U∧H a=some (.ext (exO a C dx))∧H dx=some (.xd (ns.zip vs))∧ns.length=ds.length∧RpL K H ds vs
  | .obj c ns ds,v=>∃ a C dx vs,v=.ref a∧PySem.W.nsIn K mainGlobals c=some (some (.ref C))∧Cls K C∧H a=some (.ins C dx (ns.zip vs))∧ns.length=ds.length∧RpL K H ds vs
  | .tup ds,v=>∃ a xs,v=.ref a∧SqT K H a xs∧RpL K H ds xs
  | .lst ds,v=>∃ a xs,v=.ref a∧LsD K H a xs∧RpL K H ds xs
noncomputable def RpL (K:PySem.W.Frag) (H:Hp):List Dt→List V→Prop
  | [],xs=>xs=[]
  | d :: ds,xs=>∃ v r,xs=v :: r∧Rp K H d v∧RpL K H ds r
end
theorem Same.seqT {K:PySem.W.Frag} {H H':Hp} {a:Addr} {xs:List V} (e:Same H H') (h:SqT K H a xs):SqT K H' a xs:=by
  rcases h with (h | ⟨o,h⟩) | h
  · exact .inl (.inl (e _ _ h))
  · exact .inl (.inr ⟨o,e _ _ h⟩)
  · exact .inr h
mutual
theorem Rp.mono {K:PySem.W.Frag} {H H':Hp} (s:Same H H'):∀ {d:Dt} {v:V},Rp K H d v→Rp K H' d v
  | .non,_,h=>by unfold Rp at h ⊢;exact h
  | .bl _,_,h=>by unfold Rp at h ⊢;exact h
  | .int _,_,h=>by unfold Rp at h ⊢;exact h
  | .str _,_,h=>by unfold Rp at h ⊢;exact h
  | .fn _,_,h=>by unfold Rp at h ⊢;exact h
  | .exc _ _ _,_,h=>by
    unfold Rp at h ⊢
    obtain ⟨a,C,U,dx,vs,e,q,x,h1,h2,l,r⟩:=h
    exact ⟨a,C,U,dx,vs,e,q,x,s _ _ h1,s _ _ h2,l,RpL.mono s r⟩
  | .obj _ _ _,_,h=>by
    unfold Rp at h ⊢
    obtain ⟨a,C,dx,vs,e,q,x,h1,l,r⟩:=h
    exact ⟨a,C,dx,vs,e,q,x,s _ _ h1,l,RpL.mono s r⟩
  | .tup ds,_,h=>by
    unfold Rp at h ⊢
    obtain ⟨a,xs,e,q,r⟩:=h
    exact ⟨a,xs,e,s.seqT q,RpL.mono s r⟩
  | .lst ds,_,h=>by
    unfold Rp at h ⊢
    obtain ⟨a,xs,e,q,r⟩:=h
    exact ⟨a,xs,e,q.mono s,RpL.mono s r⟩
theorem RpL.mono {K:PySem.W.Frag} {H H':Hp} (s:Same H H'):∀ {ds:List Dt} {vs:List V},RpL K H ds vs→RpL K H' ds vs
  | [],_,h=>by unfold RpL at h ⊢;exact h
  | d :: ds,_,h=>by
    unfold RpL at h ⊢
    obtain ⟨v,r,e,q,p⟩:=h
    exact ⟨v,r,e,Rp.mono s q,RpL.mono s p⟩
end
section
variable {K:PySem.W.Frag} {H:Hp}
theorem Jj {v:V}:Rp K H .non v↔v=.non:=by unfold Rp;exact Iff.rfl
theorem Cz {b:Bool} {v:V}:Rp K H (.bl b) v↔v=.bl b:=by unfold Rp;exact Iff.rfl
theorem Bj {i:Int} {v:V}:Rp K H (.int i) v↔v=.int i:=by unfold Rp;exact Iff.rfl
theorem Mz {x:Str} {v:V}:Rp K H (.str x) v↔v=.str x:=by unfold Rp;exact Iff.rfl
theorem AdP {a:Addr} {v:V}:Rp K H (.fn a) v↔v=.ref a:=by unfold Rp;exact Iff.rfl
theorem Aa2 {c:Str} {ns:List Str} {ds:List Dt} {v:V}:Rp K H (.exc c ns ds) v↔∃ a C U dx vs,v=.ref a∧PySem.W.nsIn K mainGlobals c=some (some (.ref C))∧XC K C U∧H a=some (.ext (exO a C dx))∧H dx=some (.xd (ns.zip vs))∧ns.length=ds.length∧RpL K H ds vs:=by rw [Rp]
theorem Pr {c:Str} {ns:List Str} {ds:List Dt} {v:V}:Rp K H (.obj c ns ds) v↔∃ a C dx vs,v=.ref a∧PySem.W.nsIn K mainGlobals c=some (some (.ref C))∧Cls K C∧H a=some (.ins C dx (ns.zip vs))∧ns.length=ds.length∧RpL K H ds vs:=by rw [Rp]
theorem Ck {ds:List Dt} {v:V}:Rp K H (.tup ds) v↔∃ a xs,v=.ref a∧SqT K H a xs∧RpL K H ds xs:=by rw [Rp]
theorem S8 {ds:List Dt} {v:V}:Rp K H (.lst ds) v↔∃ a xs,v=.ref a∧LsD K H a xs∧RpL K H ds xs:=by rw [Rp]
theorem JM {ds:List Dt} {v:V} (h:∃ a xs,v=.ref a∧H a=some (.lst xs)∧RpL K H ds xs):Rp K H (.lst ds) v:=let ⟨a,xs,e,h1,h2⟩:=h;S8.mpr ⟨a,xs,e,.inl h1,h2⟩
theorem DP {ds:List Dt} {v:V} (h:Rp K H (.lst ds) v):∃ a xs,v=.ref a∧SqL K H a xs∧RpL K H ds xs:=let ⟨a,xs,e,h1,h2⟩:=S8.mp h;⟨a,xs,e,h1.sq,h2⟩
theorem Acp {ns:List Int} {a:Addr} (h:SqL K H a (ns.map V.int)) (r:RpL K H (ns.map Dt.int) (ns.map V.int)):Rp K H (.lst (ns.map Dt.int)) (.ref a):=S8.mpr ⟨a,_,rfl,.inr ⟨h,fun x hx=>by obtain ⟨i,_,rfl⟩:=List.mem_map.mp hx;exact ⟨i,rfl⟩⟩,r⟩
theorem BR {vs:List V}:RpL K H [] vs↔vs=[]:=by rw [RpL]
theorem Ax {d:Dt} {ds:List Dt} {vs:List V}:RpL K H (d :: ds) vs↔∃ v r,vs=v :: r∧Rp K H d v∧RpL K H ds r:=by rw [RpL]
theorem RpL.nil:RpL K H [] []:=BR.mpr rfl
theorem RpL.cons {d:Dt} {ds:List Dt} {v:V} {vs:List V} (h:Rp K H d v) (r:RpL K H ds vs):RpL K H (d :: ds) (v :: vs):=Ax.mpr ⟨v,vs,rfl,h,r⟩
theorem RpL.len:∀ {ds:List Dt} {vs:List V},RpL K H ds vs→vs.length=ds.length
  | [],_,h=>by rw [BR.mp h];rfl
  | d :: ds,_,h=>by
    obtain ⟨v,r,rfl,_,p⟩:=Ax.mp h
    simp [RpL.len p]
theorem RpL.get:∀ {ds:List Dt} {vs:List V} {i:Nat} {d:Dt},RpL K H ds vs→ds[i]? = some d→∃ v,vs[i]? = some v∧Rp K H d v
  | [],_,_,_,_,e=>by simp at e
  | d :: ds,_,0,_,h,e=>by
    obtain ⟨v,r,rfl,q,p⟩:=Ax.mp h
    simp at e;subst e
    exact ⟨v,rfl,q⟩
  | d :: ds,_,i+1,_,h,e=>by
    obtain ⟨v,r,rfl,q,p⟩:=Ax.mp h
    obtain ⟨u,e1,e2⟩:=RpL.get (i:=i) p (by simpa using e)
    exact ⟨u,by simpa using e1,e2⟩
theorem RpL.get':∀ {ds:List Dt} {vs:List V} {i:Nat} {v:V},RpL K H ds vs→vs[i]? = some v→∃ d,ds[i]? = some d∧Rp K H d v
  | [],_,_,_,h,e=>by rw [BR.mp h] at e;simp at e
  | d :: ds,_,0,_,h,e=>by
    obtain ⟨v,r,rfl,q,p⟩:=Ax.mp h
    simp at e;subst e
    exact ⟨d,rfl,q⟩
  | d :: ds,_,i+1,_,h,e=>by
    obtain ⟨v,r,rfl,q,p⟩:=Ax.mp h
    obtain ⟨u,e1,e2⟩:=RpL.get' (i:=i) p (by simpa using e)
    exact ⟨u,by simpa using e1,e2⟩
theorem RpL.append:∀ {ds es:List Dt} {vs ws:List V},RpL K H ds vs→RpL K H es ws→RpL K H (ds ++ es) (vs ++ ws)
  | [],_,_,_,h,q=>by rw [BR.mp h];exact q
  | d :: ds,_,_,_,h,q=>by
    obtain ⟨v,r,rfl,a,p⟩:=Ax.mp h
    exact .cons a (RpL.append p q)
theorem RpL.drop:∀ {ds:List Dt} {vs:List V} (n:Nat),RpL K H ds vs→RpL K H (ds.drop n) (vs.drop n)
  | _,_,0,h=>by simpa using h
  | [],_,n+1,h=>by rw [BR.mp h];simpa using RpL.nil
  | d :: ds,_,n+1,h=>by
    obtain ⟨v,r,rfl,a,p⟩:=Ax.mp h
    simpa using RpL.drop n p
theorem RpL.take:∀ {ds:List Dt} {vs:List V} (n:Nat),RpL K H ds vs→RpL K H (ds.take n) (vs.take n)
  | _,_,0,h=>by simpa using RpL.nil
  | [],_,n+1,h=>by rw [BR.mp h];simpa using RpL.nil
  | d :: ds,_,n+1,h=>by
    obtain ⟨v,r,rfl,a,p⟩:=Ax.mp h
    simpa using RpL.cons a (RpL.take n p)
theorem RpL.ints:∀ (ns:List Int),RpL K H (ns.map Dt.int) (ns.map V.int)
  | []=>RpL.nil
  | _ :: ns=>RpL.cons (Bj.mpr rfl) (RpL.ints ns)
end
noncomputable def mask (O:List Addr) (H:Hp):Hp:=fun a=>if a∈O then none else H a
theorem Dq {O:List Addr} {H:Hp} {a:Addr} (h:a∈O):mask O H a=none:=if_pos h
theorem Bb {O:List Addr} {H:Hp} {a:Addr} (h:a∉O):mask O H a=H a:=if_neg h
theorem CQ {O:List Addr} {H:Hp} {a:Addr} {o:HO} (h:mask O H a=some o):a∉O∧H a=some o:=by
  by_cases q:a∈O
  · rw [Dq q] at h;cases h
  · rw [Bb q] at h;exact ⟨q,h⟩
theorem Ba {O:List Addr} {H:Hp}:Same (mask O H) H:=fun _ _ h=>(CQ h).2
theorem Same.mask {O:List Addr} {H H':Hp} (s:Same H H'):Same (mask O H) (L2.mask O H'):=fun a o h=>by
  obtain ⟨q,e⟩:=CQ h
  rw [Bb q];exact s a o e
theorem Gp {O O':List Addr} {H:Hp} (h:∀ a∈O',a∈O):Same (mask O H) (mask O' H):=fun a o e=>by
  obtain ⟨q,e⟩:=CQ e
  rw [Bb fun z=>q (h a z)];exact e
theorem Same.upd {H:Hp} {p:Addr} {o:HO} (h:H p=none):Same H (L2.upd H p o):=fun a u e=>by
  rw [Aw (Bv e h)];exact e
noncomputable def tabAt (a:Addr) (xs:List (List Key × Addr × Value)) (h:Heap):Prop:=(a == sysModules)=false∧∃ (P:Program) (w:World) (o:Obj) (es:Array DictEntry) (ep:Nat),h.get? a=some o∧o.ExactDict∧o.data=.dict es ep∧es.toList=xs.map (entryOfKey (tupleKind (GF P w)))∧(xs.map (·.1)).Nodup
noncomputable def Vi (K:PySem.W.Frag) (H:Hp) (ks:List (List Int)) (xs:List (List Key × Addr × Value)):Prop:=xs.map (·.1)=ks.map (·.map Sum.inl)∧∀ x∈xs,SqT K H x.2.1 (x.1.map kV)
theorem Vi.mono {K:PySem.W.Frag} {H H':Hp} {ks:List (List Int)} {xs:List (List Key × Addr × Value)} (s:Same H H') (h:Vi K H ks xs):Vi K H' ks xs:=⟨h.1,fun x hx=>s.seqT (h.2 x hx)⟩
inductive En where
  | is (d:Dt) | own (ds:List Dt) | tab (ks:List (List Int))
noncomputable abbrev BZ:=List (Option En)
noncomputable abbrev DTE:=BZ→(Dt→Prop)→Prop
noncomputable abbrev DTT:=BZ→(Bool→Prop)→Prop
noncomputable abbrev DTA:=BZ→(List Dt→Prop)→Prop
structure Gv where
  nx:BZ→Prop
  rt:Dt→Prop
  bk:BZ→Prop:=fun _=>False
  ct:BZ→Prop:=fun _=>False
noncomputable abbrev DTS:=Gv→BZ→Prop
structure Rep (K:PySem.W.Frag) (B:Hp) (F O:List Addr) (H:Hp) (σ:St) (ρ:BZ):Prop where
  len:σ.length=ρ.length
  base:Same B H
  fr:∀ a∈O,B a=none
  th:∀ a∈F ++ O,H a≠none
  is:∀ (i:Nat) (d:Dt),ρ[i]? = some (some (.is d))→∃ v,σ[i]? = some (some v)∧Rp K (mask (F ++ O) H) d v
  own:∀ (i:Nat) (ds:List Dt),ρ[i]? = some (some (.own ds))→∃ a xs,σ[i]? = some (some (.ref a))∧a∈O∧a∉F∧H a=some (.lst xs)∧RpL K (mask (F ++ O) H) ds xs
  inj:∀ (i j:Nat) (ds es:List Dt) (a:Addr),ρ[i]? = some (some (.own ds))→ρ[j]? = some (some (.own es))→σ[i]? = some (some (.ref a))→σ[j]? = some (some (.ref a))→i=j
  tab:∀ (i:Nat) (ks:List (List Int)),ρ[i]? = some (some (.tab ks))→∃ a xs,σ[i]? = some (some (.ref a))∧a∈O∧a∉F∧H a=some (.ext (tabAt a xs))∧Vi K (mask (F ++ O) H) ks xs
  tinj:∀ (i j:Nat) (ks ls:List (List Int)) (a:Addr),ρ[i]? = some (some (.tab ks))→ρ[j]? = some (some (.tab ls))→σ[i]? = some (some (.ref a))→σ[j]? = some (some (.ref a))→i=j
section
variable {K:PySem.W.Frag} {B:Hp} {F O:List Addr} {H H':Hp} {σ:St} {ρ:BZ}
theorem Rep.same (r:Rep K B F O H σ ρ) (s:Same H H'):Rep K B F O H' σ ρ where
  len:=r.len
  base:=r.base.trans s
  fr:=r.fr
  th:=fun a h e=>by
    have:=r.th a h
    cases q:H a with
    | none=>exact this q
    | some o=>rw [s a o q] at e;cases e
  is:=fun i d e=>let ⟨v,h1,h2⟩:=r.is i d e;⟨v,h1,h2.mono s.mask⟩
  own:=fun i ds e=>let ⟨a,xs,h1,h2,h3,h4,h5⟩:=r.own i ds e;⟨a,xs,h1,h2,h3,s _ _ h4,h5.mono s.mask⟩
  inj:=r.inj
  tab:=fun i ks e=>let ⟨a,xs,h1,h2,h3,h4,h5⟩:=r.tab i ks e;⟨a,xs,h1,h2,h3,s _ _ h4,h5.mono s.mask⟩
  tinj:=r.tinj
theorem Rep.below (r:Rep K B F O H σ ρ):Same (mask F B) (mask (F ++ O) H):=fun a o e=>by
  obtain ⟨q,e⟩:=CQ e
  rw [Bb]
  · exact r.base a o e
  · intro z
    rcases List.mem_append.mp z with z | z
    · exact q z
    · rw [r.fr a z] at e;cases e
theorem Rep.set (r:Rep K B F O H σ ρ) (i:Nat) {d:Dt} {v:V} (h:Rp K (mask (F ++ O) H) d v):Rep K B F O H (σ.set i (some v)) (ρ.set i (some (.is d))):=by
  have hl:=r.len
  have back:∀ (j:Nat) (ds:En),(∀ z,ds≠.is z)→(ρ.set i (some (.is d)))[j]? = some (some ds)→j≠i∧ρ[j]? = some (some ds):=fun j ds nz e=>by
    by_cases hj:j=i
    · subst hj
      by_cases hk:j < ρ.length
      · rw [List.getElem?_set_self hk] at e;cases e;exact (nz d rfl).elim
      · rw [List.getElem?_eq_none (by simpa using hk)] at e;cases e
    · rw [List.getElem?_set_ne (Ne.symm hj)] at e;exact ⟨hj,e⟩
  refine ⟨by simpa using hl,r.base,r.fr,r.th,fun j e q=>?_,fun j ds q=>?_,fun j k ds es a h1 h2 h3 h4=>?_,fun j ks q=>?_,fun j k ds es a h1 h2 h3 h4=>?_⟩
  · by_cases hj:j=i
    · subst hj
      by_cases hk:j < ρ.length
      · rw [List.getElem?_set_self hk] at q
        cases q
        exact ⟨v,List.getElem?_set_self (by omega),h⟩
      · rw [List.getElem?_eq_none (by simpa using hk)] at q;cases q
    · rw [List.getElem?_set_ne (Ne.symm hj)] at q ⊢
      exact r.is j e q
  · obtain ⟨hj,q⟩:=back j _ (fun _ z=>by cases z) q
    rw [List.getElem?_set_ne (Ne.symm hj)]
    exact r.own j ds q
  · obtain ⟨hj,q1⟩:=back j _ (fun _ z=>by cases z) h1
    obtain ⟨hk,q2⟩:=back k _ (fun _ z=>by cases z) h2
    rw [List.getElem?_set_ne (Ne.symm hj)] at h3
    rw [List.getElem?_set_ne (Ne.symm hk)] at h4
    exact r.inj j k ds es a q1 q2 h3 h4
  · obtain ⟨hj,q⟩:=back j _ (fun _ z=>by cases z) q
    rw [List.getElem?_set_ne (Ne.symm hj)]
    exact r.tab j ks q
  · obtain ⟨hj,q1⟩:=back j _ (fun _ z=>by cases z) h1
    obtain ⟨hk,q2⟩:=back k _ (fun _ z=>by cases z) h2
    rw [List.getElem?_set_ne (Ne.symm hj)] at h3
    rw [List.getElem?_set_ne (Ne.symm hk)] at h4
    exact r.tinj j k ds es a q1 q2 h3 h4
end
noncomputable def lE (K:PySem.W.Frag) (t:DTE):TE:=fun σ H Q=>∃ B F O ρ,Rep K B F O H σ ρ∧t ρ fun d=>∀ v H',Same H H'→Rp K (mask (F ++ O) H') d v→Q v H'
noncomputable def lT (K:PySem.W.Frag) (t:DTT):TT:=fun σ H Q=>∃ B F O ρ,Rep K B F O H σ ρ∧t ρ fun b=>∀ H',Same H H'→Q b H'
noncomputable def lA (K:PySem.W.Frag) (t:DTA):TA:=fun σ H Q=>∃ B F O ρ,Rep K B F O H σ ρ∧t ρ fun ds=>∀ vs H',Same H H'→RpL K (mask (F ++ O) H') ds vs→Q vs H'
noncomputable def lD (K:PySem.W.Frag) (B:Hp) (F:List Addr) (D:Ends):Gv where
  nx:=fun ρ'=>∀ O' σ' H',Rep K B F O' H' σ' ρ'→D.nx σ' H'
  rt:=fun d=>∀ v H',Same B H'→Rp K (mask F H') d v→D.rt v H'
  bk:=fun ρ'=>∀ O' σ' H',Rep K B F O' H' σ' ρ'→D.bk σ' H'
  ct:=fun ρ'=>∀ O' σ' H',Rep K B F O' H' σ' ρ'→D.ct σ' H'
noncomputable def lS (K:PySem.W.Frag) (t:DTS):TS:=fun D σ H=>∃ B F O ρ,Rep K B F O H σ ρ∧t (lD K B F D) ρ
structure Gv.le (D D':Gv):Prop where
  nx:∀ ρ,D.nx ρ→D'.nx ρ
  rt:∀ d,D.rt d→D'.rt d
  bk:∀ ρ,D.bk ρ→D'.bk ρ
  ct:∀ ρ,D.ct ρ→D'.ct ρ
structure DE (X:Cx) (e:Expr) (t:DTE):Prop where
  mono:∀ {ρ Q Q'},(∀ d,Q d→Q' d)→t ρ Q→t ρ Q'
  pe:PE X e (lE X.K t)
structure DT (X:Cx) (e:Expr) (t:DTT):Prop where
  mono:∀ {ρ Q Q'},(∀ d,Q d→Q' d)→t ρ Q→t ρ Q'
  pt:PT X e (lT X.K t)
structure DA (X:Cx) (es:List Expr) (t:DTA):Prop where
  mono:∀ {ρ Q Q'},(∀ d,Q d→Q' d)→t ρ Q→t ρ Q'
  pa:PA X es (lA X.K t)
structure DS (X:Cx) (st:Stmt) (t:DTS):Prop where
  mono:∀ {ρ D D'},Gv.le D D'→t D ρ→t D' ρ
  ps:PS X st (lS X.K t)
structure DSs (X:Cx) (st:List Stmt) (t:DTS):Prop where
  mono:∀ {ρ D D'},Gv.le D D'→t D ρ→t D' ρ
  ps:PSs X st (lS X.K t)
theorem PE.imp {X:Cx} {e:Expr} {t t':TE} (h:PE X e t) (i:∀ σ H Q,t' σ H Q→t σ H Q):PE X e t':=fun pins s σ H Q I q=>h pins s σ H Q I (i _ _ _ q)
theorem PT.imp {X:Cx} {e:Expr} {t t':TT} (h:PT X e t) (i:∀ σ H Q,t' σ H Q→t σ H Q):PT X e t':=fun pins s σ H Q I q=>h pins s σ H Q I (i _ _ _ q)
theorem PA.imp {X:Cx} {e:List Expr} {t t':TA} (h:PA X e t) (i:∀ σ H Q,t' σ H Q→t σ H Q):PA X e t':=fun pos pins s σ H Q I q=>h pos pins s σ H Q I (i _ _ _ q)
theorem PS.imp {X:Cx} {e:Stmt} {t t':TS} (h:PS X e t) (i:∀ D σ H,t' D σ H→t D σ H):PS X e t':=fun pins s σ H D I q=>h pins s σ H D I (i _ _ _ q)
theorem PSs.imp {X:Cx} {e:List Stmt} {t t':TS} (h:PSs X e t) (i:∀ D σ H,t' D σ H→t D σ H):PSs X e t':=fun pins s σ H D I q=>h pins s σ H D I (i _ _ _ q)
section
variable {X:Cx} {a b c e:Expr} {es:List Expr} {ta tb tc te:DTE} {tA tB:DTT} {tl:DTA} {pos:Pos}
noncomputable def AcH (i:Nat):DTE:=fun ρ Q=>match ρ[i]? with
  | some (some (.is d))=>Q d
  | _=>False
noncomputable def dC (d:Dt):DTE:=fun _ Q=>Q d
theorem dv (i:Nat) {x:Str} {pos:Pos} (hN:X.N[i]? = some x:=by rfl) (hv:Vis X.env.scope x:=by first | exact Or.inl rfl | exact Or.inr (Or.inl rfl) | exact Or.inr (Or.inr rfl)) (hd:(x == ("__debug__":Str))=false:=by decide)
    (hcd:(x == ("__classdict__":Str))=false:=by decide):DE X (.Name x pos) (AcH i) where
  mono:=fun {ρ Q Q'} hq h=>by
    unfold AcH at h ⊢
    split at h
    · exact hq _ h
    · exact h.elim
  pe:=(Hy hN hv hd hcd).imp fun σ H Q ⟨B,F,O,ρ,r,h⟩=>by
    unfold AcH at h
    split at h
    · rename_i d e
      obtain ⟨v,h1,h2⟩:=r.is i d e
      exact ⟨v,h1,h v H (Same.refl H) h2⟩
    · exact h.elim
theorem Ab6 {v:V} {d:Dt} (h:PE X e (tC v)) (hr:∀ K H,Rp K H d v):DE X e (dC d) where
  mono:=fun hq h=>hq _ h
  pe:=h.imp fun σ H Q ⟨B,F,O,ρ,r,h⟩=>h v H (Same.refl H) (hr _ _)
theorem Ab {i j pos}:DE X (.Constant (.int i) j pos) (dC (.int i)):=Ab6 AfN fun _ _=>Bj.mpr rfl
theorem J1 {i j pos}:DE X (.Constant (.bool i) j pos) (dC (.bl i)):=Ab6 AjT fun _ _=>Cz.mpr rfl
theorem Abt {j pos}:DE X (.Constant .none j pos) (dC .non):=Ab6 AfQ fun _ _=>Jj.mpr rfl
theorem Ku {x j pos}:DE X (.Constant (.str x) j pos) (dC (.str x)):=Ab6 AfS fun _ _=>Mz.mpr rfl
theorem N6 {x:Str} {v:V} {u:Value} {d:Dt} {pos:Pos} (hg:Gl X x) (hm:X.mg x=some u) (r:RelV v u) (hr:∀ H,Rp X.K H d v) (hd:(x == ("__debug__":Str))=false:=by decide):DE X (.Name x pos) (dC d) where
  mono:=fun hq h=>hq _ h
  pe:=(Xb hg hm r hd).imp fun σ H Q ⟨B,F,O,ρ,_,h⟩=>h v H (Same.refl H) (hr _)
noncomputable abbrev D2:=Dt→Dt→(Dt→Prop)→Prop
structure HN (K:PySem.W.Frag) (r:R2) (t:D2):Prop where
  mono:∀ {a b Q Q'},(∀ d,Q d→Q' d)→t a b Q→t a b Q'
  ok:∀ (O:List Addr) (H:Hp) (a b:Dt) (x y:V) (Q:VK),(∀ p∈O,H p≠none)→Rp K (mask O H) a x→Rp K (mask O H) b y →
    t a b (fun d=>∀ v H',Same H H'→Rp K (mask O H') d v→Q v H')→r x y H Q
noncomputable def dOp (t:D2) (ta tb:DTE):DTE:=fun ρ Q=>ta ρ fun a=>tb ρ fun b=>t a b Q
theorem SX {K:PySem.W.Frag} {r:R2} {t:D2} (S:HN K r t) {ta tb:DTE} (ma:∀ {ρ Q Q'},(∀ d,Q d→Q' d)→ta ρ Q→ta ρ Q') (mb:∀ {ρ Q Q'},(∀ d,Q d→Q' d)→tb ρ Q→tb ρ Q')
    (σ:St) (H:Hp) (Q:VK) (h:lE K (dOp t ta tb) σ H Q):tOp r (lE K ta) (lE K tb) σ H Q:=by
  obtain ⟨B,F,O,ρ,R,h⟩:=h
  refine ⟨B,F,O,ρ,R,ma (fun a h v H1 s1 r1=>?_) h⟩
  refine ⟨B,F,O,ρ,R.same s1,mb (fun b h u H2 s2 r2=>?_) h⟩
  exact S.ok _ H2 a b v u Q ((R.same s1).same s2).th (r1.mono s2.mask) r2 (S.mono (fun d q w H3 s3 r3=>q w H3 ((s1.trans s2).trans s3) r3) h)
theorem Jv {t:D2} (m:∀ {a b Q Q'},(∀ d,Q d→Q' d)→t a b Q→t a b Q') (ma:∀ {ρ Q Q'},(∀ d,Q d→Q' d)→ta ρ Q→ta ρ Q') (mb:∀ {ρ Q Q'},(∀ d,Q d→Q' d)→tb ρ Q→tb ρ Q') :
    ∀ {ρ Q Q'},(∀ d,Q d→Q' d)→dOp t ta tb ρ Q→dOp t ta tb ρ Q':=fun hq h=>ma (fun _ h=>mb (fun _ h=>m hq h) h) h
theorem Rk {op:Operator} {r:R2} {t:D2} (ho:OpR X (binaryOp op) r) (S:HN X.K r t) (ha:DE X a ta) (hb:DE X b tb):DE X (.BinOp a op b pos) (dOp t ta tb) where
  mono:=Jv (t:=t) (ta:=ta) (tb:=tb) S.mono ha.mono hb.mono
  pe:=(AeE ho ha.pe hb.pe).imp (SX (ta:=ta) (tb:=tb) S ha.mono hb.mono)
theorem Wi {op:CmpOp} {r:R2} {t:D2} (ho:OpR X (compareOp op) r) (S:HN X.K r t) (ha:DE X a ta) (hb:DE X b tb) (hm:behindInMarks op b=false):DE X (.Compare a [op] [b] pos) (dOp t ta tb) where
  mono:=Jv (t:=t) (ta:=ta) (tb:=tb) S.mono ha.mono hb.mono
  pe:=(Xg ho ha.pe hb.pe hm).imp (SX (ta:=ta) (tb:=tb) S ha.mono hb.mono)
theorem AjW {r:R2} {t:D2} (ho:IxR X r) (S:HN X.K r t) (ha:DE X a ta) (hb:DE X b tb) (hs:RP b):DE X (.Subscript a b pos) (dOp t ta tb) where
  mono:=Jv (t:=t) (ta:=ta) (tb:=tb) S.mono ha.mono hb.mono
  pe:=(Ahh ho ha.pe hb.pe hs).imp (SX (ta:=ta) (tb:=tb) S ha.mono hb.mono)
noncomputable def dI (C:Int→Int→Prop) (g:Int→Int→Int):D2:=fun a b Q=>match a,b with
  | .int i,.int j=>C i j∧Q (.int (g i j))
  | _,_=>False
noncomputable def dI0 (g:Int→Int→Int):D2:=fun a b Q=>match a,b with
  | .int i,.int j=>Q (.int (g i j))
  | _,_=>False
noncomputable def dB0 (g:Int→Int→Bool):D2:=fun a b Q=>match a,b with
  | .int i,.int j=>Q (.bl (g i j))
  | _,_=>False
theorem Xp {K:PySem.W.Frag} {C:Int→Int→Prop} {g:Int→Int→Int}:HN K (rI C fun i j=>.int (g i j)) (dI C g) where
  mono:=fun {a b Q Q'} hq h=>by
    unfold dI at h ⊢
    split at h
    · exact ⟨h.1,hq _ h.2⟩
    · exact h.elim
  ok:=fun O H a b x y Q _ ra rb h=>by
    unfold dI at h
    split at h
    · exact ⟨_,_,Bj.mp ra,Bj.mp rb,h.1,h.2 _ H (Same.refl H) (Bj.mpr rfl)⟩
    · exact h.elim
theorem Abu {K:PySem.W.Frag} {g:Int→Int→Int}:HN K (rI0 fun i j=>.int (g i j)) (dI0 g) where
  mono:=fun {a b Q Q'} hq h=>by
    unfold dI0 at h ⊢
    split at h
    · exact hq _ h
    · exact h.elim
  ok:=fun O H a b x y Q _ ra rb h=>by
    unfold dI0 at h
    split at h
    · exact ⟨_,_,Bj.mp ra,Bj.mp rb,h _ H (Same.refl H) (Bj.mpr rfl)⟩
    · exact h.elim
theorem Hj {K:PySem.W.Frag} {g:Int→Int→Bool}:HN K (rI0 fun i j=>.bl (g i j)) (dB0 g) where
  mono:=fun {a b Q Q'} hq h=>by
    unfold dB0 at h ⊢
    split at h
    · exact hq _ h
    · exact h.elim
  ok:=fun O H a b x y Q _ ra rb h=>by
    unfold dB0 at h
    split at h
    · exact ⟨_,_,Bj.mp ra,Bj.mp rb,h _ H (Same.refl H) (Cz.mpr rfl)⟩
    · exact h.elim
theorem AcC:OpR X (binaryOp .Mult) (rI IntMulOk fun i j=>.int (i*j)):=opI fun _ _ _ _ _ _ _ hc q=>mul_int q hc
noncomputable def CDv (_ j:Int):Prop:=j≠0∧j.natAbs < 2 ^ 9000
theorem log2_small {n:Nat} (h:n < 2 ^ 9000):n.log2 < 9000:=by
  by_cases h0:n=0
  · subst h0;decide +kernel
  · exact (Nat.log2_lt h0).mpr h
theorem AbA:OpR X (binaryOp .FloorDiv) (rI CDv fun i j=>.int (i.fdiv j)):=opI fun _ _ _ _ _ _ _ hc q=>floordiv_int hc.1 q (.inl (PyProof.noPylong_of_log2 (log2_small hc.2)))
noncomputable def Aj5:D2:=dI0 fun i j=>i+j
noncomputable def AhQ:D2:=dI0 fun i j=>i - j
noncomputable def Aka:D2:=dI IntMulOk fun i j=>i*j
noncomputable def Ajl:D2:=dI (fun _ j=>j≠0) fun i j=>i.fmod j
noncomputable def Ah7:D2:=dI CDv fun i j=>i.fdiv j
noncomputable def Aml:D2:=dI Ads fun i j=>i ^ j.toNat
noncomputable def AhD:D2:=dI Ads fun i j=>i*2 ^ j.toNat
noncomputable def Alv:D2:=dI (fun _ j=>0≤j) fun i j=>i / 2 ^ j.toNat
theorem Br (ha:DE X a ta) (hb:DE X b tb):DE X (.BinOp a .Add b pos) (dOp Aj5 ta tb):=Rk Ae6 Abu ha hb
theorem BK (ha:DE X a ta) (hb:DE X b tb):DE X (.BinOp a .Sub b pos) (dOp AhQ ta tb):=Rk Afj Abu ha hb
theorem Al (ha:DE X a ta) (hb:DE X b tb):DE X (.BinOp a .Mult b pos) (dOp Aka ta tb):=Rk AcC Xp ha hb
theorem DK (ha:DE X a ta) (hb:DE X b tb):DE X (.BinOp a .Mod b pos) (dOp Ajl ta tb):=Rk Adq Xp ha hb
theorem BJ (ha:DE X a ta) (hb:DE X b tb):DE X (.BinOp a .FloorDiv b pos) (dOp Ah7 ta tb):=Rk AbA Xp ha hb
theorem ZS (ha:DE X a ta) (hb:DE X b tb):DE X (.BinOp a .LShift b pos) (dOp AhD ta tb):=Rk Agi Xp ha hb
noncomputable def dLt:D2:=dB0 fun i j=>decide (i < j)
noncomputable def dLe:D2:=dB0 fun i j=>decide (i≤j)
noncomputable def dGt:D2:=dB0 fun i j=>decide (j < i)
noncomputable def dGe:D2:=dB0 fun i j=>decide (j≤i)
theorem Aha (ha:DE X a ta) (hb:DE X b tb):DE X (.Compare a [.GtE] [b] pos) (dOp dGe ta tb):=Wi AdZ Hj ha hb (Jb _)
noncomputable def ixL:Int→List Dt→Option Dt
  | .ofNat n,ds=>ds[n]?
  | .negSucc m,ds=>if m < ds.length then ds[ds.length - 1 - m]? else none
noncomputable def ixD (i:Int):Dt→Option Dt
  | .tup ds=>ixL i ds
  | .lst ds=>ixL i ds
  | _=>none
theorem Aax {i:Int} {ds:List Dt} {d:Dt} (h:ixL i ds=some d):atI ds i=some d:=by
  cases i with
  | ofNat n=>exact Ab5 h
  | negSucc m =>
    have h':(if m < ds.length then ds[ds.length - 1 - m]? else none)=some d:=h
    by_cases hm:m < ds.length
    · rw [if_pos hm] at h'
      unfold atI ixN
      have h1:¬ (0:Int)≤Int.negSucc m:=by omega
      have h2:-(ds.length:Int)≤Int.negSucc m:=by omega
      have h3:(Int.negSucc m+(ds.length:Int)).toNat=ds.length - 1 - m:=by omega
      rw [if_neg h1,if_pos h2,Option.bind_some,h3]
      exact h'
    · rw [if_neg hm] at h';cases h'
noncomputable def dIx:D2:=fun a b Q=>match b with
  | .int i=>match ixD i a with
    | some d=>Q d
    | none=>False
  | _=>False
theorem Abs {K:PySem.W.Frag} {H:Hp} {ds:List Dt} {xs:List V} {i:Int} {d:Dt} (r:RpL K H ds xs) (h:atI ds i=some d):∃ v,atI xs i=some v∧Rp K H d v:=by
  unfold atI at h ⊢
  rw [r.len]
  cases e:ixN ds.length i with
  | none=>rw [e] at h;cases h
  | some j =>
    rw [e] at h
    exact r.get h
theorem AfG {K:PySem.W.Frag}:HN K (rIx K) dIx where
  mono:=fun {a b Q Q'} hq h=>by
    unfold dIx at h ⊢
    split at h
    · split at h
      · rename_i e;exact hq _ h
      · exact h.elim
    · exact h.elim
  ok:=fun O H a b x y Q _ ra rb h=>by
    unfold dIx at h
    split at h
    · split at h
      · rename_i i _ d e
        have eb:=Bj.mp rb
        subst eb
        cases a with
        | tup ds =>
          obtain ⟨p,xs,rfl,hs,hl⟩:=Ck.mp ra
          obtain ⟨v,e1,e2⟩:=Abs hl (Aax e)
          exact .inr (.inl ⟨p,xs,i,v,rfl,rfl,Ba.seqT hs,e1,h v H (Same.refl H) e2⟩)
        | lst ds =>
          obtain ⟨p,xs,rfl,hs,hl⟩:=DP ra
          obtain ⟨v,e1,e2⟩:=Abs hl (Aax e)
          exact .inl ⟨p,xs,i,v,rfl,rfl,Ba.seq hs,e1,h v H (Same.refl H) e2⟩
        | _=>cases e
      · exact h.elim
    · exact h.elim
theorem Ac (ha:DE X a ta) (hb:DE X b tb) (hs:RP b:=by exact fun _ _=>rfl):DE X (.Subscript a b pos) (dOp dIx ta tb):=AjW Afp AfG ha hb hs
noncomputable def AbY:Dt→(Dt→Prop)→Prop:=fun a Q=>match a with
  | .int i=>Q (.int (-i))
  | _=>False
noncomputable def dUn (t:Dt→(Dt→Prop)→Prop) (ta:DTE):DTE:=fun ρ Q=>ta ρ fun a=>t a Q
theorem Gs (ha:DE X a ta):DE X (.UnaryOp .USub a pos) (dUn AbY ta) where
  mono:=fun hq h=>ha.mono (fun d h=>by
    unfold AbY at h ⊢
    split at h
    · exact hq _ h
    · exact h.elim) h
  pe:=(AjQ Afr ha.pe).imp fun σ H Q ⟨B,F,O,ρ,R,h⟩=>⟨B,F,O,ρ,R,ha.mono (fun d h v H1 s1 r1=>by
    unfold AbY at h
    split at h
    · exact ⟨_,Bj.mp r1,h _ H1 s1 (Bj.mpr rfl)⟩
    · exact h.elim) h⟩
noncomputable def Aht (ta:DTE):DTE:=fun ρ Q=>ta ρ fun a=>match a with
  | .bl k=>Q (.bl (!k))
  | _=>False
noncomputable def Ajh (ta tb:DTE):DTE:=fun ρ Q=>ta ρ fun a=>match a with
  | .bl k=>if k=true then tb ρ Q else Q (.bl false)
  | _=>False
noncomputable def dOr (ta tb:DTE):DTE:=fun ρ Q=>ta ρ fun a=>match a with
  | .bl k=>if k=true then Q (.bl true) else tb ρ Q
  | _=>False
theorem AeR (ha:DE X a ta):DE X (.UnaryOp .Not a pos) (Aht ta) where
  mono:=fun hq h=>ha.mono (fun d h=>by
    split at h
    · exact hq _ h
    · exact h.elim) h
  pe:=(Af7 ha.pe).imp fun σ H Q ⟨B,F,O,ρ,R,h⟩=>⟨B,F,O,ρ,R,ha.mono (fun d h v H1 s1 r1=>by
    split at h
    · exact ⟨_,Cz.mp r1,h _ H1 s1 (Cz.mpr rfl)⟩
    · exact h.elim) h⟩
theorem Td {op} (h:DE X a ta):DE X (.BoolOp op [a] pos) ta:=⟨h.mono,Agg h.pe⟩
theorem Wh {rest:List Expr} (ha:DE X a ta) (hb:DE X (.BoolOp .And (b :: rest) pos) tb):DE X (.BoolOp .And (a :: b :: rest) pos) (Ajh ta tb) where
  mono:=fun hq h=>ha.mono (fun d h=>by
    split at h
    · split at h
      · rename_i e;simp only [e,if_true];exact hb.mono hq h
      · rename_i e;simp only [e];exact hq _ h
    · exact h.elim) h
  pe:=(AfJ ha.pe hb.pe).imp fun σ H Q ⟨B,F,O,ρ,R,h⟩=>⟨B,F,O,ρ,R,ha.mono (fun d h v H1 s1 r1=>by
    split at h
    · rename_i k
      refine ⟨k,Cz.mp r1,?_⟩
      cases k with
      | true=>exact ⟨B,F,O,ρ,R.same s1,hb.mono (fun d q v H2 s2 r2=>q v H2 (s1.trans s2) r2) h⟩
      | false=>exact h _ H1 s1 (Cz.mpr rfl)
    · exact h.elim) h⟩
theorem Aj6 {rest:List Expr} (ha:DE X a ta) (hb:DE X (.BoolOp .Or (b :: rest) pos) tb):DE X (.BoolOp .Or (a :: b :: rest) pos) (dOr ta tb) where
  mono:=fun hq h=>ha.mono (fun d h=>by
    split at h
    · split at h
      · rename_i e;simp only [e,if_true];exact hq _ h
      · rename_i e;simp only [e];exact hb.mono hq h
    · exact h.elim) h
  pe:=(Ajo ha.pe hb.pe).imp fun σ H Q ⟨B,F,O,ρ,R,h⟩=>⟨B,F,O,ρ,R,ha.mono (fun d h v H1 s1 r1=>by
    split at h
    · rename_i k
      refine ⟨k,Cz.mp r1,?_⟩
      cases k with
      | false=>exact ⟨B,F,O,ρ,R.same s1,hb.mono (fun d q v H2 s2 r2=>q v H2 (s1.trans s2) r2) h⟩
      | true=>exact h _ H1 s1 (Cz.mpr rfl)
    · exact h.elim) h⟩
noncomputable def Mw (t:DTE):DTT:=fun ρ Q=>t ρ fun a=>match a with
  | .bl k=>Q k
  | _=>False
theorem Mi {t:DTE} (m:∀ {ρ Q Q'},(∀ d,Q d→Q' d)→t ρ Q→t ρ Q'):∀ {ρ Q Q'},(∀ d,Q d→Q' d)→Mw t ρ Q→Mw t ρ Q':=fun hq h=>m (fun d h=>by
    split at h
    · exact hq _ h
    · exact h.elim) h
theorem FZ (h:DE X e te) (he:∀ whole,isTrue e X.env whole=(do let v ←whole;standAt e.pos;holding [v] (truthy v)):=by intro _;rfl):DT X e (Mw te) where
  mono:=Mi (t:=te) h.mono
  pt:=(AfW h.pe he).imp fun σ H Q ⟨B,F,O,ρ,R,q⟩=>⟨B,F,O,ρ,R,h.mono (fun d q v H1 s1 r1=>by
    split at q
    · exact ⟨_,Cz.mp r1,q H1 s1⟩
    · exact q.elim) q⟩
theorem Kg {op:CmpOp} {r:R2} {t:D2} (ho:OpR X (compareOp op) r) (S:HN X.K r t) (ha:DE X a ta) (hb:DE X b tb) (hm:behindInMarks op b=false):DT X (.Compare a [op] [b] pos) (Mw (dOp t ta tb)) where
  mono:=Mi (t:=dOp t ta tb) (Jv (t:=t) (ta:=ta) (tb:=tb) S.mono ha.mono hb.mono)
  pt:=(X6 ho ha.pe hb.pe hm).imp fun σ H Q ⟨B,F,O,ρ,R,q⟩=>SX (ta:=ta) (tb:=tb) S ha.mono hb.mono σ H _ ⟨B,F,O,ρ,R,Jv (t:=t) (ta:=ta) (tb:=tb) S.mono ha.mono hb.mono (fun d q v H1 s1 r1=>by
    split at q
    · exact ⟨_,Cz.mp r1,q H1 s1⟩
    · exact q.elim) q⟩
theorem Rm (ha:DE X a ta) (hb:DE X b tb):DT X (.Compare a [.Lt] [b] pos) (Mw (dOp dLt ta tb)):=Kg Aa7 Hj ha hb (Jb _)
theorem QZ (ha:DE X a ta) (hb:DE X b tb):DT X (.Compare a [.Gt] [b] pos) (Mw (dOp dGt ta tb)):=Kg Aja Hj ha hb (Jb _)
theorem AgX (ha:DE X a ta) (hb:DE X b tb):DT X (.Compare a [.GtE] [b] pos) (Mw (dOp dGe ta tb)):=Kg AdZ Hj ha hb (Jb _)
noncomputable def Aef (t:DTT):DTT:=fun ρ Q=>t ρ fun k=>Q (!k)
noncomputable def AeL (t u:DTT):DTT:=fun ρ Q=>t ρ fun k=>if k=true then u ρ Q else Q false
noncomputable def AjK (t u:DTT):DTT:=fun ρ Q=>t ρ fun k=>if k=true then Q true else u ρ Q
theorem Js (ha:DT X a tA):DT X (.UnaryOp .Not a pos) (Aef tA) where
  mono:=fun hq h=>ha.mono (fun _ h=>hq _ h) h
  pt:=(Ago ha.pt).imp fun σ H Q ⟨B,F,O,ρ,R,q⟩=>⟨B,F,O,ρ,R,q⟩
structure DW (X:Cx) (e:Expr) (t:DTT):Prop where
  mono:∀ {ρ Q Q'},(∀ d,Q d→Q' d)→t ρ Q→t ρ Q'
  pw:PW X e (lT X.K t)
theorem DW.dt {t:DTT} (h:DW X e t):DT X e t:=⟨h.mono,h.pw.pt⟩
theorem Lx (ha:DT X a tA):DW X (.BoolOp .And [a] pos) tA:=⟨ha.mono,Acn ha.pt⟩
theorem Ol (ha:DT X a tA):DW X (.BoolOp .Or [a] pos) tA:=⟨ha.mono,Afk ha.pt⟩
theorem PW.imp {t t':TT} (h:PW X e t) (i:∀ σ H Q,t' σ H Q→t σ H Q):PW X e t':=fun wh pins s σ H Q I q=>h wh pins s σ H Q I (i _ _ _ q)
theorem Pj {rest:List Expr} (ha:DT X a tA) (hb:DW X (.BoolOp .And (b :: rest) pos) tB):DW X (.BoolOp .And (a :: b :: rest) pos) (AeL tA tB) where
  mono:=fun hq h=>ha.mono (fun k h=>by
    cases k with
    | true=>exact hb.mono hq h
    | false=>exact hq _ h) h
  pw:=(AfR ha.pt hb.pw).imp fun σ H Q ⟨B,F,O,ρ,R,q⟩=>⟨B,F,O,ρ,R,ha.mono (fun k h H1 s1=>by
    cases k with
    | true=>exact ⟨B,F,O,ρ,R.same s1,hb.mono (fun k q H2 s2=>q H2 (s1.trans s2)) h⟩
    | false=>exact h H1 s1) q⟩
theorem Q0 {rest:List Expr} (ha:DT X a tA) (hb:DW X (.BoolOp .Or (b :: rest) pos) tB):DW X (.BoolOp .Or (a :: b :: rest) pos) (AjK tA tB) where
  mono:=fun hq h=>ha.mono (fun k h=>by
    cases k with
    | true=>exact hq _ h
    | false=>exact hb.mono hq h) h
  pw:=(Ajj ha.pt hb.pw).imp fun σ H Q ⟨B,F,O,ρ,R,q⟩=>⟨B,F,O,ρ,R,ha.mono (fun k h H1 s1=>by
    cases k with
    | false=>exact ⟨B,F,O,ρ,R.same s1,hb.mono (fun k q H2 s2=>q H2 (s1.trans s2)) h⟩
    | true=>exact h H1 s1) q⟩
noncomputable def AlI (t:DTT) (ta tb:DTE):DTE:=fun ρ Q=>t ρ fun k=>if k=true then ta ρ Q else tb ρ Q
noncomputable def Aca:DTA:=fun _ Q=>Q []
noncomputable def Ad9 (te:DTE) (tl:DTA):DTA:=fun ρ Q=>te ρ fun d=>tl ρ fun ds=>Q (d :: ds)
theorem Af:DA X [] Aca:=⟨fun hq h=>hq _ h,S7.imp fun σ H Q ⟨B,F,O,ρ,R,q⟩=>q [] H (Same.refl H) RpL.nil⟩
theorem Aa (ha:DE X e te) (hr:DA X es tl) (hs:starEach (e :: es) X.env=(false,eval e X.env) :: starEach es X.env:=by rfl):DA X (e :: es) (Ad9 te tl) where
  mono:=fun hq h=>ha.mono (fun d h=>hr.mono (fun ds h=>hq _ h) h) h
  pa:=(JF ha.pe hr.pa hs).imp fun σ H Q ⟨B,F,O,ρ,R,q⟩=>⟨B,F,O,ρ,R,ha.mono (fun d h v H1 s1 r1=>⟨B,F,O,ρ,R.same s1,hr.mono (fun ds h vs H2 s2 r2 =>
    h (v :: vs) H2 (s1.trans s2) (RpL.cons (r1.mono s2.mask) r2)) h⟩) q⟩
noncomputable def dTup (tl:DTA):DTE:=fun ρ Q=>tl ρ fun ds=>ds.length≤sizeLine∧Q (.tup ds)
noncomputable def Aje (tl:DTA):DTE:=fun ρ Q=>tl ρ fun ds=>ds.length≤sizeLine∧Q (.lst ds)
theorem Ln {O:List Addr} {H:Hp} {p:Addr} {o:HO} (hp:p∉O):mask O (upd H p o) p=some o:=by rw [Bb hp,Bh]
theorem Bo {k} (h:DA X es tl):DE X (.Tuple es k pos) (dTup tl) where
  mono:=fun hq z=>h.mono (fun ds q=>⟨q.1,hq _ q.2⟩) z
  pe:=(Afi h.pa).imp fun σ H Q ⟨B,F,O,ρ,R,q⟩=>⟨B,F,O,ρ,R,h.mono (fun ds z vs H1 s1 r1=>⟨by rw [r1.len];exact z.1,fun p hp=>by
    have np:p∉F ++ O:=fun m=>(R.same s1).th p m hp
    exact z.2 (.ref p) _ (s1.trans (Same.upd hp)) (Ck.mpr ⟨p,vs,rfl,SqT.of (Ln np),r1.mono (Same.upd hp).mask⟩)⟩) q⟩
theorem Agq (h:DA X es tl):DE X (.List es pos) (Aje tl) where
  mono:=fun hq z=>h.mono (fun ds q=>⟨q.1,hq _ q.2⟩) z
  pe:=(Z9 h.pa).imp fun σ H Q ⟨B,F,O,ρ,R,q⟩=>⟨B,F,O,ρ,R,h.mono (fun ds z vs H1 s1 r1=>⟨by rw [r1.len];exact z.1,fun p hp=>by
    have np:p∉F ++ O:=fun m=>(R.same s1).th p m hp
    exact z.2 (.ref p) _ (s1.trans (Same.upd hp)) (JM ⟨p,vs,rfl,(Ln np),r1.mono (Same.upd hp).mask⟩)⟩) q⟩
noncomputable abbrev DSp:=List Dt→(Dt→Prop)→Prop
noncomputable def lSp (K:PySem.W.Frag) (sp:DSp):Sp:=fun vs H Q _=>∃ F ds,(∀ a∈F,H a≠none)∧RpL K (mask F H) ds vs∧sp ds fun d=>∀ v H',Same H H'→Rp K (mask F H') d v→Q v H'
noncomputable def HD (sp:DSp):Prop:=∀ ds Q Q',(∀ d,Q d→Q' d)→sp ds Q→sp ds Q'
noncomputable def dCall (sp:DSp) (tl:DTA):DTE:=fun ρ Q=>tl ρ fun ds=>sp ds Q
theorem Ace {CX:CXT} {k:Nat} {f:Addr} {fd:FuncData} {ps:List Str} {sp:DSp} {x:Str} {p:Pos} (m:HD sp) (G:Ho X.prog X.w X.K X.mg X.base CX0 k f fd ps (lSp X.K sp)) (hr:Et k X.A) (hg:Gl X x) (hm:X.mg x=some (.ref f))
    (hk:PySem.W.keepIn X.K (.ref f)=true) (hb:Binds X.K fd ps []) (ha:DA X (e :: es) tl) (hdb:(x == ("__debug__":Str))=false:=by decide)
    (he:starEach (e :: es) X.env=(false,eval e X.env) :: starEach es X.env:=by rfl) (hpl:(backTo pos (starEach es X.env)).any (·.1)=false:=by rfl):DE X (.Call (.Name x p) (e :: es) [] pos) (dCall sp tl) where
  mono:=fun hq z=>ha.mono (fun ds q=>m _ _ _ hq q) z
  pe:=(AcT G hr hg hm hk hb .nil Yb ha.pa hdb he hpl).imp fun σ H Q ⟨B,F,O,ρ,R,q⟩=>⟨B,F,O,ρ,R,ha.mono (fun ds z vs H1 s1 r1=>by
    show lSp X.K sp (vs ++ []) H1 Q E0
    rw [List.append_nil]
    exact ⟨F ++ O,ds,(R.same s1).th,r1,m _ _ _ (fun d q v H2 s2 r2=>q v H2 (s1.trans s2) r2) z⟩) q⟩
variable {st:Stmt} {sts:List Stmt} {t u:DTS}
noncomputable def AeC:DTS:=fun D ρ=>D.nx ρ
noncomputable def AjL (t u:DTS):DTS:=fun D ρ=>t { D with nx:=u D } ρ
theorem Ag0 {D D':Gv} {P P':BZ→Prop} (h:Gv.le D D') (hp:∀ ρ,P ρ→P' ρ):Gv.le { D with nx:=P } { D' with nx:=P' }:=⟨hp,h.rt,h.bk,h.ct⟩
theorem le_refl {D:Gv}:Gv.le D D:=⟨fun _ h=>h,fun _ h=>h,fun _ h=>h,fun _ h=>h⟩
theorem Bf:DSs X [] AeC:=⟨fun hd h=>hd.nx _ h,AcW.imp fun D σ H ⟨B,F,O,ρ,R,h⟩=>h O σ H R⟩
theorem Ad (h1:DS X st t) (h2:DSs X sts u):DSs X (st :: sts) (AjL t u) where
  mono:=fun hd h=>h1.mono (Ag0 hd fun ρ q=>h2.mono hd q) h
  ps:=(O5 h1.ps h2.ps).imp fun D σ H ⟨B,F,O,ρ,R,h⟩=>⟨B,F,O,ρ,R,h1.mono (D:={ lD X.K B F D with nx:=u (lD X.K B F D) }) ⟨fun ρ' q O' σ' H' R'=>⟨B,F,O',ρ',R',q⟩,fun _ q=>q,fun _ q=>q,fun _ q=>q⟩ h⟩
theorem Ah (h1:DS X st t):DSs X [st] t:=⟨h1.mono,R7 h1.ps⟩
noncomputable def Abl:DTS:=fun _ _=>False
theorem Fp:DS X st Abl:=⟨fun _ h=>h.elim,Zv.imp fun D σ H ⟨B,F,O,ρ,R,h⟩=>h.elim⟩
noncomputable def AdM (te:DTE):DTS:=fun D ρ=>te ρ fun _=>D.nx ρ
theorem Ek (he:DE X e te) (hs:swapsWith e none pos.line X.env=pure false:=by rfl):DS X (.Expr e pos) (AdM te) where
  mono:=fun hd h=>he.mono (fun _ h=>hd.nx _ h) h
  ps:=(RW he.pe hs).imp fun D σ H ⟨B,F,O,ρ,R,h⟩=>⟨B,F,O,ρ,R,he.mono (fun d q v H1 s1 _=>q O σ H1 (R.same s1)) h⟩
noncomputable def Ah0 (te:DTE):DTS:=fun D ρ=>te ρ D.rt
theorem Aap {F O:List Addr} {H:Hp}:Same (mask (F ++ O) H) (mask F H):=Gp fun _ h=>List.mem_append_left _ h
theorem Aq (he:DE X e te):DS X (.Return (some e) pos) (Ah0 te) where
  mono:=fun hd h=>he.mono (fun _ h=>hd.rt _ h) h
  ps:=(Afo he.pe).imp fun D σ H ⟨B,F,O,ρ,R,h⟩=>⟨B,F,O,ρ,R,he.mono (fun d q v H1 s1 r1=>q v H1 (R.base.trans s1) (r1.mono Aap)) h⟩
noncomputable def AjB:DTS:=fun D _=>D.rt .non
noncomputable def dIf (c:DTT) (t u:DTS):DTS:=fun D ρ=>c ρ fun k=>if k=true then t D ρ else u D ρ
theorem Ci {sa sb:List Stmt} (hc:DT X c tA) (ha:DSs X sa t) (hb:DSs X sb u):DS X (.If c sa sb pos) (dIf tA t u) where
  mono:=fun hd h=>hc.mono (fun k h=>by
    cases k with
    | true=>exact ha.mono hd h
    | false=>exact hb.mono hd h) h
  ps:=(AiX hc.pt ha.ps hb.ps).imp fun D σ H ⟨B,F,O,ρ,R,h⟩=>⟨B,F,O,ρ,R,hc.mono (fun k h H1 s1=>by
    cases k with
    | true=>exact ⟨B,F,O,ρ,R.same s1,h⟩
    | false=>exact ⟨B,F,O,ρ,R.same s1,h⟩) h⟩
noncomputable abbrev DTG:=Dt→BZ→(BZ→Prop)→Prop
noncomputable abbrev SJ:=List Dt→BZ→(BZ→Prop)→Prop
noncomputable def lG (K:PySem.W.Frag) (g:DTG):TG:=fun v σ H Q=>∃ B F O ρ d,Rep K B F O H σ ρ∧Rp K (mask (F ++ O) H) d v∧g d ρ fun ρ'=>∀ σ',Rep K B F O H σ' ρ'→Q σ' H
noncomputable def lGs (K:PySem.W.Frag) (g:SJ):TGs:=fun vs σ H Q=>∃ B F O ρ ds,Rep K B F O H σ ρ∧RpL K (mask (F ++ O) H) ds vs∧g ds ρ fun ρ'=>∀ σ',Rep K B F O H σ' ρ'→Q σ' H
structure DG (X:Cx) (tg:Expr) (g:DTG):Prop where
  mono:∀ {d ρ Q Q'},(∀ ρ',Q ρ'→Q' ρ')→g d ρ Q→g d ρ Q'
  pg:PG X tg (lG X.K g)
structure DGs (X:Cx) (tgs:List Expr) (g:SJ):Prop where
  mono:∀ {d ρ Q Q'},(∀ ρ',Q ρ'→Q' ρ')→g d ρ Q→g d ρ Q'
  pg:PGs X tgs (lGs X.K g)
theorem PG.imp {e:Expr} {t t':TG} (h:PG X e t) (i:∀ v σ H Q,t' v σ H Q→t v σ H Q):PG X e t':=fun pins s σ H v u Q I r q=>h pins s σ H v u Q I r (i _ _ _ _ q)
theorem PGs.imp {e:List Expr} {t t':TGs} (h:PGs X e t) (i:∀ v σ H Q,t' v σ H Q→t v σ H Q):PGs X e t':=fun pins s σ H v u Q I r q=>h pins s σ H v u Q I r (i _ _ _ _ q)
noncomputable def Wb (i:Nat):DTG:=fun d ρ Q=>Q (ρ.set i (some (.is d)))
theorem BX (i:Nat) {x:Str} (hN:X.N.Nodup) (hi:X.N[i]? = some x:=by rfl) (hx:Loc X.env.scope x:=by first | exact Or.inl rfl | exact Or.inr rfl)
    (hf:X.fn x=true∨X.env.scope.names.lookup x=some .local:=by first | exact .inl rfl | exact .inr rfl | assumption):DG X (.Name x pos) (Wb i) where
  mono:=fun hq h=>hq _ h
  pg:=(RQ hN hi hx hf).imp fun v σ H Q ⟨B,F,O,ρ,d,R,r,h⟩=>h _ (R.set i r)
noncomputable def Yi:SJ:=fun ds ρ Q=>match ds with
  | []=>Q ρ
  | _=>False
noncomputable def Tg (g:DTG) (gs:SJ):SJ:=fun ds ρ Q=>match ds with
  | d :: r=>g d ρ fun ρ'=>gs r ρ' Q
  | []=>False
theorem Lp:DGs X [] Yi where
  mono:=fun hq h=>by
    unfold Yi at h ⊢
    split at h
    · exact hq _ h
    · exact h.elim
  pg:=AbZ.imp fun vs σ H Q ⟨B,F,O,ρ,ds,R,r,h⟩=>by
    unfold Yi at h
    split at h
    · exact ⟨BR.mp r,h σ R⟩
    · exact h.elim
theorem Cd {g:DTG} {gs:SJ} (h1:DG X e g) (h2:DGs X es gs) (hs:(assignEach (e :: es) X.env).map (·.2)=assign e X.env :: (assignEach es X.env).map (·.2):=by rfl):DGs X (e :: es) (Tg g gs) where
  mono:=fun hq h=>by
    unfold Tg at h ⊢
    split at h
    · exact h1.mono (fun ρ' q=>h2.mono hq q) h
    · exact h.elim
  pg:=(AaB h1.pg h2.pg hs).imp fun vs σ H Q ⟨B,F,O,ρ,ds,R,r,h⟩=>by
    unfold Tg at h
    split at h
    · obtain ⟨v,vr,rfl,r1,r2⟩:=Ax.mp r
      exact ⟨v,vr,rfl,B,F,O,ρ,_,R,r1,h1.mono (fun ρ' q σ' R'=>⟨B,F,O,ρ',_,R',r2,q⟩) h⟩
    · exact h.elim
noncomputable def Ye (n:Nat) (gs:SJ):DTG:=fun d ρ Q=>match d with
  | .tup ds=>ds.length=n∧gs ds ρ Q
  | _=>False
theorem Oi {k:Nat} {gs:SJ} {n:Nat} (hc:X.calm=true) (h:DGs X es gs) (hn:(assignEach es X.env).length=n:=by rfl) (hst:(assignEach es X.env).findIdx? (·.1)=none:=by rfl):DG X (.Tuple es k pos) (Ye n gs) where
  mono:=fun hq z=>by
    unfold Ye at z ⊢
    split at z
    · exact ⟨z.1,h.mono hq z.2⟩
    · exact z.elim
  pg:=(Afb hc h.pg hn hst).imp fun v σ H Q ⟨B,F,O,ρ,d,R,r,z⟩=>by
    unfold Ye at z
    split at z
    · obtain ⟨a,xs,rfl,hs,hl⟩:=Ck.mp r
      exact ⟨a,xs,rfl,Ba.seqT hs,by rw [hl.len];exact z.1,B,F,O,ρ,_,R,hl,z.2⟩
    · exact z.elim
noncomputable def AeN (te:DTE) (g:DTG):DTS:=fun D ρ=>te ρ fun d=>g d ρ D.nx
theorem R6 {tg:Expr} {g:DTG} (he:DE X e te) (hg:DG X tg g) (hs:swapsWithSole [tg] e pos.line X.env=pure false:=by rfl) (hw:swappedStores [tg] e X.env=pure none:=by rfl)
    (h1:(assignEach [tg] X.env).map (·.2)=[assign tg X.env]:=by rfl):DS X (.Assign [tg] e pos) (AeN te g) where
  mono:=fun hd h=>he.mono (fun _ h=>hg.mono (fun _ h=>hd.nx _ h) h) h
  ps:=(AaA he.pe hg.pg hs hw h1).imp fun D σ H ⟨B,F,O,ρ,R,h⟩=>⟨B,F,O,ρ,R,he.mono (fun d q v H1 s1 r1=>⟨B,F,O,ρ,d,R.same s1,r1,hg.mono (fun ρ' q σ' R'=>q O σ' H1 R') q⟩) h⟩
noncomputable def Abk (c:DTT) (tb:DTS):DTS:=fun D ρ=>∃ W:Nat→BZ→Prop,(∃ m,W m ρ)∧∀ m ρ,W m ρ →
  c ρ fun k=>if k=true then tb { D with nx:=fun ρ'=>∃ m',m' < m∧W m' ρ',ct:=fun ρ'=>∃ m',m' < m∧W m' ρ',bk:=D.nx } ρ else D.nx ρ
theorem Gj {body:List Stmt} (hp:PassesOwn (model X.prog X.w) X.A X.env X.xe) (hc:DT X c tA) (hb:DSs X body t):DS X (.While c body [] pos) (Abk tA t) where
  mono:=fun {ρ D D'} hd ⟨W,h0,h⟩=>⟨W,h0,fun m ρ w=>hc.mono (fun k h=>by
    cases k with
    | true=>exact hb.mono (D:={ D with nx:=fun ρ'=>∃ m',m' < m∧W m' ρ',ct:=fun ρ'=>∃ m',m' < m∧W m' ρ',bk:=D.nx }) ⟨fun _ q=>q,hd.rt,hd.nx,fun _ q=>q⟩ h
    | false=>exact hd.nx _ h) (h m ρ w)⟩
  ps:=(Aaj hp hc.pt hb.ps).imp fun D σ H ⟨B,F,O,ρ,R,W,⟨m0,w0⟩,h⟩=>by
    refine ⟨fun m σ H=>∃ O ρ,Rep X.K B F O H σ ρ∧W m ρ,⟨m0,O,ρ,R,w0⟩,?_⟩
    rintro m σ H ⟨O,ρ,R,w⟩
    refine ⟨B,F,O,ρ,R,hc.mono (fun k h H1 s1=>?_) (h m ρ w)⟩
    cases k with
    | true =>
      refine ⟨fun σ' H'=>∃ m',m' < m∧∃ O ρ,Rep X.K B F O H' σ' ρ∧W m' ρ,fun σ' H' ⟨m',l,q⟩=>⟨m',l,q⟩,B,F,O,ρ,R.same s1,hb.mono (D:={ lD X.K B F D with nx:=fun ρ'=>∃ m',m' < m∧W m' ρ',ct:=fun ρ'=>∃ m',m' < m∧W m' ρ',bk:=(lD X.K B F D).nx }) ⟨?_,fun _ q=>q,fun _ q=>q,?_⟩ h⟩
      · rintro ρ' ⟨m',l,w'⟩ O' σ' H' R'
        exact ⟨m',l,O',ρ',R',w'⟩
      · rintro ρ' ⟨m',l,w'⟩ O' σ' H' R'
        exact ⟨m',l,O',ρ',R',w'⟩
    | false=>exact h O σ H1 (R.same s1)
noncomputable def ItD (K:PySem.W.Frag) (M:Hp) (J:It) (items:List Dt):Prop:=∀ H,Same M H →
  (∀ (k:Nat) d,items[k]? = some d→J.go k H∧∀ x H',J.yld k H x H'→H'=H∧Rp K M d x)∧J.stop items.length H
noncomputable abbrev DTI:=BZ→(List Dt→Prop)→Prop
noncomputable def lI (K:PySem.W.Frag) (ti:DTI):TI:=fun σ H R=>∃ B F O ρ,Rep K B F O H σ ρ∧ti ρ fun items=>∀ J H',Same H H'→ItD K (mask (F ++ O) H') J items→R J H'
structure DI (X:Cx) (tg iter:Expr) (ti:DTI):Prop where
  mono:∀ {ρ Q Q'},(∀ d,Q d→Q' d)→ti ρ Q→ti ρ Q'
  pi:PI X tg iter (lI X.K ti)
theorem PI.imp {tg e:Expr} {t t':TI} (h:PI X tg e t) (i:∀ σ H Q,t' σ H Q→t σ H Q):PI X tg e t':=fun pins s σ H R I q=>h pins s σ H R I (i _ _ _ q)
noncomputable def AcV (ti:DTI) (g:DTG) (tb:DTS):DTS:=fun D ρ=>ti ρ fun items=>∃ W:Nat→BZ→Prop,W 0 ρ ∧
  (∀ (k:Nat) d ρ',items[k]? = some d→W k ρ'→g d ρ' fun ρ2=>tb { D with nx:=W (k+1),ct:=W (k+1),bk:=D.nx } ρ2)∧∀ ρ',W items.length ρ'→D.nx ρ'
theorem Rep.rebase {K:PySem.W.Frag} {B:Hp} {F O:List Addr} {H:Hp} {σ:St} {ρ:BZ} (r:Rep K B F O H σ ρ):Rep K (mask O H) F O H σ ρ :=
  ⟨r.len,Ba,fun _ h=>Dq h,r.th,r.is,r.own,r.inj,r.tab,r.tinj⟩
theorem Rep.unbase {K:PySem.W.Frag} {B B':Hp} {F O O':List Addr} {H H':Hp} {σ σ':St} {ρ ρ':BZ} (r:Rep K B F O H σ ρ) (r':Rep K (mask O H) F O' H' σ' ρ'):Rep K B F O' H' σ' ρ':=by
  have s:Same B (mask O H):=fun a o e=>by
    rw [Bb]
    · exact r.base a o e
    · intro z;rw [r.fr a z] at e;cases e
  refine ⟨r'.len,s.trans r'.base,fun a h=>?_,r'.th,r'.is,r'.own,r'.inj,r'.tab,r'.tinj⟩
  cases q:B a with
  | none=>rfl
  | some o=>have:=s a o q;rw [r'.fr a h] at this;cases this
theorem Rep.sub {K:PySem.W.Frag} {B:Hp} {F O:List Addr} {H:Hp} {σ:St} {ρ:BZ} (r:Rep K B F O H σ ρ):Same B (mask O H):=fun a o e=>by
  rw [Bb]
  · exact r.base a o e
  · intro z;rw [r.fr a z] at e;cases e
theorem Yw {F O:List Addr} {H:Hp}:mask F (mask O H)=mask (F ++ O) H:=by
  funext a
  by_cases h1:a∈F
  · rw [Dq h1,Dq (List.mem_append_left _ h1)]
  · rw [Bb h1]
    by_cases h2:a∈O
    · rw [Dq h2,Dq (List.mem_append_right _ h2)]
    · rw [Bb h2,Bb fun z=>(List.mem_append.mp z).elim h1 h2]
theorem MF {tg iter:Expr} {body:List Stmt} {ti:DTI} {g:DTG} (hp:PassesOwn (model X.prog X.w) X.A X.env X.xe) (hc:X.calm=true) (hi:DI X tg iter ti) (hg:DG X tg g) (hb:DSs X body t)
    (hs:∀ x,foldedSetIterable iter X.env x=pure x:=by intro _;rfl):DS X (.For tg iter body [] pos) (AcV ti g t) where
  mono:=fun {ρ D D'} hd h=>hi.mono (fun items ⟨W,h0,h,he⟩=>⟨W,h0,fun k d ρ' e w=>hg.mono (fun ρ2 q=>hb.mono (D:={ D with nx:=W (k+1),ct:=W (k+1),bk:=D.nx }) ⟨fun _ q=>q,hd.rt,hd.nx,fun _ q=>q⟩ q) (h k d ρ' e w),fun ρ' w=>hd.nx _ (he ρ' w)⟩) h
  ps:=(Afz hp hc hi.pi hg.pg hb.ps hs).imp fun D σ H ⟨B,F,O,ρ,R,h⟩=>by
    refine ⟨B,F,O,ρ,R,hi.mono (fun items z J H1 s1 it=>?_) h⟩
    obtain ⟨W,h0,h,he⟩:=z
    have R1:=R.same s1
    refine ⟨fun i m σ H=>m+i=items.length∧∃ O' ρ',Rep X.K (mask O H1) F O' H σ ρ'∧W i ρ',⟨items.length,by omega,O,ρ,R1.rebase,h0⟩,?_⟩
    rintro i m σ2 H2 ⟨hm,O',ρ',R2,w⟩
    have sb:Same (mask (F ++ O) H1) H2:=fun a o e=>R2.base a o (by
      obtain ⟨q,e⟩:=CQ e
      rw [Bb fun z=>q (List.mem_append_right _ z)];exact e)
    obtain ⟨go,stop⟩:=it H2 sb
    by_cases hlt:i < items.length
    · refine .inr ⟨(go i items[i] (by simp [hlt])).1,fun σ' H'=>∃ O' ρ',Rep X.K (mask O H1) F O' H' σ' ρ'∧W (i+1) ρ',fun σ' H' q=>⟨m - 1,by omega,by omega,q⟩,fun x H3 y=>?_⟩
      obtain ⟨e,r⟩:=(go i items[i] (by simp [hlt])).2 x H3 y
      subst e
      have r':Rp X.K (mask (F ++ O') H3) items[i] x:=r.mono (by rw [←Yw];exact R2.below)
      refine ⟨_,F,O',ρ',_,R2,r',hg.mono (fun ρ2 q σ3 R3=>⟨_,F,O',ρ2,R3,hb.mono (D:={ lD X.K B F D with nx:=W (i+1),ct:=W (i+1),bk:=(lD X.K B F D).nx }) ⟨?_,?_,?_,?_⟩ q⟩) (h i _ ρ' (by simp [hlt]) w)⟩
      · exact fun ρ4 w4 O4 σ4 H4 R4=>⟨O4,ρ4,R4,w4⟩
      · exact fun d q v H4 s4 r4=>q v H4 (R1.sub.trans s4) r4
      · exact fun ρ4 q O4 σ4 H4 R4=>q O4 σ4 H4 (R1.unbase (B':=B) R4)
      · exact fun ρ4 w4 O4 σ4 H4 R4=>⟨O4,ρ4,R4,w4⟩
    · have e:i=items.length:=by omega
      subst e
      exact .inl ⟨stop,he ρ' w O' σ2 H2 (R1.unbase (B':=B) R2)⟩
noncomputable def AdQ (te:DTE):DTI:=fun ρ Q=>te ρ fun d=>match d with
  | .lst ds=>Q ds
  | _=>False
noncomputable def Ad0 (te:DTE):DTI:=fun ρ Q=>te ρ fun d=>match d with
  | .tup ds=>Q ds
  | _=>False
theorem Ja {tg:Expr} (h:DE X e te):DI X tg e (AdQ te) where
  mono:=fun hq z=>h.mono (fun d z=>by
    split at z
    · exact hq _ z
    · exact z.elim) z
  pi:=(Acr h.pe).imp fun σ H Q ⟨B,F,O,ρ,R,z⟩=>⟨B,F,O,ρ,R,h.mono (fun d z v H1 s1 r1=>by
    split at z
    · obtain ⟨a,xs,rfl,hs,hl⟩:=DP r1
      refine ⟨a,rfl,⟨xs,Ba.seq hs⟩,z _ H1 s1 fun H2 s2=>⟨fun k d e=>?_,xs,s2.seq hs,by rw [hl.len];exact Nat.le_refl _⟩⟩
      obtain ⟨x,e1,e2⟩:=hl.get e
      refine ⟨⟨xs,x,s2.seq hs,e1⟩,fun y H3 ⟨e3,e4⟩=>⟨e3,?_⟩⟩
      have e5:=e4 xs (s2.seq hs)
      rw [e1] at e5;cases e5;exact e2
    · exact z.elim) z⟩
theorem AeQ {tg:Expr} (h:DE X e te):DI X tg e (Ad0 te) where
  mono:=fun hq z=>h.mono (fun d z=>by
    split at z
    · exact hq _ z
    · exact z.elim) z
  pi:=(Ae9 h.pe).imp fun σ H Q ⟨B,F,O,ρ,R,z⟩=>⟨B,F,O,ρ,R,h.mono (fun d z v H1 s1 r1=>by
    split at z
    · obtain ⟨a,xs,rfl,hs,hl⟩:=Ck.mp r1
      refine ⟨a,rfl,⟨xs,Ba.seqT hs⟩,z _ H1 s1 fun H2 s2=>⟨fun k d e=>?_,xs,s2.seqT hs,by rw [hl.len];exact Nat.le_refl _⟩⟩
      obtain ⟨x,e1,e2⟩:=hl.get e
      refine ⟨⟨xs,x,s2.seqT hs,e1⟩,fun y H3 ⟨e3,e4⟩=>⟨e3,?_⟩⟩
      have e5:=e4 xs (s2.seqT hs)
      rw [e1] at e5;cases e5;exact e2
    · exact z.elim) z⟩
noncomputable def ups (lo:Int) (n:Nat):List Dt:=(List.range n).map fun i=>.int (lo+(i:Nat))
theorem Sh {lo:Int} {n:Nat}:(ups lo n).length=n:=by simp [ups]
theorem Tv {lo:Int} {n k:Nat} {d:Dt} (h:(ups lo n)[k]? = some d):k < n∧d=.int (lo+(k:Nat)):=by
  unfold ups at h
  rw [List.getElem?_map] at h
  by_cases hk:k < n
  · rw [List.getElem?_range hk] at h
    exact ⟨hk,(Option.some.inj h).symm⟩
  · rw [List.getElem?_eq_none (by simpa using hk)] at h;cases h
theorem YH {K:PySem.W.Frag} {M:Hp} {lo:Int} {n:Nat}:ItD K M (Itr lo n) (ups lo n):=fun H _=>by
  refine ⟨fun k d e=>?_,?_⟩
  · obtain ⟨hk,rfl⟩:=Tv e
    exact ⟨hk,fun x H' y=>⟨y.1,Bj.mpr y.2⟩⟩
  · rw [Sh];exact Nat.le_refl n
noncomputable def Agd (tl:DTA):DTI:=fun ρ Q=>tl ρ fun ds=>match ds with
  | [.int j]=>(-(2 ^ 62)≤j∧j < 2 ^ 62)∧Q (ups 0 j.toNat)
  | _=>False
noncomputable def Abp (tl:DTA):DTI:=fun ρ Q=>tl ρ fun ds=>match ds with
  | [.int i,.int j]=>(-(2 ^ 62)≤i∧i < 2 ^ 62∧-(2 ^ 62)≤j∧j < 2 ^ 62)∧Q (ups i (j - i).toNat)
  | _=>False
theorem Xe {tg:Expr} {p:Pos} (hg:Gl X "range") (hm:X.mg "range"=none) (ha:DA X [a,b] tl) (hs:starEach [a,b] X.env=[(false,eval a X.env),(false,eval b X.env)]:=by rfl) (hs2:starEach [b] X.env=[(false,eval b X.env)]:=by rfl) :
    DI X tg (.Call (.Name "range" p) [a,b] [] pos) (Abp tl) where
  mono:=fun hq z=>ha.mono (fun d z=>by
    split at z
    · exact ⟨z.1,hq _ z.2⟩
    · exact z.elim) z
  pi:=(Yp hg hm ha.pa hs hs2).imp fun σ H Q ⟨B,F,O,ρ,R,z⟩=>⟨B,F,O,ρ,R,ha.mono (fun d z vs H1 s1 r1=>by
    split at z
    · obtain ⟨v,r,rfl,r2,r3⟩:=Ax.mp r1
      obtain ⟨v',r',rfl,r4,r5⟩:=Ax.mp r3
      rw [BR.mp r5,Bj.mp r2,Bj.mp r4]
      exact ⟨_,_,rfl,z.1,z.2 _ H1 s1 YH⟩
    · exact z.elim) z⟩
end
noncomputable def Fq (N:List Str) (ds:List Dt):BZ:=ds.map (fun d=>some (.is d)) ++ List.replicate (N.length - ds.length) none
theorem YB {K:PySem.W.Frag} {F:List Addr} {H:Hp} {N:List Str} {ds:List Dt} {vs:List V} (hF:∀ a∈F,H a≠none) (r:RpL K (mask F H) ds vs):Rep K H F [] H (start N vs) (Fq N ds):=by
  have hl:=r.len
  have noown:∀ (i:Nat) (es:En),(∀ z,es≠.is z)→(Fq N ds)[i]? = some (some es)→False:=fun i es nz e=>by
    unfold Fq at e
    by_cases hi:i < ds.length
    · rw [List.getElem?_append_left (by simpa using hi),List.getElem?_map] at e
      cases q:ds[i]? with
      | none=>rw [q] at e;cases e
      | some d=>rw [q] at e;cases e;exact nz d rfl
    · rw [List.getElem?_append_right (by simpa using hi),List.getElem?_replicate] at e
      split at e <;> cases e
  refine ⟨?_,Same.refl H,fun a h=>(nomatch h),fun a h=>hF a (by simpa using h),fun i d e=>?_,fun i es e=>(noown i _ (fun _ z=>by cases z) e).elim,fun i j es es' a h1=>(noown i _ (fun _ z=>by cases z) h1).elim,fun i es e=>(noown i _ (fun _ z=>by cases z) e).elim,fun i j es es' a h1=>(noown i _ (fun _ z=>by cases z) h1).elim⟩
  · unfold start Fq;simp [hl]
  · unfold Fq at e
    by_cases hi:i < ds.length
    · rw [List.getElem?_append_left (by simpa using hi),List.getElem?_map] at e
      cases q:ds[i]? with
      | none=>rw [q] at e;cases e
      | some d' =>
        rw [q] at e;cases e
        obtain ⟨v,e1,e2⟩:=r.get q
        refine ⟨v,?_,by rw [List.append_nil];exact e2⟩
        unfold start
        rw [List.getElem?_append_left (by simp;omega),List.getElem?_map,e1];rfl
    · rw [List.getElem?_append_right (by simpa using hi),List.getElem?_replicate] at e
      split at e <;> cases e
section
variable {P:Program} {w:World} {K:PySem.W.Frag} {mg:Str→Option Value} {base:Heap}
theorem Fun.okD {x qual:Str} {st:Stmt} {f:Addr} {fd:FuncData} {N ps:List Str} {k:Nat} {sp:DSp} (F:Fun K x qual st f fd) (S:Am N ps (Ai st)) (len:∀ ds Q,sp ds Q→ds.length=ps.length)
    (hbody:∀ (cdv:Value) (A:Around) (outer:List Env) (s:Shared) (H:Hp) (E:XK),Et k (A.deeper (envOfC qual (Ai st) s.heap.objs.size f cdv)) →
      ∃ t,DSs (Wl CX0 P w K mg base N qual (Ai st) f cdv A outer s H E).nox (Du st) t∧∀ ds Q,sp ds Q→t { nx:=fun _=>Q .non,rt:=Q } (Fq N ds)):Ho P w K mg base CX0 (k+1) f fd ps (lSp K sp):=by
  refine F.ok S (fun vs H Q E ⟨F,ds,_,r,h⟩=>by rw [r.len];exact len _ _ h) fun cdv A outer s H vs Q E hr ⟨F',ds,hF,r,h⟩=>?_
  obtain ⟨t,T,q⟩:=hbody cdv A outer s H E hr
  refine ⟨_,T.ps,H,F',[],Fq N ds,YB hF r,T.mono (D:={ nx:=fun _=>∀ v H',Same H H'→Rp K (mask F' H') .non v→Q v H',rt:=fun d=>∀ v H',Same H H'→Rp K (mask F' H') d v→Q v H' }) ⟨?_,?_,fun _ z=>False.elim z,fun _ z=>False.elim z⟩ (q ds _ h)⟩
  · exact fun ρ z O' σ' H' R'=>z .non H' R'.base (Jj.mpr rfl)
  · exact fun d z v H' s' r'=>z v H' s' r'
end
end L2
namespace L2
open PySem PySem.Spec PyProof.Rows PySem.SeqAt
structure FnT (K:PySem.W.Frag) (mg:Str→Option Value) (x:Str) (st:Stmt) (ps:List Str) (f:Addr) (fd:FuncData):Prop where
  fn:Fun K x x st f fd
  mg:mg x=some (.ref f)
  bd:Binds K fd ps []
noncomputable def Pm (P:Program) (w:World) (K:PySem.W.Frag) (mg:Str→Option Value) (base:Heap) (k:Nat) (x:Str) (st:Stmt) (ps:List Str) (sp:DSp):Prop :=
  ∃ f fd,FnT K mg x st ps f fd∧Ho P w K mg base CX0 k f fd ps (lSp K sp)
theorem Fun.uniq {K:PySem.W.Frag} {x q:Str} {st:Stmt} {f:Addr} {fd fd':FuncData} (a:Fun K x q st f fd) (b:Fun K x q st f fd'):fd=fd':=by
  obtain ⟨oc,od,kV,doc,pm,an,cdv,ct,osl,_,h1,_⟩:=a.ex
  obtain ⟨oc',od',kV',doc',pm',an',cdv',ct',osl',_,h2,_⟩:=b.ex
  rw [h1] at h2
  injection h2 with h2
  injection h2 with _ _ h2 _
  injection h2
noncomputable def spec {τ:Type} (args:τ→List Dt) (pre:τ→Prop) (post:τ→Dt→Prop):DSp:=fun ds Q=>∃ p,ds=args p∧pre p∧∀ d,post p d→Q d
theorem Ae {τ:Type} {args:τ→List Dt} {pre:τ→Prop} {post:τ→Dt→Prop}:HD (spec args pre post):=fun _ _ _ hq ⟨p,e,h,q⟩=>⟨p,e,h,fun d z=>hq _ (q d z)⟩
noncomputable abbrev BL {τ:Type} (args:τ→List Dt) (pre:τ→Prop) (val:τ→Dt):DSp:=spec args pre fun p d=>d=val p
noncomputable abbrev T2 (a b:Int):Dt:=.tup [.int a,.int b]
noncomputable abbrev T3 (a b c:Int):Dt:=.tup [.int a,.int b,.int c]
noncomputable abbrev T4 (a b c d:Int):Dt:=.tup [.int a,.int b,.int c,.int d]
noncomputable def Aeu:DSp:=spec (fun ns:List Int=>[.lst (ns.map Dt.int)]) (fun ns=>ns.length≤63) fun _ d=>d=.bl true
theorem Abb {H:Hp}:mask [] H=H:=by funext a;exact Bb (by simp)
theorem YT {K:PySem.W.Frag} {H:Hp} {a:Addr} {ns:List Int} {E:XK} (hl:ns.length≤63) (hS:SqL K H a (ns.map V.int)):lSp K Aeu [.ref a] H (fun v _=>v=.bl true) E :=
  ⟨[],[.lst (ns.map Dt.int)],fun _ h=>(nomatch h),RpL.cons (Acp (by rw [Abb];exact hS) (RpL.ints ns)) RpL.nil,ns,rfl,hl,fun d e v H' s r=>by subst e;exact Cz.mp r⟩
section
variable {X:Cx} {a b c e:Expr} {es:List Expr} {ta tb tc te:DTE} {tA tB:DTT} {tl:DTA} {pos:Pos}
theorem Ag {k:Nat} {ps:List Str} {sp:DSp} {x:Str} {stx:Stmt} {p:Pos} (m:HD sp) (G:Pm X.prog X.w X.K X.mg X.base k x stx ps sp) (hr:Et k X.A) (hg:Gl X x)
    (ha:DA X (e :: es) tl) (hdb:(x == ("__debug__":Str))=false:=by decide)
    (he:starEach (e :: es) X.env=(false,eval e X.env) :: starEach es X.env:=by rfl) (hpl:(backTo pos (starEach es X.env)).any (·.1)=false:=by rfl):DE X (.Call (.Name x p) (e :: es) [] pos) (dCall sp tl):=by
  obtain ⟨f,fd,F,G⟩:=G
  exact Ace (CX:=CX0) m G hr hg F.mg F.fn.kp F.bd ha hdb he hpl
theorem Ak (i:Nat) {x:Str} {pos':Pos} (hN:X.N.Nodup) (he:DE X e te) (hi:X.N[i]? = some x:=by rfl) (hx:Loc X.env.scope x:=by first | exact Or.inl rfl | exact Or.inr rfl) (hs:swapsWith e (some (.Name x pos')) pos.line X.env=pure false:=by rfl)
    (hf:X.fn x=true∨X.env.scope.names.lookup x=some .local:=by first | exact .inl rfl | exact .inr rfl | assumption):DS X (.Assign [.Name x pos'] e pos) (AeN te (Wb i)) where
  mono:=fun hd h=>he.mono (fun _ h=>hd.nx _ h) h
  ps:=(V8 hN hi hx he.pe hs hf).imp fun D σ H ⟨B,F,O,ρ,R,h⟩=>⟨B,F,O,ρ,R,he.mono (fun d q v H1 s1 r1=>q O _ H1 ((R.same s1).set i r1)) h⟩
noncomputable def AdY (i j:Nat) (tl:DTA):DTS:=fun D ρ=>tl ρ fun ds=>match ds with
  | [d,e]=>D.nx ((ρ.set i (some (.is d))).set j (some (.is e)))
  | _=>False
theorem Acy {x y:Str} {px py pt:Pos} {kt k2 pt2} (hc:X.calm=true) (hN:X.N.Nodup) (i j:Nat) (ha:DA X [a,b] tl) (hi:X.N[i]? = some x:=by rfl) (hj:X.N[j]? = some y:=by rfl) (hij:i≠j:=by decide)
    (hx:X.env.scope.names.lookup x=some .local:=by rfl) (hy:X.env.scope.names.lookup y=some .local:=by rfl)
    (hw:swappedStores [.Tuple [.Name x px,.Name y py] kt pt] (.Tuple [a,b] k2 pt2) X.env=pure (some [x,y]):=by rfl)
    (hs:swapsWithSole [.Tuple [.Name x px,.Name y py] kt pt] (.Tuple [a,b] k2 pt2) pos.line X.env=pure false:=by rfl) :
    DS X (.Assign [.Tuple [.Name x px,.Name y py] kt pt] (.Tuple [a,b] k2 pt2) pos) (AdY i j tl) where
  mono:=fun hd h=>ha.mono (fun ds h=>by
    split at h
    · exact hd.nx _ h
    · exact h.elim) h
  ps:=(AeS hc hN hi hj hij hx hy ha.pa hw hs).imp fun D σ H ⟨B,F,O,ρ,R,h⟩=>⟨B,F,O,ρ,R,ha.mono (fun ds q vs H1 s1 r1=>by
    split at q
    · obtain ⟨v,r,rfl,r2,r3⟩:=Ax.mp r1
      obtain ⟨v',r',rfl,r4,r5⟩:=Ax.mp r3
      obtain rfl:=BR.mp r5
      exact ⟨v,v',rfl,q O _ H1 (((R.same s1).set i r2).set j r4)⟩
    · exact q.elim) h⟩
mutual
noncomputable def Dt.py:Dt→PyData
  | .non=>.none
  | .bl b=>.bool b
  | .int i=>.int i
  | .str x=>.str x
  | .tup ds=>.tuple (Dt.pys ds)
  | .lst ds=>.list (Dt.pys ds)
  | .fn _=>.dict []
  | .exc _ _ _=>.dict []
  | .obj _ _ _=>.dict []
noncomputable def Dt.pys:List Dt→List PyData
  | []=>[]
  | d :: ds=>d.py :: Dt.pys ds
end
mutual
theorem Fz {X:Cx} {pins:List (Addr × Obj)} {σ:St} {H:Hp} {s:Shared} (I:Inv X pins σ H s):∀ {d:Dt} {v:V} {u:Value},d.py.canLay0=true→Rp X.K H d v→RelV v u→∃ as,Reads s.heap u d.py as
  | .non,v,u,_,h,r=>by rw [Jj.mp h] at r;cases (show u=.none from r);exact ⟨_,by rw [Dt.py];exact .none⟩
  | .bl b,v,u,_,h,r=>by rw [Cz.mp h] at r;cases (show u=.bool b from r);exact ⟨_,by rw [Dt.py];exact .bool b⟩
  | .int i,v,u,_,h,r=>by rw [Bj.mp h] at r;obtain ⟨t,rfl⟩:=r;exact ⟨_,by rw [Dt.py];exact .int i t⟩
  | .str x,v,u,_,h,r=>by rw [Mz.mp h] at r;obtain ⟨t,rfl⟩:=r;exact ⟨_,by rw [Dt.py];exact .str x t⟩
  | .fn a,v,u,c,h,r=>by rw [Dt.py] at c;exact (nomatch c)
  | .exc _ _ _,v,u,c,h,r=>by rw [Dt.py] at c;exact (nomatch c)
  | .obj _ _ _,v,u,c,h,r=>by rw [Dt.py] at c;exact (nomatch c)
  | .tup ds,v,u,c,h,r=>by
    obtain ⟨a,xs,rfl,hs,hl⟩:=Ck.mp h
    cases (show u=.ref a from r)
    obtain ⟨its,rv,⟨o,h1,h2,n,h3⟩,_⟩:=I.tuple hs
    rw [Dt.py] at c
    obtain ⟨as,ra⟩:=Ma I (ds:=ds) (by simpa [PyData.canLay0] using c) hl rv
    exact ⟨_,by rw [Dt.py];exact .tuple h1 h2 h3 (by simpa using ra)⟩
  | .lst ds,v,u,c,h,r=>by
    obtain ⟨a,xs,rfl,hs,hl⟩:=DP h
    cases (show u=.ref a from r)
    obtain ⟨its,rv,⟨o,n,h1,h2,_,h3⟩,_⟩:=I.list hs
    rw [Dt.py] at c
    obtain ⟨as,ra⟩:=Ma I (ds:=ds) (by simpa [PyData.canLay0] using c) hl rv
    exact ⟨_,by rw [Dt.py];exact .list h1 h2 h3 (by simpa using ra)⟩
theorem Ma {X:Cx} {pins:List (Addr × Obj)} {σ:St} {H:Hp} {s:Shared} (I:Inv X pins σ H s):∀ {ds:List Dt} {vs:List V} {us:List Value},PyData.canLayAll0 (Dt.pys ds)=true→RpL X.K H ds vs→Vals vs us→∃ as,ReadsAll s.heap us (Dt.pys ds) as
  | [],vs,us,_,h,r=>by rw [BR.mp h] at r;cases r;exact ⟨_,by rw [Dt.pys];exact .nil⟩
  | d :: ds,vs,us,c,h,r=>by
    obtain ⟨v,vr,rfl,h1,h2⟩:=Ax.mp h
    rw [Dt.pys] at c
    have c':d.py.canLay0=true∧PyData.canLayAll0 (Dt.pys ds)=true:=by simpa [PyData.canLayAll0] using c
    cases r with
    | cons r1 r2 =>
      obtain ⟨as,ra⟩:=Fz I c'.1 h1 r1
      obtain ⟨bs,rb⟩:=Ma I c'.2 h2 r2
      exact ⟨_,by rw [Dt.pys];exact .cons ra rb⟩
end
mutual
noncomputable def Dt.eq:Dt→Dt→Bool
  | .non,.non=>true
  | .bl a,.bl b=>a == b
  | .bl a,.int j=>(if a then 1 else 0) == j
  | .int i,.bl b=>i == (if b then 1 else 0)
  | .int i,.int j=>decide (i=j)
  | .str x,.str y=>x == y
  | .tup xs,.tup ys=>Dt.eqs xs ys
  | .lst xs,.lst ys=>Dt.eqs xs ys
  | _,_=>false
noncomputable def Dt.eqs:List Dt→List Dt→Bool
  | [],[]=>true
  | x :: xs,y :: ys=>Dt.eq x y && Dt.eqs xs ys
  | _,_=>false
end
mutual
noncomputable def Dt.flat:Nat→Dt→Bool
  | _,.fn _=>false
  | _,.exc _ _ _=>false
  | _,.obj _ _ _=>false
  | _,.str x=>(PyData.str x).canLay0
  | 0,.tup _=>false
  | 0,.lst _=>false
  | n+1,.tup ds=>Dt.flats n ds
  | n+1,.lst ds=>Dt.flats n ds
  | _,_=>true
noncomputable def Dt.flats:Nat→List Dt→Bool
  | _,[]=>true
  | n,d :: ds=>Dt.flat n d && Dt.flats n ds
end
mutual
theorem Eb:∀ (d:Dt) (n:Nat),d.flat n=true→d.py.canLay0=true∧d.py.depth≤n
  | .non,n,h=>by rw [Dt.py];exact ⟨rfl,Nat.zero_le _⟩
  | .bl _,n,h=>by rw [Dt.py];exact ⟨rfl,Nat.zero_le _⟩
  | .int _,n,h=>by rw [Dt.py];exact ⟨rfl,Nat.zero_le _⟩
  | .str _,n,h=>by rw [Dt.py];exact ⟨by simpa [Dt.flat] using h,Nat.zero_le _⟩
  | .fn _,n,h=>by simp [Dt.flat] at h
  | .exc _ _ _,n,h=>by simp [Dt.flat] at h
  | .obj _ _ _,n,h=>by simp [Dt.flat] at h
  | .tup ds,0,h=>by simp [Dt.flat] at h
  | .lst ds,0,h=>by simp [Dt.flat] at h
  | .tup ds,n+1,h=>by
    have:=MJ ds n (by simpa [Dt.flat] using h)
    rw [Dt.py]
    exact ⟨by simpa [PyData.canLay0] using this.1,by simpa [PyData.depth] using this.2⟩
  | .lst ds,n+1,h=>by
    have:=MJ ds n (by simpa [Dt.flat] using h)
    rw [Dt.py]
    exact ⟨by simpa [PyData.canLay0] using this.1,by simpa [PyData.depth] using this.2⟩
theorem MJ:∀ (ds:List Dt) (n:Nat),Dt.flats n ds=true→PyData.canLayAll0 (Dt.pys ds)=true∧PyData.depthAll (Dt.pys ds)≤n
  | [],n,h=>by rw [Dt.pys];exact ⟨rfl,Nat.zero_le _⟩
  | d :: ds,n,h=>by
    have h':d.flat n=true∧Dt.flats n ds=true:=by simpa [Dt.flats] using h
    have h1:=Eb d n h'.1
    have h2:=MJ ds n h'.2
    rw [Dt.pys]
    exact ⟨by simp [PyData.canLayAll0,h1.1,h2.1],by simp only [PyData.depthAll];omega⟩
end
mutual
theorem M6:∀ (a b:Dt),a.py.canLay0=true→b.py.canLay0=true→PyData.eqv a.py b.py=a.eq b
  | .fn _,b,h,_=>by rw [Dt.py] at h;exact (nomatch h)
  | .exc _ _ _,b,h,_=>by rw [Dt.py] at h;exact (nomatch h)
  | .obj _ _ _,b,h,_=>by rw [Dt.py] at h;exact (nomatch h)
  | a,.fn _,_,h=>by rw [Dt.py] at h;exact (nomatch h)
  | a,.exc _ _ _,_,h=>by rw [Dt.py] at h;exact (nomatch h)
  | a,.obj _ _ _,_,h=>by rw [Dt.py] at h;exact (nomatch h)
  | .non,.non,_,_=>by simp [Dt.py,Dt.eq,PyData.eqv]
  | .non,.bl _,_,_=>by simp [Dt.py,Dt.eq,PyData.eqv]
  | .non,.int _,_,_=>by simp [Dt.py,Dt.eq,PyData.eqv]
  | .non,.str _,_,_=>by simp [Dt.py,Dt.eq,PyData.eqv]
  | .non,.tup _,_,_=>by simp [Dt.py,Dt.eq,PyData.eqv]
  | .non,.lst _,_,_=>by simp [Dt.py,Dt.eq,PyData.eqv]
  | .bl _,.non,_,_=>by simp [Dt.py,Dt.eq,PyData.eqv]
  | .bl _,.bl _,_,_=>by simp [Dt.py,Dt.eq,PyData.eqv]
  | .bl _,.int _,_,_=>by simp [Dt.py,Dt.eq,PyData.eqv]
  | .bl _,.str _,_,_=>by simp [Dt.py,Dt.eq,PyData.eqv]
  | .bl _,.tup _,_,_=>by simp [Dt.py,Dt.eq,PyData.eqv]
  | .bl _,.lst _,_,_=>by simp [Dt.py,Dt.eq,PyData.eqv]
  | .int _,.non,_,_=>by simp [Dt.py,Dt.eq,PyData.eqv]
  | .int _,.bl _,_,_=>by simp [Dt.py,Dt.eq,PyData.eqv]
  | .int i,.int j,_,_=>by
    simp only [Dt.py,Dt.eq,PyData.eqv]
    exact Bool.beq_eq_decide_eq i j
  | .int _,.str _,_,_=>by simp [Dt.py,Dt.eq,PyData.eqv]
  | .int _,.tup _,_,_=>by simp [Dt.py,Dt.eq,PyData.eqv]
  | .int _,.lst _,_,_=>by simp [Dt.py,Dt.eq,PyData.eqv]
  | .str _,.non,_,_=>by simp [Dt.py,Dt.eq,PyData.eqv]
  | .str _,.bl _,_,_=>by simp [Dt.py,Dt.eq,PyData.eqv]
  | .str _,.int _,_,_=>by simp [Dt.py,Dt.eq,PyData.eqv]
  | .str _,.str _,_,_=>by simp [Dt.py,Dt.eq,PyData.eqv]
  | .str _,.tup _,_,_=>by simp [Dt.py,Dt.eq,PyData.eqv]
  | .str _,.lst _,_,_=>by simp [Dt.py,Dt.eq,PyData.eqv]
  | .tup _,.non,_,_=>by simp [Dt.py,Dt.eq,PyData.eqv]
  | .tup _,.bl _,_,_=>by simp [Dt.py,Dt.eq,PyData.eqv]
  | .tup _,.int _,_,_=>by simp [Dt.py,Dt.eq,PyData.eqv]
  | .tup _,.str _,_,_=>by simp [Dt.py,Dt.eq,PyData.eqv]
  | .tup xs,.tup ys,h1,h2=>by
    rw [Dt.py] at h1 h2
    rw [Dt.py,Dt.py,Dt.eq,PyData.eqv]
    exact S9 xs ys (by simpa [PyData.canLay0] using h1) (by simpa [PyData.canLay0] using h2)
  | .tup _,.lst _,_,_=>by simp [Dt.py,Dt.eq,PyData.eqv]
  | .lst _,.non,_,_=>by simp [Dt.py,Dt.eq,PyData.eqv]
  | .lst _,.bl _,_,_=>by simp [Dt.py,Dt.eq,PyData.eqv]
  | .lst _,.int _,_,_=>by simp [Dt.py,Dt.eq,PyData.eqv]
  | .lst _,.str _,_,_=>by simp [Dt.py,Dt.eq,PyData.eqv]
  | .lst _,.tup _,_,_=>by simp [Dt.py,Dt.eq,PyData.eqv]
  | .lst xs,.lst ys,h1,h2=>by
    rw [Dt.py] at h1 h2
    rw [Dt.py,Dt.py,Dt.eq,PyData.eqv]
    exact S9 xs ys (by simpa [PyData.canLay0] using h1) (by simpa [PyData.canLay0] using h2)
theorem S9:∀ (xs ys:List Dt),PyData.canLayAll0 (Dt.pys xs)=true→PyData.canLayAll0 (Dt.pys ys)=true→PyData.eqvAll (Dt.pys xs) (Dt.pys ys)=Dt.eqs xs ys
  | [],[],_,_=>by simp [Dt.pys,Dt.eqs,PyData.eqvAll]
  | [],_ :: _,_,_=>by simp [Dt.pys,Dt.eqs,PyData.eqvAll]
  | _ :: _,[],_,_=>by simp [Dt.pys,Dt.eqs,PyData.eqvAll]
  | x :: xs,y :: ys,h1,h2=>by
    rw [Dt.pys] at h1 h2
    have h1':x.py.canLay0=true∧PyData.canLayAll0 (Dt.pys xs)=true:=by simpa [PyData.canLayAll0] using h1
    have h2':y.py.canLay0=true∧PyData.canLayAll0 (Dt.pys ys)=true:=by simpa [PyData.canLayAll0] using h2
    rw [Dt.pys,Dt.pys,Dt.eqs,PyData.eqvAll,M6 x y h1'.1 h2'.1,S9 xs ys h1'.2 h2'.2]
end
noncomputable def Adl (K:PySem.W.Frag) (neg:Bool):R2:=fun x y H Q=>∃ a b,Rp K H a x∧Rp K H b y∧a.flat 8=true∧b.flat 8=true∧Q (.bl (if neg then !a.eq b else a.eq b)) H
theorem Z2 (hu:X.A.units+64 < cLine):OpR X (compareOp .Eq) (Adl X.K false):=by
  intro pins s σ H x y v u Q I rx ry ⟨a,b,ra,rb,fa,fb,q⟩
  obtain ⟨ca,da⟩:=Eb a 8 fa
  obtain ⟨cb,db⟩:=Eb b 8 fb
  obtain ⟨as,r1⟩:=Fz I ca ra rx
  obtain ⟨bs,r2⟩:=Fz I cb rb ry
  refine rcAt_reads r1 r2 ca cb (by omega) _ _ _ _ ?_
  rw [M6 a b ca cb]
  exact ⟨.bl _,H,I,rfl,q⟩
theorem AaS (hu:X.A.units+64 < cLine):OpR X (compareOp .NotEq) (Adl X.K true):=by
  intro pins s σ H x y v u Q I rx ry ⟨a,b,ra,rb,fa,fb,q⟩
  obtain ⟨ca,da⟩:=Eb a 8 fa
  obtain ⟨cb,db⟩:=Eb b 8 fb
  obtain ⟨as,r1⟩:=Fz I ca ra rx
  obtain ⟨bs,r2⟩:=Fz I cb rb ry
  refine compareNe_reads r1 r2 ca cb (by omega) ?_
  rw [M6 a b ca cb]
  exact ⟨.bl _,H,I,rfl,q⟩
noncomputable def dEq:D2:=fun a b Q=>(a.flat 8=true∧b.flat 8=true)∧Q (.bl (a.eq b))
noncomputable def dNe:D2:=fun a b Q=>(a.flat 8=true∧b.flat 8=true)∧Q (.bl (!a.eq b))
theorem Abm {K:PySem.W.Frag}:HN K (Adl K false) dEq:=⟨fun hq h=>⟨h.1,hq _ h.2⟩,fun O H a b x y Q _ ra rb h=>⟨a,b,ra.mono Ba,rb.mono Ba,h.1.1,h.1.2,h.2 _ H (Same.refl H) (Cz.mpr rfl)⟩⟩
theorem Abw {K:PySem.W.Frag}:HN K (Adl K true) dNe:=⟨fun hq h=>⟨h.1,hq _ h.2⟩,fun O H a b x y Q _ ra rb h=>⟨a,b,ra.mono Ba,rb.mono Ba,h.1.1,h.1.2,h.2 _ H (Same.refl H) (Cz.mpr rfl)⟩⟩
theorem RD (hu:X.A.units+64 < cLine) (ha:DE X a ta) (hb:DE X b tb):DE X (.Compare a [.Eq] [b] pos) (dOp dEq ta tb):=Wi (Z2 hu) Abm ha hb (Jb _)
theorem AdR (hu:X.A.units+64 < cLine) (ha:DE X a ta) (hb:DE X b tb):DE X (.Compare a [.NotEq] [b] pos) (dOp dNe ta tb):=Wi (AaS hu) Abw ha hb (Jb _)
theorem O3 (hu:X.A.units+64 < cLine) (ha:DE X a ta) (hb:DE X b tb):DT X (.Compare a [.Eq] [b] pos) (Mw (dOp dEq ta tb)):=Kg (Z2 hu) Abm ha hb (Jb _)
theorem Gm (hu:X.A.units+64 < cLine) (ha:DE X a ta) (hb:DE X b tb):DT X (.Compare a [.NotEq] [b] pos) (Mw (dOp dNe ta tb)):=Kg (AaS hu) Abw ha hb (Jb _)
noncomputable def isB (k:Bool):Dt→Bool
  | .bl b=>b == k
  | _=>false
noncomputable def isN:Dt→Bool
  | .non=>true
  | _=>false
theorem AbL:OpR X (compareOp .IsNot) (fun x y H Q=>∃ k:Bool,y=.bl k∧Q (.bl (!decide (x=.bl k))) H):=by
  intro pins s σ H x y v u Q I rx ry ⟨k,e,q⟩
  subst e
  cases (show u=.bool k from ry)
  cases x with
  | non=>cases (show v=.none from rx);exact wpAny_isNot_plain rfl (IW I q (by simp))
  | bl b=>cases (show v=.bool b from rx);exact wpAny_isNot_plain rfl (IW I q (by cases b <;> cases k <;> rfl))
  | int i=>obtain ⟨t,rfl⟩:=rx;exact wpAny_isNot_plain rfl (IW I q (by simp))
  | str i=>obtain ⟨t,rfl⟩:=rx;exact wpAny_isNot_plain rfl (IW I q (by simp))
  | byt i=>obtain ⟨t,rfl⟩:=rx;exact wpAny_isNot_plain rfl (IW I q (by simp))
  | flt i=>obtain ⟨t,rfl⟩:=rx;exact wpAny_isNot_plain rfl (IW I q (by simp))
  | ref i=>cases (show v=.ref i from rx);exact wpAny_isNot_plain rfl (IW I q (by simp))
  | ty i=>cases (show v=.type i from rx);exact wpAny_isNot_plain rfl (IW I q (by simp))
theorem AfO {K:PySem.W.Frag} {H:Hp} {d:Dt} {v:V} {k:Bool} (r:Rp K H d v):decide (v=.bl k)=isB k d:=by
  cases d with
  | non=>rw [Jj.mp r];simp [isB]
  | bl b=>rw [Cz.mp r];cases b <;> cases k <;> simp [isB]
  | int i=>rw [Bj.mp r];simp [isB]
  | str i=>rw [Mz.mp r];simp [isB]
  | fn a=>rw [AdP.mp r];simp [isB]
  | exc _ _ _=>obtain ⟨a,_,_,_,_,rfl,_⟩:=Aa2.mp r;simp [isB]
  | obj _ _ _=>obtain ⟨a,_,_,_,rfl,_⟩:=Pr.mp r;simp [isB]
  | tup ds=>obtain ⟨a,xs,rfl,_⟩:=Ck.mp r;simp [isB]
  | lst ds=>obtain ⟨a,xs,rfl,_⟩:=DP r;simp [isB]
theorem Afy {K:PySem.W.Frag} {H:Hp} {d:Dt} {v:V} (r:Rp K H d v):decide (v=.non)=isN d:=by
  cases d with
  | non=>rw [Jj.mp r];simp [isN]
  | bl b=>rw [Cz.mp r];simp [isN]
  | int i=>rw [Bj.mp r];simp [isN]
  | str i=>rw [Mz.mp r];simp [isN]
  | fn a=>rw [AdP.mp r];simp [isN]
  | exc _ _ _=>obtain ⟨a,_,_,_,_,rfl,_⟩:=Aa2.mp r;simp [isN]
  | obj _ _ _=>obtain ⟨a,_,_,_,rfl,_⟩:=Pr.mp r;simp [isN]
  | tup ds=>obtain ⟨a,xs,rfl,_⟩:=Ck.mp r;simp [isN]
  | lst ds=>obtain ⟨a,xs,rfl,_⟩:=DP r;simp [isN]
noncomputable def dIs (neg:Bool):D2:=fun a b Q=>match b with
  | .bl k=>Q (.bl (if neg then !isB k a else isB k a))
  | .non=>Q (.bl (if neg then !isN a else isN a))
  | _=>False
theorem AaK {neg:Bool}:∀ {a b Q Q'},(∀ d,Q d→Q' d)→dIs neg a b Q→dIs neg a b Q':=fun {a b Q Q'} hq h=>by
  unfold dIs at h ⊢
  split at h
  · exact hq _ h
  · exact hq _ h
  · exact h.elim
theorem AbP {K:PySem.W.Frag}:HN K (fun x y H Q=>(∃ k:Bool,y=.bl k∧Q (.bl (!decide (x=.bl k))) H)∨(y=.non∧Q (.bl (!decide (x=.non))) H)) (dIs true):=⟨AaK,fun O H a b x y Q _ ra rb h=>by
  unfold dIs at h
  split at h
  · exact .inl ⟨_,Cz.mp rb,by rw [AfO ra];exact h _ H (Same.refl H) (Cz.mpr rfl)⟩
  · exact .inr ⟨Jj.mp rb,by rw [Afy ra];exact h _ H (Same.refl H) (Cz.mpr rfl)⟩
  · exact h.elim⟩
theorem AbE (ha:DE X a ta) (hb:DE X b tb):DT X (.Compare a [.IsNot] [b] pos) (Mw (dOp (dIs true) ta tb)):=Kg (AbL.or Acu) AbP ha hb (Jb _)
noncomputable def Pn (t t':D2) (ta tb tc:DTE):DTE:=fun ρ Q=>ta ρ fun a=>tb ρ fun b=>t a b fun z=>match z with
  | .bl k=>if k=true then tc ρ fun c=>t' b c Q else Q (.bl false)
  | _=>False
theorem WX {t t':D2} {ta tb tc:DTE} (m:∀ {a b Q Q'},(∀ d,Q d→Q' d)→t a b Q→t a b Q') (m':∀ {a b Q Q'},(∀ d,Q d→Q' d)→t' a b Q→t' a b Q')
    (ma:∀ {ρ Q Q'},(∀ d,Q d→Q' d)→ta ρ Q→ta ρ Q') (mb:∀ {ρ Q Q'},(∀ d,Q d→Q' d)→tb ρ Q→tb ρ Q') (mc:∀ {ρ Q Q'},(∀ d,Q d→Q' d)→tc ρ Q→tc ρ Q') :
    ∀ {ρ Q Q'},(∀ d,Q d→Q' d)→Pn t t' ta tb tc ρ Q→Pn t t' ta tb tc ρ Q':=fun hq h=>ma (fun _ h=>mb (fun _ h=>m (fun z h=>by
      split at h
      · rename_i k
        cases k with
        | true=>exact mc (fun _ h=>m' hq h) h
        | false=>exact hq _ h
      · exact h.elim) h) h) h
theorem Ze {K:PySem.W.Frag} {r r':R2} {t t':D2} (S:HN K r t) (S':HN K r' t') {ta tb tc:DTE} (ma:∀ {ρ Q Q'},(∀ d,Q d→Q' d)→ta ρ Q→ta ρ Q') (mb:∀ {ρ Q Q'},(∀ d,Q d→Q' d)→tb ρ Q→tb ρ Q') (mc:∀ {ρ Q Q'},(∀ d,Q d→Q' d)→tc ρ Q→tc ρ Q')
    (σ:St) (H:Hp) (Q:VK) (h:lE K (Pn t t' ta tb tc) σ H Q):Abo r r' (lE K ta) (lE K tb) (lE K tc) σ H Q:=by
  obtain ⟨B,F,O,ρ,R,h⟩:=h
  refine ⟨B,F,O,ρ,R,ma (fun a h v H1 s1 r1=>⟨B,F,O,ρ,R.same s1,mb (fun b h u H2 s2 r2=>?_) h⟩) h⟩
  refine S.ok _ H2 a b v u _ ((R.same s1).same s2).th (r1.mono s2.mask) r2 (S.mono (fun z h w H3 s3 r3=>?_) h)
  split at h
  · rename_i k
    refine ⟨k,Cz.mp r3,?_⟩
    have s123:=(s1.trans s2).trans s3
    cases k with
    | true=>exact ⟨B,F,O,ρ,R.same s123,mc (fun c h y H4 s4 r4=>S'.ok _ H4 b c u y Q ((R.same s123).same s4).th ((r2.mono s3.mask).mono s4.mask) r4 (S'.mono (fun d q w' H5 s5 r5=>q w' H5 ((s123.trans s4).trans s5) r5) h)) h⟩
    | false=>exact h _ H3 s123 (Cz.mpr rfl)
  · exact h.elim
theorem Uc {op op':CmpOp} {r r':R2} {t t':D2} (ho:OpR X (compareOp op) r) (ho':OpR X (compareOp op') r') (S:HN X.K r t) (S':HN X.K r' t') (ha:DE X a ta) (hb:DE X b tb) (hc:DE X c tc)
    (hm:lastMarks [op,op'] [b,c]=false:=by with_unfolding_all rfl):DE X (.Compare a [op,op'] [b,c] pos) (Pn t t' ta tb tc) where
  mono:=WX (t:=t) (t':=t') (ta:=ta) (tb:=tb) (tc:=tc) S.mono S'.mono ha.mono hb.mono hc.mono
  pe:=(Z0 ho ho' ha.pe hb.pe hc.pe hm).imp (Ze (ta:=ta) (tb:=tb) (tc:=tc) S S' ha.mono hb.mono hc.mono)
noncomputable abbrev DL:=List Dt→(Dt→Prop)→Prop
structure WY (K:PySem.W.Frag) (r:List V→Hp→VK→Prop) (t:DL):Prop where
  mono:∀ {ds Q Q'},(∀ d,Q d→Q' d)→t ds Q→t ds Q'
  ok:∀ (O:List Addr) (H:Hp) (ds:List Dt) (xs:List V) (Q:VK),(∀ p∈O,H p≠none)→RpL K (mask O H) ds xs →
    t ds (fun d=>∀ v H',Same H H'→Rp K (mask O H') d v→Q v H')→r xs H Q
noncomputable def dCB (t:DL) (tl:DTA):DTE:=fun ρ Q=>tl ρ fun ds=>t ds Q
theorem AeX {K:PySem.W.Frag} {r:List V→Hp→VK→Prop} {t:DL} (S:WY K r t) {tl:DTA} (m:∀ {ρ Q Q'},(∀ d,Q d→Q' d)→tl ρ Q→tl ρ Q') (σ:St) (H:Hp) (Q:VK) (h:lE K (dCB t tl) σ H Q):tCB r (lA K tl) σ H Q:=by
  obtain ⟨B,F,O,ρ,R,h⟩:=h
  exact ⟨B,F,O,ρ,R,m (fun ds h vs H1 s1 r1=>S.ok _ H1 ds vs Q (R.same s1).th r1 (S.mono (fun d q v H2 s2 r2=>q v H2 (s1.trans s2) r2) h)) h⟩
theorem Uj {id:String} {x:Str} {p:Pos} {r:List V→Hp→VK→Prop} {t:DL} (hc:J7 X (.builtin id) r) (S:WY X.K r t) (hg:Gl X x) (hm:X.mg x=none) (hv:bootBuiltins x=some (.builtin id)) (ha:DA X (e :: es) tl) (hn:x≠"__name__":=by decide)
    (hdb:(x == ("__debug__":Str))=false:=by decide) (he:starEach (e :: es) X.env=(false,eval e X.env) :: starEach es X.env:=by rfl) (hpl:(backTo pos (starEach es X.env)).any (·.1)=false:=by rfl):DE X (.Call (.Name x p) (e :: es) [] pos) (dCB t tl) where
  mono:=fun hq h=>ha.mono (fun _ h=>S.mono hq h) h
  pe:=(T6 hc hg hm hv ha.pa hn hdb he hpl).imp (AeX (tl:=tl) S ha.mono)
noncomputable def Abn:DL:=fun ds Q=>match ds with
  | [.lst xs]=>Q (.int xs.length)
  | [.tup xs]=>Q (.int xs.length)
  | _=>False
noncomputable def AaU:DL:=fun ds Q=>match ds with
  | [.int i]=>Q (.int (if i < 0 then -i else i))
  | _=>False
noncomputable def ZJ:DL:=fun ds Q=>match ds with
  | [.int i,.int j]=>Q (.int (if j > i then j else i))
  | _=>False
noncomputable def Amh:DL:=fun ds Q=>match ds with
  | [.int i,.int j]=>Q (.int (if j < i then j else i))
  | _=>False
noncomputable def AhT:DL:=fun ds Q=>match ds with
  | [.int i]=>Q (.int i)
  | [.bl k]=>Q (.int (if k then 1 else 0))
  | _=>False
theorem AbD {K:PySem.W.Frag}:WY K (fun xs H Q=>∃ p ys,xs=[.ref p]∧(SqL K H p ys∨SqT K H p ys)∧Q (.int ys.length) H) Abn where
  mono:=fun hq h=>by
    unfold Abn at h ⊢
    split at h
    · exact hq _ h
    · exact hq _ h
    · exact h.elim
  ok:=fun O H ds xs Q _ r h=>by
    unfold Abn at h
    split at h
    · obtain ⟨v,r',rfl,r2,r3⟩:=Ax.mp r
      obtain rfl:=BR.mp r3
      obtain ⟨a,ys,rfl,hs,hl⟩:=DP r2
      exact ⟨a,ys,rfl,.inl (Ba.seq hs),by rw [hl.len];exact h _ H (Same.refl H) (Bj.mpr rfl)⟩
    · obtain ⟨v,r',rfl,r2,r3⟩:=Ax.mp r
      obtain rfl:=BR.mp r3
      obtain ⟨a,ys,rfl,hs,hl⟩:=Ck.mp r2
      exact ⟨a,ys,rfl,.inr (Ba.seqT hs),by rw [hl.len];exact h _ H (Same.refl H) (Bj.mpr rfl)⟩
    · exact h.elim
theorem AhZ {K:PySem.W.Frag} {H:Hp} {i:Int} {xs:List V} (h:RpL K H [.int i] xs):xs=[.int i]:=by
  obtain ⟨v,r,rfl,r2,r3⟩:=Ax.mp h
  rw [BR.mp r3,Bj.mp r2]
theorem Amo {K:PySem.W.Frag} {H:Hp} {i j:Int} {xs:List V} (h:RpL K H [.int i,.int j] xs):xs=[.int i,.int j]:=by
  obtain ⟨v,r,rfl,r2,r3⟩:=Ax.mp h
  rw [AhZ r3,Bj.mp r2]
theorem Adn {K:PySem.W.Frag}:WY K (fun xs H Q=>∃ i,xs=[.int i]∧Q (.int (if i < 0 then -i else i)) H) AaU where
  mono:=fun hq h=>by
    unfold AaU at h ⊢
    split at h
    · exact hq _ h
    · exact h.elim
  ok:=fun O H ds xs Q _ r h=>by
    unfold AaU at h
    split at h
    · exact ⟨_,AhZ r,h _ H (Same.refl H) (Bj.mpr rfl)⟩
    · exact h.elim
theorem Adt {K:PySem.W.Frag}:WY K (fun xs H Q=>∃ i j,xs=[.int i,.int j]∧Q (.int (if j > i then j else i)) H) ZJ where
  mono:=fun hq h=>by
    unfold ZJ at h ⊢
    split at h
    · exact hq _ h
    · exact h.elim
  ok:=fun O H ds xs Q _ r h=>by
    unfold ZJ at h
    split at h
    · exact ⟨_,_,Amo r,h _ H (Same.refl H) (Bj.mpr rfl)⟩
    · exact h.elim
theorem Kh {p:Pos} (hm:X.mg "len"=none) (ha:DA X [a] tl) (hg:Gl X "len":=by rfl) (he:starEach [a] X.env=(false,eval a X.env) :: starEach [] X.env:=by rfl) (hpl:(backTo pos (starEach [] X.env)).any (·.1)=false:=by rfl) :
    DE X (.Call (.Name "len" p) [a] [] pos) (dCB Abn tl):=Uj RX AbD hg hm PySem.boot_len ha (he:=he) (hpl:=hpl)
theorem Ml {p:Pos} (hm:X.mg "abs"=none) (ha:DA X [a] tl) (hg:Gl X "abs":=by rfl) (hv:bootBuiltins "abs"=some (.builtin "abs"):=by rfl) (he:starEach [a] X.env=(false,eval a X.env) :: starEach [] X.env:=by rfl) (hpl:(backTo pos (starEach [] X.env)).any (·.1)=false:=by rfl) :
    DE X (.Call (.Name "abs" p) [a] [] pos) (dCB AaU tl):=Uj Aaa Adn hg hm hv ha (he:=he) (hpl:=hpl)
theorem Af8 {p:Pos} (hm:X.mg "max"=none) (ha:DA X [a,b] tl) (hc:X.calm=true:=by rfl) (hg:Gl X "max":=by rfl) (hv:bootBuiltins "max"=some (.builtin "max"):=by rfl) (he:starEach [a,b] X.env=(false,eval a X.env) :: starEach [b] X.env:=by rfl)
    (hpl:(backTo pos (starEach [b] X.env)).any (·.1)=false:=by rfl):DE X (.Call (.Name "max" p) [a,b] [] pos) (dCB ZJ tl):=Uj (Yt hc) Adt hg hm hv ha (he:=he) (hpl:=hpl)
noncomputable def tyOf:Dt→String
  | .non=>"NoneType"
  | .bl _=>"bool"
  | .int _=>"int"
  | .str _=>"str"
  | .tup _=>"tuple"
  | .lst _=>"list"
  | .fn _=>"function"
  | .exc _ _ _=>"exception"
  | .obj _ _ _=>"instance"
noncomputable def noFn:Dt→Bool
  | .fn _=>false
  | .exc _ _ _=>false
  | .obj _ _ _=>false
  | _=>true
noncomputable def isT (T:String) (d:Dt):Bool:=tyOf d == T || (T == "int" && tyOf d == "bool")
noncomputable def UW (T:String):Prop:=∀ (K:PySem.W.Frag) (d:Dt),noFn d=true→PySem.W.kitOne K (.type (tyOf d)) (.type T)=some (isT T d)
theorem ZL {T:String} (hT:UW T):J7 X (.builtin "isinstance") (fun xs H Q=>∃ d x,xs=[x,.ty T]∧Rp X.K H d x∧noFn d=true∧Q (.bl (isT T d)) H):=by
  intro pins s σ H xs us Q I r ⟨d,x,e,rp,nf,q⟩
  subst e
  obtain ⟨u,u2,rfl,r1,r2⟩:=vals2 r
  cases (show u2=.type T from r2)
  have hk:=hT X.K d nf
  have fin:∀ tk,EP X pins σ Q (.bool (isT T d)) { s with toks:=tk }:=fun tk=>⟨.bl _,H,I.tok tk,rfl,q⟩
  cases d with
  | non=>rw [Jj.mp rp] at r1;cases (show u=Value.none from r1);exact PySem.W.kia_one PySem.W.kitx_none I.kIn True.intro hk (fun z=>nomatch z) fin
  | bl y=>rw [Cz.mp rp] at r1;cases (show u=Value.bool y from r1);exact PySem.W.kia_one PySem.W.kitx_bool I.kIn True.intro hk (fun z=>nomatch z) fin
  | int i=>rw [Bj.mp rp] at r1;obtain ⟨t,q⟩:=(show ∃ t,u=Value.int i t from r1);cases q;exact PySem.W.kia_one PySem.W.kitx_int I.kIn True.intro hk (fun z=>nomatch z) fin
  | str y=>rw [Mz.mp rp] at r1;obtain ⟨t,q⟩:=(show ∃ t,u=Value.str y t from r1);cases q;exact PySem.W.kia_one PySem.W.kitx_str I.kIn True.intro hk (fun z=>nomatch z) fin
  | fn a=>cases nf
  | exc _ _ _=>cases nf
  | obj _ _ _=>cases nf
  | tup ds =>
    obtain ⟨a,ys,rfl,hs,_⟩:=Ck.mp rp
    cases (show u=Value.ref a from r1)
    obtain ⟨_,_,⟨o,h1,h2,_⟩,_⟩:=I.tuple hs
    exact PySem.W.kia_one PySem.W.kitx_tuple I.kIn ⟨o,h1,h2⟩ hk (fun z=>nomatch z) fin
  | lst ds =>
    obtain ⟨a,ys,rfl,hs,_⟩:=DP rp
    cases (show u=Value.ref a from r1)
    obtain ⟨_,_,⟨o,n,h1,h2,_⟩,_⟩:=I.list hs
    exact PySem.W.kia_one PySem.W.kitx_list I.kIn ⟨o,h1,h2⟩ hk (fun z=>nomatch z) fin
noncomputable def AgV (T:String) (ta:DTE):DTE:=fun ρ Q=>ta ρ fun d=>noFn d=true∧Q (.bl (isT T d))
theorem Wj {T:String} {Ts:Str} {p p2:Pos} (hm:X.mg "isinstance"=none) (hmT:X.mg Ts=none) (hT:UW T) (ha:DE X a ta) (hg:Gl X "isinstance":=by rfl) (hgT:Gl X Ts:=by rfl) (hv:bootBuiltins "isinstance"=some (.builtin "isinstance"):=by rfl)
    (hvT:bootBuiltins Ts=some (.type T):=by rfl) (hn:Ts≠"__name__":=by decide) (hd:(Ts == ("__debug__":Str))=false:=by decide)
    (hs1:starEach [a,.Name Ts p2] X.env=(false,eval a X.env) :: starEach [.Name Ts p2] X.env:=by rfl) (hs2:starEach [.Name Ts p2] X.env=(false,eval (.Name Ts p2) X.env) :: starEach [] X.env:=by rfl)
    (hpl:(backTo pos (starEach [.Name Ts p2] X.env)).any (·.1)=false:=by rfl):DE X (.Call (.Name "isinstance" p) [a,.Name Ts p2] [] pos) (AgV T ta) where
  mono:=fun hq h=>ha.mono (fun _ h=>⟨h.1,hq _ h.2⟩) h
  pe:=(T6 (ZL hT) hg hm hv (JF ha.pe (JF (Acl (v:=.ty T) hgT hmT hvT rfl hn hd) S7 hs2) hs1) (he:=hs1) (hpl:=hpl)).imp fun σ H Q ⟨B,F,O,ρ,R,h⟩ =>
    ⟨B,F,O,ρ,R,ha.mono (fun d h v H1 s1 r1=>⟨d,v,rfl,r1.mono Ba,h.1,h.2 _ H1 s1 (Cz.mpr rfl)⟩) h⟩
noncomputable abbrev DTO:=BZ→(Option Int→Prop)→Prop
noncomputable def lO (K:PySem.W.Frag) (t:DTO):TO:=fun σ H Q=>∃ B F O ρ,Rep K B F O H σ ρ∧t ρ fun o=>∀ H',Same H H'→Q o H'
structure DO (X:Cx) (e:Option Expr) (t:DTO):Prop where
  mono:∀ {ρ Q Q'},(∀ d,Q d→Q' d)→t ρ Q→t ρ Q'
  po:PO X e (lO X.K t)
noncomputable def Xo:DTO:=fun _ Q=>Q none
noncomputable def Aeg (te:DTE):DTO:=fun ρ Q=>te ρ fun d=>match d with
  | .int i=>Q (some i)
  | _=>False
theorem PO.imp {e:Option Expr} {t t':TO} (h:PO X e t) (i:∀ σ H Q,t' σ H Q→t σ H Q):PO X e t':=fun pins s σ H Q I q=>h pins s σ H Q I (i _ _ _ q)
theorem Li:DO X none Xo:=⟨fun hq h=>hq _ h,AdA.imp fun σ H Q ⟨B,F,O,ρ,R,h⟩=>h H (Same.refl H)⟩
theorem Jd (h:DE X e te):DO X (some e) (Aeg te) where
  mono:=fun hq z=>h.mono (fun d z=>by
    split at z
    · exact hq _ z
    · exact z.elim) z
  po:=(Ab7 h.pe).imp fun σ H Q ⟨B,F,O,ρ,R,z⟩=>⟨B,F,O,ρ,R,h.mono (fun d z v H1 s1 r1=>by
    split at z
    · exact ⟨_,Bj.mp r1,z H1 s1⟩
    · exact z.elim) z⟩
noncomputable def cutD (xs:List Dt) (lo hi:Option Int):List Dt:=(xs.drop (HT.sIx xs.length 0 lo)).take (HT.sIx xs.length xs.length hi - HT.sIx xs.length 0 lo)
theorem RpL.cut {K:PySem.W.Frag} {H:Hp} {ds:List Dt} {xs:List V} {lo hi:Option Int} (h:RpL K H ds xs):RpL K H (cutD ds lo hi) (YZ xs lo hi):=by
  unfold cutD YZ
  rw [h.len]
  exact (h.drop _).take _
noncomputable def Aai (te:DTE) (tl th:DTO):DTE:=fun ρ Q=>te ρ fun d=>tl ρ fun lo=>th ρ fun hi=>match d with
  | .lst ds=>Q (.lst (cutD ds lo hi))
  | _=>False
theorem Lh {lo hi:Option Expr} {t1 t2:DTO} {p2:Pos} (he:DE X e te) (hl:DO X lo t1) (hh:DO X hi t2):DE X (.Subscript e (.Slice lo hi none p2) pos) (Aai te t1 t2) where
  mono:=fun hq z=>he.mono (fun d z=>hl.mono (fun l z=>hh.mono (fun h z=>by
    split at z
    · exact hq _ z
    · exact z.elim) z) z) z
  pe:=(Uo Xw he.pe hl.po hh.po).imp fun σ H Q ⟨B,F,O,ρ,R,z⟩=>⟨B,F,O,ρ,R,he.mono (fun d z v H1 s1 r1=>⟨B,F,O,ρ,R.same s1,hl.mono (fun l z H2 s2=>⟨B,F,O,ρ,(R.same s1).same s2,hh.mono (fun h z H3 s3=>by
    split at z
    · obtain ⟨a,xs,rfl,hs,hr⟩:=DP ((r1.mono s2.mask).mono s3.mask)
      refine ⟨a,xs,rfl,Ba.seq hs,fun p hp=>?_⟩
      have R3:=((R.same s1).same s2).same s3
      have np:p∉F ++ O:=fun m=>R3.th p m hp
      refine z (.ref p) _ (((s1.trans s2).trans s3).trans (Same.upd hp)) (JM ⟨p,_,rfl,(Ln np),?_⟩)
      exact hr.cut.mono (Same.upd hp).mask
    · exact z.elim) z⟩) z⟩) z⟩
end
theorem Ade:UW "int":=fun K d h=>by cases d <;> first | rfl | cases h
theorem Abj:UW "bool":=fun K d h=>by cases d <;> first | rfl | cases h
theorem Y9:UW "tuple":=fun K d h=>by cases d <;> first | rfl | cases h
end L2
namespace L2
open PySem PySem.Spec PyProof.Rows PySem.SeqAt
theorem Km (env:Env):∀ (names:List (Str × NameKind)) (cs:List (Str × Addr)),(∀ y∈names,y.2=.free→∃ c,env.cells.lookup y.1=some c)→(∀ n c,cs.lookup n=some c→env.cells.lookup n=some c) →
    ∃ cl,(forIn names cs fun (x:Str × NameKind) (r:List (Str × Addr))=>(if (x.2 == NameKind.free)=true then (do let c ←cellOf env x.1;pure (ForInStep.yield ((x.1,c) :: r))) else pure (ForInStep.yield r):Sem (ForInStep (List (Str × Addr)))))=pure cl ∧
      (∀ n c,cl.lookup n=some c→env.cells.lookup n=some c)∧(∀ n,(cs.lookup n).isSome=true→(cl.lookup n).isSome=true)∧∀ n,(n,NameKind.free)∈names→(cl.lookup n).isSome=true
  | [],cs,_,h2=>⟨cs,rfl,h2,fun _ h=>h,fun n h=>(nomatch h)⟩
  | (x,k) :: names,cs,h1,h2=>by
    rw [List.forIn_cons]
    by_cases hk:k=.free
    · subst hk
      obtain ⟨c,hc⟩:=h1 (x,.free) List.mem_cons_self rfl
      have e:cellOf env x=pure c:=by unfold cellOf;rw [hc]
      have h3:∀ n c',((x,c) :: cs).lookup n=some c'→env.cells.lookup n=some c':=fun n c' q=>by
        rw [List.lookup_cons] at q
        split at q
        · rename_i b;cases q;rw [eq_of_beq b];exact hc
        · exact h2 n c' q
      obtain ⟨cl,g1,g2,g3,g4⟩:=Km env names ((x,c) :: cs) (fun y hy=>h1 y (List.mem_cons_of_mem _ hy)) h3
      refine ⟨cl,?_,g2,fun n q=>g3 n ?_,fun n hn=>?_⟩
      · simp only [beq_self_eq_true,if_true,e,pure_bind]
        exact g1
      · rw [List.lookup_cons];split
        · rfl
        · exact q
      · rcases List.mem_cons.mp hn with q | q
        · cases q
          exact g3 x (by rw [List.lookup_cons];simp)
        · exact g4 n q
    · have hb:(k == NameKind.free)=false:=by simpa using hk
      obtain ⟨cl,g1,g2,g3,g4⟩:=Km env names cs (fun y hy=>h1 y (List.mem_cons_of_mem _ hy)) h2
      refine ⟨cl,?_,g2,g3,fun n hn=>?_⟩
      · simp only [hb,Bool.false_eq_true,if_false,pure_bind]
        exact g1
      · rcases List.mem_cons.mp hn with q | q
        · cases q;exact absurd rfl hk
        · exact g4 n q
theorem Oh {env:Env} {scope:Scope} (h:∀ y∈scope.names,y.2=.free→∃ c,env.cells.lookup y.1=some c) :
    ∃ cl,closureFor scope env=pure cl∧(∀ n c,cl.lookup n=some c→env.cells.lookup n=some c)∧∀ n,(n,NameKind.free)∈scope.names→∃ c,cl.lookup n=some c:=by
  obtain ⟨cl,g1,g2,_,g4⟩:=Km env scope.names [] h (fun n c q=>by simp at q)
  refine ⟨cl,?_,g2,fun n q=>Option.isSome_iff_exists.mp (g4 n q)⟩
  unfold closureFor
  simp only [bind_pure]
  exact g1
noncomputable def Bl (X:Cx) (scope:Scope) (N:List Str) (cl:List (Str × Addr)) (C:Addr) (s₀:Shared) (H₀:Hp) (ex:List Addr):Cx where
  prog:=X.prog
  w:=X.w
  K:=X.K
  mg:=X.mg
  base:=X.base
  A:=X.A
  N:=N
  s₀:=s₀
  H₀:=H₀
  env:=compEnvC scope cl C X.env
  outer:=X.stack
  stack:=X.stack
  ex:=ex
  fn:=fun _=>false
  calm:=X.calm
  pn:=[]
  xe:=fun _ _=>False
noncomputable def PTs (X:Cx) (ifs:List Expr) (t:TT):Prop :=
  ∀ (pins:List (Addr × Obj)) (s:Shared) (σ:St) (H:Hp) (Q:Bool→Hp→Prop),Inv X pins σ H s→t σ H Q →
    wpAny (model X.prog X.w) X.A (forIn ifs true fun c r=>if r=true then do let ok ←isTrue c X.env (eval c X.env);pure (ForInStep.yield ok) else pure (ForInStep.yield r)) (TP X pins σ Q) X.xe s
theorem AdE {X:Cx}:PTs X [] (fun _ H Q=>Q true H):=fun pins s σ H Q I h=>wpAny_tests_nil ⟨H,I,h⟩
theorem AcY {X:Cx} {c:Expr} {t:TT} (h:PT X c t):PTs X [c] t:=fun pins s σ H Q I q=>wpAny_tests_one (h pins s σ H Q I q)
noncomputable def XM (sl:List Nat) (wi:TI) (tt:TT) (te:TE):TE:=fun σ H Q=>wi σ H fun J H1=>∃ vs:List V,sl.map (fun j=>σ[j]?)=vs.map (fun v=>some (some v))∧∀ D,H1 D=none →
  ∃ W:Nat→Nat→List V→Hp→Prop,(∃ m,W 0 m [] (upd H1 D (.lst [])))∧∀ i m acc H,W i m acc H →
    (J.stop i H∧Q (.ref D) H) ∨
    (J.go i H∧∀ x H',J.yld i H x H'→tt (some x :: vs.map some) H' fun b H2 =>
      if b=true then te (some x :: vs.map some) H2 fun y H3=>H3 D=some (.lst acc)∧acc.length < sizeLine∧∃ m',m' < m∧W (i+1) m' (acc ++ [y]) (upd H3 D (.lst (acc ++ [y])))
      else ∃ m',m' < m∧W (i+1) m' acc H2)
theorem Gy {env:Env}:∀ {names:List (Str × NameKind)} {x:Str},names.lookup x=some .free→env.scope.kind=.function→env.kindOf x=some .cell →
    (names.map fun (n,k)=>if (k == NameKind.free && env.scope.kind == .function && env.kindOf n == some .cell) then (n,NameKind.cell) else (n,k)).lookup x=some .cell
  | [],_,h,_,_=>by simp at h
  | (n,k) :: r,x,h,hk,he=>by
    have ih:=@Gy env r x
    show List.lookup x ((if (k == NameKind.free && env.scope.kind == .function && env.kindOf n == some .cell)=true then (n,NameKind.cell) else (n,k)) :: _)=_
    cases hx:x == n with
    | true =>
      simp only [List.lookup_cons,hx] at h
      cases h
      have e:=eq_of_beq hx
      subst e
      simp [List.lookup_cons,hk,he]
    | false =>
      simp only [List.lookup_cons,hx] at h
      by_cases hc:(k == NameKind.free && env.scope.kind == .function && env.kindOf n == some .cell)=true
      · rw [if_pos hc];simp only [List.lookup_cons,hx];exact ih h hk he
      · rw [if_neg hc];simp only [List.lookup_cons,hx];exact ih h hk he
theorem Ld {env:Env}:∀ {names:List (Str × NameKind)} {x:Str},(∀ y∈names,y.2≠.cell) →
    ((names.map fun (n,k)=>if (k == NameKind.free && env.scope.kind == .function && env.kindOf n == some .cell) then (n,NameKind.cell) else (n,k)).lookup x=some .cell ∨
     (names.map fun (n,k)=>if (k == NameKind.free && env.scope.kind == .function && env.kindOf n == some .cell) then (n,NameKind.cell) else (n,k)).lookup x=some .free)→(x,NameKind.free)∈names
  | [],_,_,h=>by simp at h
  | (n,k) :: r,x,hn,h=>by
    have ih:=@Ld env r x fun y hy=>hn y (List.mem_cons_of_mem _ hy)
    have nk:k≠.cell:=hn (n,k) List.mem_cons_self
    rw [List.map_cons] at h
    by_cases hc:(k == NameKind.free && env.scope.kind == .function && env.kindOf n == some .cell)=true
    · simp only [hc,if_true,List.lookup_cons] at h
      have kf:k=.free:=by simp at hc;exact hc.1.1
      subst kf
      cases hx:x == n with
      | true=>rw [eq_of_beq hx];exact List.mem_cons_self
      | false=>simp only [hx] at h;exact List.mem_cons_of_mem _ (ih h)
    · have hc':(k == NameKind.free && env.scope.kind == .function && env.kindOf n == some .cell)=false:=by simpa using hc
      simp only [hc',Bool.false_eq_true,if_false,List.lookup_cons] at h
      cases hx:x == n with
      | true =>
        simp only [hx] at h
        have kf:k=.free:=by
          rcases h with h | h
          · exact absurd (Option.some.inj h) nk
          · exact Option.some.inj h
        subst kf
        rw [eq_of_beq hx];exact List.mem_cons_self
      | false=>simp only [hx] at h;exact List.mem_cons_of_mem _ (ih h)
section
variable {X:Cx} {elt iter:Expr} {x:Str} {px:Pos} {ifs:List Expr} {scope:Scope} {pos:Pos} {N:List Str} {sl:List Nat} {wi:TI} {tt:TT} {te:TE}
structure Ea (X:Cx) (scope:Scope) (x:Str) (N:List Str) (sl:List Nat):Prop where
  hx:scope.names.lookup x=some .local
  kind:scope.kind=.function
  cell:∀ y∈scope.names,y.2≠.cell
  names:∀ y∈scope.names,y.2=.local→scope.names.lookup y.1=some .local
  free:∀ y∈scope.names,y.2=.free→X.env.kindOf y.1=some .cell
  nd:(x :: N).Nodup
  sl:N.map some=sl.map (fun j=>X.N[j]?)
  frN:∀ n∈N,scope.names.lookup n=some .free
theorem Uy (S:Ea X scope x N sl) {pins:List (Addr × Obj)} {σ:St} {H:Hp} {s:Shared} {h₁:Heap} {tk:Nat} {fp:List Addr} {cl:List (Str × Addr)} {vs:List V} {o:Obj} (I:Inv X pins σ H s)
    (hfp:∀ b∈fp,KH X pins H b) (hob:∀ b∈fp,∃ o,s.heap.get? b=some o) (hns:h₁.Ns s.heap.objs.size (fun _=>none)) (hsb:Heap.SameBut s.heap.objs.size (s.heap.push o) h₁)
    (hcl:∀ n c,cl.lookup n=some c→X.env.cells.lookup n=some c) (hcl2:∀ n,(n,NameKind.free)∈scope.names→∃ c,cl.lookup n=some c)
    (hvs:sl.map (fun j=>σ[j]?)=vs.map (fun v=>some (some v))) :
    Inv (Bl X scope (x :: N) cl s.heap.objs.size s H fp) [] (none :: vs.map some) H { s with heap:=h₁,toks:=tk }:=by
  have hL:=I.lt
  have keep:∀ b o,s.heap.get? b=some o→h₁.get? b=some o:=fun b o e=>(hsb.2 b (Nat.ne_of_lt (Heap.lt_size e))).trans (Heap.get?_push_of_some _ e)
  have kf:X.env.scope.kind=.function:=I.ok.kind
  refine ⟨⟨I.ok.mod,?_,I.ok.glob,I.ok.blt,Nat.le_refl _,fun y z c h1 h2=>I.ok.inj y z c (hcl y c h1) (hcl z c h2),fun y hy=>?_,fun y c h=>(by cases h),I.ok.hd,I.ok.frames,.inl rfl,fun b hb=>⟨?_,fun y c e=>?_⟩,fun b o e=>I.bs b o e,
    Nat.le_trans I.ok.bsz I.sz,fun b o e hb=>?_,fun b hb hz=>?_,I.stack,I.stkFree⟩,rfl,I.bare,Un.kept keep,⟨_,hns,fun i y v e1 e2 e3=>?_⟩,fun y c e=>?_,I.hok.fresh (Nat.le_refl _),fun y c e=>I.freeC y c (hcl y c e),
    fun p hp=>absurd (show p∈([]:List (Addr × Obj)) from hp) (by simp),I.hok.kept keep,?_⟩
  · exact S.kind
  · exact hcl2 y (Ld (env:=X.env) (fun z hz=>S.cell z hz) hy)
  · obtain ⟨o',e⟩:=hob b hb
    exact Nat.ne_of_lt (Heap.lt_size e)
  · exact (hfp b hb).2.2.2.2.1 y c (hcl y c e)
  · rcases (hfp b hb).2.2.2.1 with z | z
    · exact I.ok.noex b o e z
    · exact absurd (Nat.lt_of_lt_of_le (Heap.lt_size e) (Nat.le_trans I.ok.bsz z)) (Nat.lt_irrefl _)
  · rcases List.mem_cons.mp (I.stkSub b hz) with q | q
    · exact (hfp b hb).2.1 q
    · exact (hfp b hb).2.2.1 q
  · cases i with
    | zero=>simp at e2
    | succ j =>
      have e1':N[j]? = some y:=by simpa [Bl] using e1
      have e2':vs[j]? = some v:=by
        rw [List.getElem?_cons_succ,List.getElem?_map] at e2
        cases q:vs[j]? with
        | none=>rw [q] at e2;cases e2
        | some v'=>rw [q] at e2;cases e2;rfl
      have q1:=congrArg (fun l=>l[j]?) S.sl
      have q2:=congrArg (fun l=>l[j]?) hvs
      simp only [List.getElem?_map,e1',e2',Option.map_some] at q1 q2
      cases hk:sl[j]? with
      | none=>rw [hk] at q1;cases q1
      | some k =>
        rw [hk] at q1 q2
        have n1:X.N[k]? = some y:=(Option.some.inj q1).symm
        have n2:σ[k]? = some (some v):=Option.some.inj q2
        have hfr:=S.frN y (List.mem_of_getElem? e1')
        have hm:=PySem.mem_of_lookup hfr
        have hc:=S.free _ hm rfl
        obtain ⟨m,hn,hl⟩:=I.loc
        obtain ⟨u,r,lk⟩:=hl k y v n1 n2 (.inr (.inl hc))
        refine ⟨u,r,.inr ⟨.inl (Gy hfr kf hc),?_⟩⟩
        rcases lk with ⟨kl,_⟩ | ⟨_,c,ec,⟨o',ho,hd⟩⟩
        · rw [hc] at kl;cases kl
        · obtain ⟨c',ec'⟩:=hcl2 y hm
          have:=hcl y c' ec'
          rw [ec] at this;cases this
          exact ⟨c,ec',o',keep _ _ ho,hd⟩
  · obtain ⟨v,o',ho,hd⟩:=I.cell y c (hcl y c e)
    exact ⟨v,o',keep _ _ ho,hd⟩
  · have l1:=congrArg List.length S.sl
    have l2:=congrArg List.length hvs
    simp only [List.length_map] at l1 l2
    simp [Bl];omega
theorem Adx (S:Ea X scope x N sl) (hc:X.calm=true) (hi:PI X (.Name x px) iter wi) (ht:∀ cl C s₀ H₀ ex,PTs (Bl X scope (x :: N) cl C s₀ H₀ ex) ifs tt) (he:∀ cl C s₀ H₀ ex,PE (Bl X scope (x :: N) cl C s₀ H₀ ex) elt te)
    (hs:∀ x,foldedSetIterable iter X.env x=pure x:=by intro _;rfl):PE X (.ListComp elt [⟨.Name x px,iter,ifs,0⟩] scope pos) (XM sl wi tt te):=by
  intro pins s σ H Q I h
  obtain ⟨cl,hclos,hcl,hcl2⟩:=Oh (env:=X.env) (scope:=scope) fun y hy hf=>I.ok.has y.1 (.inl (S.free y hy hf))
  rw [eval_ListComp]
  refine wpAny_comprehension_free (use:=none) rfl hs hclos S.kind S.names (thn (hi pins s σ H _ I h) fun v s1 h1=>thn h1 fun itv s2 h2=>?_)
  obtain ⟨it,fp,tn,J,H2,e,I2,T,st2,f2,vs,hvs,hW⟩:=h2
  subst e
  refine wpAny_newObj_type (wpAny_newFunctionEnv S.cell (by intro y hy;simp at hy) (fun h₁ hns₁ hsb₁=>?_) S.kind)
  have hD:H2 s2.heap.objs.size=none:=I2.fresh
  have I3:Inv X pins σ (upd H2 s2.heap.objs.size (.lst [])) { s2 with heap:=s2.heap.push { cls:=.type "list",data:=.seq ([]:List Value).toArray },toks:=s2.toks }:=I2.lnew (its:=[]) (ys:=[]) .nil (Nat.zero_le _)
  have hbD:∀ b∈fp,b≠s2.heap.objs.size:=fun b hb z=>by
    obtain ⟨o',e',_⟩:=T.obj _ _ st2 b hb
    exact absurd (Heap.lt_size e') (by rw [z];exact Nat.lt_irrefl _)
  have f3:∀ b∈fp,KH X pins (upd H2 s2.heap.objs.size (.lst [])) b:=fun b hb=>⟨by rw [Aw (hbD b hb)];exact (f2 b hb).1,(f2 b hb).2⟩
  have ob3:∀ b∈fp,∃ o,(s2.heap.push { cls:=.type "list",data:=.seq ([]:List Value).toArray }).get? b=some o:=fun b hb=>by
    obtain ⟨o',e',_⟩:=T.obj _ _ st2 b hb
    exact ⟨o',Heap.get?_push_of_some _ e'⟩
  have IC:=Uy (tk:=s2.toks+([]:List (Str × Value)).length) S I3 f3 ob3 hns₁ hsb₁ hcl hcl2 hvs
  dsimp only at hsb₁ IC ⊢
  generalize hCC:(s2.heap.push { cls:=.type "list",data:=.seq ([]:List Value).toArray }).objs.size=C at hns₁ hsb₁ IC ⊢
  have old:∀ b o,s2.heap.get? b=some o→h₁.get? b=some o:=fun b o e=>by
    have e1:(s2.heap.push { cls:=.type "list",data:=.seq ([]:List Value).toArray }).get? b=some o:=Heap.get?_push_of_some _ e
    exact (hsb₁.2 b (by rw [←hCC];exact Nat.ne_of_lt (Heap.lt_size e1))).trans (Heap.get?_push_of_some _ e1)
  have st₁:tn 0 h₁:=T.keep _ _ _ st2 fun b hb o e=>old b o e
  obtain ⟨W,⟨m0,w0⟩,turn⟩:=hW s2.heap.objs.size hD
  have fpC:∀ {H':Hp} {pl:List (Addr × Obj)},(∀ b∈fp,H' b=none)→(∀ p∈pl,p.1∉fp)→∀ b∈fp,KH (Bl X scope (x :: N) cl C { s2 with heap:=s2.heap.push { cls:=.type "list",data:=.seq ([]:List Value).toArray },toks:=s2.toks } (upd H2 s2.heap.objs.size (.lst [])) fp) pl H' b:=fun {H' pl} hn hp b hb=>by
    refine ⟨hn b hb,(IC.ok.exf b hb).1,IC.ok.exfs b hb,.inl hb,(IC.ok.exf b hb).2,fun p hq z=>?_⟩
    have hq':p∈pl:=by simpa [Bl] using hq
    exact hp p hq' (by rw [z];exact hb)
  have done:∀ {σ':St} {H':Hp} {s':Shared},Inv (Bl X scope (x :: N) cl C { s2 with heap:=s2.heap.push { cls:=.type "list",data:=.seq ([]:List Value).toArray },toks:=s2.toks } (upd H2 s2.heap.objs.size (.lst [])) fp) [] σ' H' s'→Q (.ref s2.heap.objs.size) H' →
      ∃ m,s'.heap.Ns C m∧∀ h',Heap.SameBut C s'.heap h'→EP X pins σ Q (.ref s2.heap.objs.size) { s' with heap:=h' }:=fun {σ' H' s'} J q=>by
    obtain ⟨m,hn,_⟩:=id J.loc
    refine ⟨m,hn,fun h' hs'=>⟨.ref s2.heap.objs.size,H',?_,rfl,q⟩⟩
    have u:Un (frs X.stack) fp H2 H' s2.heap s'.heap:=(Un.laid (fun b u e=>Heap.get?_push_of_some _ e) (Nat.le_refl _) hD).trans J.base
    have nC:∀ b o,s2.heap.get? b=some o→b≠C:=fun b o e=>by
      have e1:(s2.heap.push { cls:=.type "list",data:=.seq ([]:List Value).toArray }).get? b=some o:=Heap.get?_push_of_some _ e
      rw [←hCC];exact Nat.ne_of_lt (Heap.lt_size e1)
    have u':Un (frs X.stack) fp H2 H' s2.heap h' :=
      ⟨fun b o e n hb hx=>(hs'.2 b (nC b o e)).trans (u.keep b o e n hb hx),fun b o e n hb hx=>let ⟨sl,q⟩:=u.slot b o e n hb hx;⟨sl,(hs'.2 b (nC b o e)).trans q⟩,u.free,fun b o e hx=>let ⟨o',q⟩:=u.there b o e hx;⟨o',(hs'.2 b (nC b o e)).trans q⟩,u.tups,u.frzs,u.tbls⟩
    have hok:HOk X.prog X.w H' h':=fun b ob e=>(J.hok b ob e).stay (fun c w' hc q=>(hs'.2 c (by
      rintro rfl
      have hf:H' c=none:=J.free
      rcases hc with rfl | hc
      · rw [hf] at e;cases e
      · rw [hf] at hc;cases hc)).trans q) (fun _ q=>q) fun _ _ q=>q
    have hos:s'.os=s2.os:=J.os
    exact I2.call' (s':={ s' with heap:=h' }) (ch:=fp) hos u' hok J.bare fun b hb=>⟨(f2 b hb).2.2.2.1,(f2 b hb).2.1,(f2 b hb).2.2.2.2.1,(f2 b hb).2.2.2.2.2⟩
  have loop:codeAny (model X.prog X.w) X.A (.compLoop (.ListComp elt [⟨.Name x px,iter,ifs,0⟩] scope pos) 0 (.ref it) (.ref s2.heap.objs.size) (compEnvC scope cl C X.env)) (compPost (model X.prog X.w) X.A X.xe none (EP X pins σ Q) (.ref s2.heap.objs.size) C)
      { s2 with heap:=h₁,toks:=s2.toks+([]:List (Str × Value)).length }:=by
    refine codeAny_compLoop_tests (fun n s'=>∃ i acc σ' H',Inv (Bl X scope (x :: N) cl C { s2 with heap:=s2.heap.push { cls:=.type "list",data:=.seq ([]:List Value).toArray },toks:=s2.toks } (upd H2 s2.heap.objs.size (.lst [])) fp) [] σ' H' s'∧(∃ y,σ'=y :: vs.map some) ∧
      tn i s'.heap∧(∀ b∈fp,H' b=none)∧W i n acc H') ?_ m0 ⟨0,[],_,_,IC,⟨none,rfl⟩,st₁,fun b hb=>(f3 b hb).1,w0⟩
    rintro n s3 ⟨i,acc,σ3,H3,I4,⟨y,rfl⟩,st3,fr3,w3⟩
    rcases turn i n acc H3 w3 with ⟨stop,qn⟩ | ⟨go,step⟩
    · refine wpAny_mono (T.done (Bl X scope (x :: N) cl C { s2 with heap:=s2.heap.push { cls:=.type "list",data:=.seq ([]:List Value).toArray },toks:=s2.toks } (upd H2 s2.heap.objs.size (.lst [])) fp) rfl rfl rfl hc i [] s3 _ H3 (fun _ _=>False) I4 (fpC fr3 (by simp)) st3 stop) (fun r s4 ⟨hr,I5⟩=>?_) fun _ _ z=>False.elim z
      subst hr
      exact done I5 qn
    · refine wpAny_mono (T.item (Bl X scope (x :: N) cl C { s2 with heap:=s2.heap.push { cls:=.type "list",data:=.seq ([]:List Value).toArray },toks:=s2.toks } (upd H2 s2.heap.objs.size (.lst [])) fp) rfl rfl rfl hc i [] s3 _ H3 (fun _ _=>False) I4 (fpC fr3 (by simp)) st3 go) (fun r s4 ⟨u,hr,h4⟩=>?_) fun _ _ z=>False.elim z
      subst hr
      have e0:∀ (k:Unit→Sem Unit),(letOwnedTupleGo (.Name x px) (.ref it) u >>= k)=k ():=fun k=>rfl
      have hg:PG (Bl X scope (x :: N) cl C { s2 with heap:=s2.heap.push { cls:=.type "list",data:=.seq ([]:List Value).toArray },toks:=s2.toks } (upd H2 s2.heap.objs.size (.lst [])) fp) (.Name x px) (W7 0):=RQ S.nd rfl (.inl (lookup_relabel_local S.hx)) (.inr (lookup_relabel_local S.hx))
      show wpAny (model X.prog X.w) X.A (assign (.Name x px) (compEnvC scope cl C X.env) u) _ _ s4
      rw [←e0 fun _=>assign (.Name x px) (compEnvC scope cl C X.env) u]
      refine wpAny_bind (wpAny_mono h4 (fun _ s5 ⟨z,H5,I5,r5,y5,st5,fr5⟩=>?_) fun _ _ z=>False.elim z)
      have I5':=I5.pinned (fpC fr5 (by simp)) (T.obj _ _ st5)
      have W5:=hg _ s5 _ H5 z u (fun σ' H'=>σ'=some z :: vs.map some∧H'=H5) I5' r5 ⟨rfl,rfl⟩
      refine wpAny_mono W5 (fun _ s6 ⟨σ6,H6,I6,e6,e7⟩=>?_) fun _ _ z=>False.elim z
      subst e6 e7
      refine wpAny_mono (ht _ _ _ _ _ _ s6 _ H6 _ I6 (step z H6 y5)) (fun b s7 ⟨H7,I7,q7⟩=>?_) fun _ _ z=>False.elim z
      have again:∀ {H8:Hp} {s8:Shared} {acc':List V},Inv (Bl X scope (x :: N) cl C { s2 with heap:=s2.heap.push { cls:=.type "list",data:=.seq ([]:List Value).toArray },toks:=s2.toks } (upd H2 s2.heap.objs.size (.lst [])) fp) ([] ++ Mu fp s5.heap) (some z :: vs.map some) H8 s8→(∃ m',m' < n∧W (i+1) m' acc' H8)→∃ m,m < n∧∃ i acc σ' H',Inv (Bl X scope (x :: N) cl C { s2 with heap:=s2.heap.push { cls:=.type "list",data:=.seq ([]:List Value).toArray },toks:=s2.toks } (upd H2 s2.heap.objs.size (.lst [])) fp) [] σ' H' s8∧(∃ y,σ'=y :: vs.map some)∧tn i s8.heap∧(∀ b∈fp,H' b=none)∧W i m acc H':=fun {H8 s8 acc'} I8 ⟨m',hm,w8⟩=>by
        refine ⟨m',hm,i+1,acc',_,H8,I8.unpinned,⟨_,rfl⟩,T.keep _ _ _ st5 fun b hb o e=>(I8.pin (b,o) (List.mem_append_right _ (List.mem_append_right _ (FW hb e)))).1,fun b hb=>?_,w8⟩
        obtain ⟨o,e,d⟩:=T.obj _ _ st5 b hb
        exact (I8.pin (b,o) (List.mem_append_right _ (List.mem_append_right _ (FW hb e)))).2.1
      cases b with
      | false=>exact again I7 q7
      | true =>
        rw [if_pos rfl]
        refine wpAny_mono (he _ _ _ _ _ _ s7 _ H7 _ I7 q7) (fun v8 s8 ⟨x8,H8,I8,r8,hD8,hz8,q8⟩=>?_) fun _ _ z=>False.elim z
        refine wpAny_mono (Mf (X:=(Bl X scope (x :: N) cl C { s2 with heap:=s2.heap.push { cls:=.type "list",data:=.seq ([]:List Value).toArray },toks:=s2.toks } (upd H2 s2.heap.objs.size (.lst [])) fp)) _ s8 _ H8 (.ref s2.heap.objs.size) [x8] (.ref s2.heap.objs.size) [v8] (fun _ H9=>H9=upd H8 s2.heap.objs.size (.lst (acc ++ [x8]))) I8 rfl (.cons r8 .nil) ⟨_,acc,x8,rfl,rfl,hD8,hz8,rfl⟩) (fun _ s9 ⟨_,H9,I9,_,e9⟩=>?_) fun _ _ z=>False.elim z
        subst e9
        exact again I9 q8
  exact codeAny_compStart_list loop (T.self _ 0 _ _ _ st₁ loop)
noncomputable def inner (sl:List Nat) (ρ:BZ) (d:Dt):BZ:=some (.is d) :: sl.map fun j=>(ρ[j]?).join
structure DTs (X:Cx) (ifs:List Expr) (t:DTT):Prop where
  mono:∀ {ρ Q Q'},(∀ d,Q d→Q' d)→t ρ Q→t ρ Q'
  pts:PTs X ifs (lT X.K t)
noncomputable def LQ:DTT:=fun _ Q=>Q true
theorem Tn:DTs X [] LQ:=⟨fun hq h=>hq _ h,fun pins s σ H Q I ⟨B,F,O,ρ,R,h⟩=>AdE pins s σ H Q I (h H (Same.refl H))⟩
theorem AcU {c:Expr} {t:DTT} (h:DT X c t):DTs X [c] t:=⟨h.mono,AcY h.pt⟩
noncomputable def caught (sl:List Nat) (ρ:BZ):Prop:=∀ j∈sl,∃ d,ρ[j]? = some (some (.is d))
noncomputable def HY (sl:List Nat) (ti:DTI) (tt:DTT) (te:DTE):DTE:=fun ρ Q=>ti ρ fun items=>items.length≤sizeLine∧caught sl ρ ∧
  ∃ W:Nat→List Dt→Prop,W 0 []∧(∀ (k:Nat) d acc,items[k]? = some d→W k acc→tt (inner sl ρ d) fun b=>if b=true then te (inner sl ρ d) fun e=>W (k+1) (acc ++ [e]) else W (k+1) acc) ∧
    ∀ acc,acc.length≤items.length→W items.length acc→Q (.lst acc)
theorem Jp {K:PySem.W.Frag} {B:Hp} {F O:List Addr} {H:Hp} {σ:St} {ρ:BZ} (R:Rep K B F O H σ ρ):∀ {sl:List Nat},caught sl ρ→∃ vs ds,sl.map (fun j=>σ[j]?)=vs.map (fun v=>some (some v))∧sl.map (fun j=>(ρ[j]?).join)=ds.map (fun d=>some (En.is d))∧RpL K (mask (F ++ O) H) ds vs
  | [],_=>⟨[],[],rfl,rfl,RpL.nil⟩
  | j :: sl,h=>by
    obtain ⟨d,e⟩:=h j List.mem_cons_self
    obtain ⟨v,e1,e2⟩:=R.is j d e
    obtain ⟨vs,ds,h1,h2,h3⟩:=Jp R (sl:=sl) fun k hk=>h k (List.mem_cons_of_mem _ hk)
    exact ⟨v :: vs,d :: ds,by simp [e1,h1],by simp [e,h2],RpL.cons e2 h3⟩
theorem RG {K:PySem.W.Frag} {F:List Addr} {H:Hp} {d:Dt} {v:V} {ds:List Dt} {vs:List V} (th:∀ a∈F,H a≠none) (r:Rp K (mask F H) d v) (rs:RpL K (mask F H) ds vs) :
    Rep K (fun _=>none) F [] H (some v :: vs.map some) (some (.is d) :: ds.map fun d=>some (En.is d)):=by
  have e:mask (F ++ []) H=mask F H:=by rw [List.append_nil]
  have noown:∀ (i:Nat) (es:En),(∀ z,es≠.is z)→(some (En.is d) :: ds.map fun d=>some (En.is d))[i]? = some (some es)→False:=fun i es nz q=>by
    cases i with
    | zero=>cases q;exact nz _ rfl
    | succ j =>
      rw [List.getElem?_cons_succ,List.getElem?_map] at q
      cases z:ds[j]? with
      | none=>rw [z] at q;cases q
      | some y=>rw [z] at q;cases q;exact nz _ rfl
  refine ⟨by simp [rs.len],fun a o q=>(nomatch q),fun a h=>(nomatch h),fun a h=>th a (by simpa using h),fun i y q=>?_,fun i es q=>(noown i _ (fun _ z=>by cases z) q).elim,fun i j es es' a h1=>(noown i _ (fun _ z=>by cases z) h1).elim,fun i es q=>(noown i _ (fun _ z=>by cases z) q).elim,fun i j es es' a h1=>(noown i _ (fun _ z=>by cases z) h1).elim⟩
  rw [e]
  cases i with
  | zero=>cases q;exact ⟨v,rfl,r⟩
  | succ j =>
    rw [List.getElem?_cons_succ,List.getElem?_map] at q
    cases z:ds[j]? with
    | none=>rw [z] at q;cases q
    | some y' =>
      rw [z] at q;cases q
      obtain ⟨u,h1,h2⟩:=rs.get z
      exact ⟨u,by rw [List.getElem?_cons_succ,List.getElem?_map,h1];rfl,h2⟩
theorem Uk {K:PySem.W.Frag} {sl:List Nat} {ti:DTI} {dt:DTT} {de:DTE} (mi:∀ {ρ Q Q'},(∀ d,Q d→Q' d)→ti ρ Q→ti ρ Q') (mt:∀ {ρ Q Q'},(∀ d,Q d→Q' d)→dt ρ Q→dt ρ Q') (me:∀ {ρ Q Q'},(∀ d,Q d→Q' d)→de ρ Q→de ρ Q')
    (σ:St) (H:Hp) (Q:VK) (h:lE K (HY sl ti dt de) σ H Q):XM sl (lI K ti) (lT K dt) (lE K de) σ H Q:=by
  obtain ⟨B,F,O,ρ,R,h⟩:=h
  refine ⟨B,F,O,ρ,R,mi (fun items ⟨h1,h2,W,w0,st,fin⟩ J H1 s1 it=>?_) h⟩
  have R1:=R.same s1
  obtain ⟨vs,ds,ev,ed,rs⟩:=Jp R1 h2
  refine ⟨vs,ev,fun D hD=>?_⟩
  have nD:D∉F ++ O:=fun z=>R1.th D z hD
  have sM:Same (mask (F ++ O) H1) (mask (F ++ O) (upd H1 D (.lst []))):=(Same.upd hD).mask
  refine ⟨fun i m acc H2=>m+i=items.length∧H2 D=some (.lst acc)∧acc.length≤i∧Same H1 H2∧∃ as,RpL K (mask (D :: (F ++ O)) H2) as acc∧W i as,⟨items.length,by omega,Bh,Nat.le_refl _,Same.upd hD,[],RpL.nil,w0⟩,?_⟩
  rintro i m acc H2 ⟨hm,e2,hl,s2,as,ra,w⟩
  have sb:Same (mask (F ++ O) H1) H2:=fun a o e=>s2 a o (CQ e).2
  have sD:Same (mask (F ++ O) H1) (mask (D :: (F ++ O)) H2):=fun a o e=>by
    obtain ⟨q,e⟩:=CQ e
    rw [Bb fun z=>by
      rcases List.mem_cons.mp z with z | z
      · rw [z,hD] at e;cases e
      · exact q z]
    exact s2 a o e
  obtain ⟨go,stop⟩:=it H2 sb
  by_cases hlt:i < items.length
  · refine .inr ⟨(go i items[i] (by simp [hlt])).1,fun z H3 y=>?_⟩
    obtain ⟨e,r⟩:=(go i items[i] (by simp [hlt])).2 z H3 y
    subst e
    have th:∀ a∈D :: (F ++ O),H3 a≠none:=fun a ha q=>by
      rcases List.mem_cons.mp ha with z | z
      · rw [z,e2] at q;cases q
      · have:=R1.th a z
        cases q':H1 a with
        | none=>exact this q'
        | some o=>rw [s2 a o q'] at q;cases q
    have R3:=RG th (r.mono sD) (rs.mono sD)
    have ei:some (En.is items[i]) :: ds.map (fun d=>some (En.is d))=inner sl ρ items[i]:=by unfold inner;rw [ed]
    rw [ei] at R3
    refine ⟨_,_,_,_,R3,mt (fun b q H4 s4=>?_) (st i _ as (by simp [hlt]) w)⟩
    cases b with
    | false =>
      refine ⟨m - 1,by omega,by omega,s4 _ _ e2,by omega,s2.trans s4,as,ra.mono s4.mask,q⟩
    | true =>
      refine ⟨_,_,_,_,R3.same s4,me (fun e q v5 H5 s5 r5=>?_) q⟩
      have e5:H5 D=some (.lst acc):=s5 _ _ (s4 _ _ e2)
      have hz:acc.length < sizeLine:=by omega
      have s6:Same (mask (D :: (F ++ O)) H5) (mask (D :: (F ++ O)) (upd H5 D (.lst (acc ++ [v5])))):=fun a o q=>by
        obtain ⟨n,q⟩:=CQ q
        rw [Bb n,Aw fun z=>n (by rw [z];exact List.mem_cons_self)];exact q
      have em:mask (D :: (F ++ O) ++ []) H5=mask (D :: (F ++ O)) H5:=by rw [List.append_nil]
      rw [em] at r5
      refine ⟨e5,hz,m - 1,by omega,by omega,Bh,by simp;omega,fun a o q=>?_,as ++ [e],(((ra.mono s4.mask).mono s5.mask).append (RpL.cons r5 RpL.nil)).mono s6,q⟩
      rw [Aw (Bv q hD)]
      exact s5 _ _ (s4 _ _ (s2 a o q))
  · have e:i=items.length:=by omega
    subst e
    refine .inl ⟨stop,fin as (by rw [←ra.len];exact hl) w (.ref D) H2 (s1.trans s2) (JM ⟨D,acc,rfl,(by rw [Bb nD];exact e2),ra.mono (Gp fun a h=>List.mem_cons_of_mem _ h)⟩)⟩
theorem Vm {ti:DTI} {dt:DTT} {de:DTE} (S:Ea X scope x N sl) (hc:X.calm=true) (hi:DI X (.Name x px) iter ti) (ht:∀ cl C s₀ H₀ ex,DTs (Bl X scope (x :: N) cl C s₀ H₀ ex) ifs dt) (he:∀ cl C s₀ H₀ ex,DE (Bl X scope (x :: N) cl C s₀ H₀ ex) elt de)
    (hs:∀ x,foldedSetIterable iter X.env x=pure x:=by intro _;rfl):DE X (.ListComp elt [⟨.Name x px,iter,ifs,0⟩] scope pos) (HY sl ti dt de):=by
  have mt:∀ {ρ Q Q'},(∀ d,Q d→Q' d)→dt ρ Q→dt ρ Q':=(ht [] 0 X.s₀ X.H₀ []).mono
  have me:∀ {ρ Q Q'},(∀ d,Q d→Q' d)→de ρ Q→de ρ Q':=(he [] 0 X.s₀ X.H₀ []).mono
  refine ⟨fun hq h=>hi.mono (fun items ⟨h1,h2,W,w0,st,fin⟩=>⟨h1,h2,W,w0,st,fun acc l w=>hq _ (fin acc l w)⟩) h,?_⟩
  refine (Adx (tt:=lT X.K dt) (te:=lE X.K de) S hc hi.pi (fun cl C s₀ H₀ ex=>(ht cl C s₀ H₀ ex).pts) (fun cl C s₀ H₀ ex=>(he cl C s₀ H₀ ex).pe) hs).imp (Uk (ti:=ti) (dt:=dt) (de:=de) hi.mono mt me)
theorem XD {ti:DTI} {de:DTE} (S:Ea X scope x N sl) (hc:X.calm=true) (hi:DI X (.Name x px) iter ti) (he:∀ cl C s₀ H₀ ex,DE (Bl X scope (x :: N) cl C s₀ H₀ ex) elt de)
    (hs:∀ x,foldedSetIterable iter X.env x=pure x:=by intro _;rfl):DE X (.ListComp elt [⟨.Name x px,iter,[],0⟩] scope pos) (HY sl ti LQ de):=Vm S hc hi (fun _ _ _ _ _=>Tn) he hs
theorem Oe {c:Expr} {ti:DTI} {dt:DTT} {de:DTE} (S:Ea X scope x N sl) (hc:X.calm=true) (hi:DI X (.Name x px) iter ti) (ht:∀ cl C s₀ H₀ ex,DT (Bl X scope (x :: N) cl C s₀ H₀ ex) c dt) (he:∀ cl C s₀ H₀ ex,DE (Bl X scope (x :: N) cl C s₀ H₀ ex) elt de)
    (hs:∀ x,foldedSetIterable iter X.env x=pure x:=by intro _;rfl):DE X (.ListComp elt [⟨.Name x px,iter,[c],0⟩] scope pos) (HY sl ti dt de):=Vm S hc hi (fun _ _ _ _ _=>AcU (ht _ _ _ _ _)) he hs
end
end L2
namespace L2
open PySem PySem.Spec PyProof.Rows PySem.SeqAt
noncomputable def AeF (sc scope:Scope) (NN:List Str) (x:Str) (N:List Str) (sl:List Nat):Bool :=
  decide (scope.names.lookup x=some .local) && decide (scope.kind=.function) && scope.names.all (fun y=>decide (y.2≠.cell)) && scope.names.all (fun y=>decide (y.2=.local→scope.names.lookup y.1=some .local)) &&
    scope.names.all (fun y=>decide (y.2=.free→sc.names.lookup y.1=some .cell)) && decide (x :: N).Nodup && decide (N.map some=sl.map (fun j=>NN[j]?)) && N.all (fun n=>decide (scope.names.lookup n=some .free))
theorem FP {X:Cx} {sc scope:Scope} {NN:List Str} {x:Str} {N:List Str} {sl:List Nat} (h1:X.env.scope=sc) (h2:X.N=NN) (h:AeF sc scope NN x N sl=true):Ea X scope x N sl:=by
  subst h1 h2
  unfold AeF at h
  simp only [Bool.and_eq_true,decide_eq_true_eq,List.all_eq_true] at h
  obtain ⟨⟨⟨⟨⟨⟨⟨a,b⟩,c⟩,d⟩,e⟩,f⟩,g⟩,i⟩:=h
  exact ⟨a,b,c,d,e,f,g,i⟩
noncomputable def Bt (n:Nat) (x:Int):Prop:=x.natAbs < 2 ^ n
theorem Bt.le {n m:Nat} {x:Int} (h:Bt n x) (l:n≤m):Bt m x:=Nat.lt_of_lt_of_le h (Nat.pow_le_pow_right (by decide) l)
theorem Bt.mul {n m:Nat} {x y:Int} (a:Bt n x) (b:Bt m y):Bt (n+m) (x*y):=by
  unfold Bt at *
  rw [Int.natAbs_mul,Nat.pow_add]
  exact Nat.mul_lt_mul'' a b
theorem Bt.add {n m:Nat} {x y:Int} (a:Bt n x) (b:Bt m y):Bt (max n m+1) (x+y):=by
  have a':=a.le (Nat.le_max_left n m)
  have b':=b.le (Nat.le_max_right n m)
  unfold Bt at *
  rw [Nat.pow_succ]
  have:=Int.natAbs_add_le x y
  omega
theorem Bt.neg {n:Nat} {x:Int} (a:Bt n x):Bt n (-x):=by unfold Bt at *;rw [Int.natAbs_neg];exact a
theorem Bt.sub {n m:Nat} {x y:Int} (a:Bt n x) (b:Bt m y):Bt (max n m+1) (x - y):=by rw [Int.sub_eq_add_neg];exact a.add b.neg
theorem Bt.of_abs {n:Nat} {x:Int} (h:x.natAbs < 2 ^ n):Bt n x:=h
theorem Bt.of {n:Nat} {x:Int} (h1:-(2 ^ n) < x) (h2:x < 2 ^ n):Bt n x:=by
  unfold Bt
  have:((x.natAbs:Nat):Int) < ((2 ^ n:Nat):Int):=by push_cast;omega
  omega
theorem Bt.mulOk {n m:Nat} {x y:Int} (a:Bt n x) (b:Bt m y) (hn:n≤1048576:=by decide) (hm:m≤1048576:=by decide):IntMulOk x y :=
  IntMulOk.of_bits (intBits_le_iff.mpr (a.le hn)) (intBits_le_iff.mpr (b.le hm))
theorem Bt.divOk {n:Nat} {x y:Int} (a:Bt n y) (h:y≠0) (hn:n≤9000:=by decide):CDv x y:=⟨h,a.le hn⟩
theorem Bt.zero:Bt 0 0:=by unfold Bt;decide
theorem Bt.one:Bt 1 1:=by unfold Bt;decide
end L2
namespace L2
open PySem PySem.Spec PyProof.Rows PySem.SeqAt
section
variable {a b c d e f:Dt} {r s:List Dt} {i j:Int} {k l:Bool} {n:Nat} {x y:Str}
theorem Ak3:ixD 0 (.tup (a :: r))=some a:=rfl
theorem AkT:ixD 1 (.tup (a :: b :: r))=some b:=rfl
theorem Akw:ixD 2 (.tup (a :: b :: c :: r))=some c:=rfl
theorem AkV:ixD 3 (.tup (a :: b :: c :: d :: r))=some d:=rfl
theorem AlQ:ixD 0 (.lst (a :: r))=some a:=rfl
theorem Alw:ixD 1 (.lst (a :: b :: r))=some b:=rfl
theorem AkI:ixD 2 (.lst (a :: b :: c :: r))=some c:=rfl
theorem AkG:ixD 3 (.lst (a :: b :: c :: d :: r))=some d:=rfl
theorem OD:Dt.eq (.int i) (.int j)=decide (i=j):=by rw [Dt.eq]
theorem Ahx:Dt.eq (.bl k) (.bl l)=(k == l):=by rw [Dt.eq]
theorem Ul:Dt.eq (.str x) (.str y)=(x == y):=by rw [Dt.eq]
theorem Ahi:Dt.eq .non .non=true:=by rw [Dt.eq]
theorem Aii:Dt.eq .non (.int i)=false:=by simp [Dt.eq]
theorem Ai4:Dt.eq .non (.tup r)=false:=by simp [Dt.eq]
theorem Aix:Dt.eq (.tup r) .non=false:=by simp [Dt.eq]
theorem Aau:Dt.eq (.tup r) (.tup s)=Dt.eqs r s:=by rw [Dt.eq]
theorem Ajz:Dt.eq (.lst r) (.lst s)=Dt.eqs r s:=by rw [Dt.eq]
theorem AaN:Dt.eqs [] []=true:=by rw [Dt.eqs]
theorem ZV:Dt.eqs (a :: r) (b :: s)=(Dt.eq a b && Dt.eqs r s):=by rw [Dt.eqs]
theorem Ae4:Dt.eqs [] (b :: s)=false:=by simp [Dt.eqs]
theorem Agf:Dt.eqs (b :: s) []=false:=by simp [Dt.eqs]
theorem Kl:Dt.flat n (.int i)=true:=by cases n <;> rw [Dt.flat] <;> simp
theorem Agl:Dt.flat n (.bl k)=true:=by cases n <;> rw [Dt.flat] <;> simp
theorem Agy:Dt.flat n .non=true:=by cases n <;> rw [Dt.flat] <;> simp
theorem Wx:Dt.flat (n+1) (.tup r)=Dt.flats n r:=by rw [Dt.flat]
theorem AaX:Dt.flat (n+1) (.lst r)=Dt.flats n r:=by rw [Dt.flat]
theorem Xy:Dt.flat 8 (.tup r)=Dt.flats 7 r:=Wx
theorem AdG:Dt.flat 8 (.lst r)=Dt.flats 7 r:=AaX
theorem AcM:Dt.flat 7 (.tup r)=Dt.flats 6 r:=Wx
theorem Aci:Dt.flat 7 (.lst r)=Dt.flats 6 r:=AaX
theorem Ach:Dt.flat 6 (.tup r)=Dt.flats 5 r:=Wx
theorem Xr:Dt.flats n []=true:=by rw [Dt.flats]
theorem Xn:Dt.flats n (a :: r)=(Dt.flat n a && Dt.flats n r):=by rw [Dt.flats]
theorem PN {N:Str} {M:List Str}:Fq (N :: M) (a :: r)=some (.is a) :: Fq M r:=by
  unfold Fq
  simp only [List.map_cons,List.length_cons,List.cons_append,Nat.add_sub_add_right]
theorem Qp {N:Str} {M:List Str}:Fq (N :: M) []=none :: Fq M []:=by
  unfold Fq
  simp [List.replicate_succ]
theorem Py:Fq [] []=[]:=rfl
theorem Az (h:n≤1000):n≤sizeLine:=Nat.le_of_lt (YL h)
theorem Agu:isT "tuple" (.tup r)=true:=rfl
theorem Agr:isT "list" (.lst r)=true:=rfl
theorem Age:isT "int" (.int i)=true:=rfl
theorem Agx:isT "bool" (.int i)=false:=rfl
theorem AfC:isT "int" (.bl k)=true:=rfl
theorem Agc:isT "bool" (.bl k)=true:=rfl
theorem Af4:isT "tuple" .non=false:=rfl
theorem Afv:isT "int" .non=false:=rfl
theorem AfI:isT "int" (.tup r)=false:=rfl
theorem Agj:isT "bool" (.tup r)=false:=rfl
theorem Amw:noFn (.int i)=true:=rfl
theorem AlJ:noFn (.bl k)=true:=rfl
theorem Al8:noFn .non=true:=rfl
theorem AkU:noFn (.tup r)=true:=rfl
theorem AlP:noFn (.lst r)=true:=rfl
theorem AlU:noFn (.str x)=true:=rfl
theorem AjN:isB true (.bl k)=k:=by cases k <;> rfl
theorem AiM:isB false (.bl k) = !k:=by cases k <;> rfl
theorem AjS:isB k (.int i)=false:=rfl
theorem AhY:isB k .non=false:=rfl
theorem Aft:isB k (.tup r)=false:=rfl
theorem AgG:isB k (.lst r)=false:=rfl
theorem AgR:isN .non=true:=rfl
theorem AiT:isN (.int i)=false:=rfl
theorem Ai3:isN (.bl k)=false:=rfl
theorem Akc:isN (.tup r)=false:=rfl
theorem Ajn:isN (.lst r)=false:=rfl
end
end L2
namespace L2
open PySem PySem.Spec PyProof.Rows PySem.SeqAt
theorem ifn {c:Bool} {A B:Prop} (h:c=true) (b:B):if (!c)=true then A else B:=by subst h;exact b
theorem ift {c:Bool} {A B:Prop} (h:c=true) (a:A):if c=true then A else B:=by subst h;exact a
theorem Es {c:Bool} {A B:Prop} (h:c=false) (b:B):if c=true then A else B:=by subst h;exact b
theorem Aj {τ:Type} {args:τ→List Dt} {pre:τ→Prop} {val:τ→Dt} {Q:Dt→Prop} (p:τ) (h:pre p) (k:Q (val p)):BL args pre val (args p) Q:=⟨p,rfl,h,fun d e=>by rw [e];exact k⟩
theorem Av {τ:Type} {args:τ→List Dt} {pre:τ→Prop} {post:τ→Dt→Prop} {Q:Dt→Prop} (p:τ) (h:pre p) (k:∀ d,post p d→Q d):spec args pre post (args p) Q:=⟨p,rfl,h,k⟩
theorem Nf {sl:List Nat} {tt:DTT} {te:DTE} {ρ:BZ} {Q:Dt→Prop} {items:List Dt} (p:Dt→Bool) (f:Dt→Dt) (ht:∀ d∈items,∀ R:Bool→Prop,R (p d)→tt (inner sl ρ d) R) (he:∀ d∈items,p d=true→∀ R:Dt→Prop,R (f d)→te (inner sl ρ d) R)
    (hq:Q (.lst ((items.filter p).map f))):∃ W:Nat→List Dt→Prop,W 0 []∧(∀ (k:Nat) d acc,items[k]? = some d→W k acc→tt (inner sl ρ d) fun b=>if b=true then te (inner sl ρ d) fun e=>W (k+1) (acc ++ [e]) else W (k+1) acc) ∧
      ∀ acc,acc.length≤items.length→W items.length acc→Q (.lst acc):=by
  refine ⟨fun k acc=>acc=((items.take k).filter p).map f,by simp,fun k d acc e w=>?_,fun acc _ w=>by rw [w,List.take_length];exact hq⟩
  have hm:=List.mem_of_getElem? e
  refine ht d hm _ ?_
  have ht:=take_succ_filter p items k d e
  by_cases hp:p d=true
  · rw [if_pos hp]
    refine he d hm hp _ ?_
    show acc ++ [f d]=_
    rw [w,ht,if_pos hp];simp
  · rw [if_neg hp]
    show acc=_
    rw [w,ht,if_neg hp];simp
theorem comp_map {sl:List Nat} {te:DTE} {ρ:BZ} {Q:Dt→Prop} {items:List Dt} (f:Dt→Dt) (he:∀ d∈items,∀ R:Dt→Prop,R (f d)→te (inner sl ρ d) R)
    (hq:Q (.lst (items.map f))):∃ W:Nat→List Dt→Prop,W 0 []∧(∀ (k:Nat) d acc,items[k]? = some d→W k acc→LQ (inner sl ρ d) fun b=>if b=true then te (inner sl ρ d) fun e=>W (k+1) (acc ++ [e]) else W (k+1) acc) ∧
      ∀ acc,acc.length≤items.length→W items.length acc→Q (.lst acc) :=
  Nf (fun _=>true) f (fun _ _ _ h=>h) (fun d hm _ R h=>he d hm R h) (by rw [List.filter_eq_self.mpr (fun _ _=>rfl)];exact hq)
theorem KZ {sl:List Nat} {ti:DTI} {tt:DTT} {te:DTE} {ρ:BZ} {Q:Dt→Prop} (items:List Dt) (p:Dt→Bool) (f:Dt→Dt) (hi:∀ R:List Dt→Prop,R items→ti ρ R) (hl:items.length≤sizeLine) (hc:caught sl ρ)
    (ht:∀ d∈items,∀ R:Bool→Prop,R (p d)→tt (inner sl ρ d) R) (he:∀ d∈items,p d=true→∀ R:Dt→Prop,R (f d)→te (inner sl ρ d) R) (hq:Q (.lst ((items.filter p).map f))):HY sl ti tt te ρ Q :=
  hi _ ⟨hl,hc,Nf p f ht he hq⟩
theorem JH {sl:List Nat} {ti:DTI} {te:DTE} {ρ:BZ} {Q:Dt→Prop} (items:List Dt) (f:Dt→Dt) (hi:∀ R:List Dt→Prop,R items→ti ρ R) (hl:items.length≤sizeLine) (hc:caught sl ρ)
    (he:∀ d∈items,∀ R:Dt→Prop,R (f d)→te (inner sl ρ d) R) (hq:Q (.lst (items.map f))):HY sl ti LQ te ρ Q :=
  hi _ ⟨hl,hc,comp_map f he hq⟩
theorem Jz {ti:DTI} {g:DTG} {tb:DTS} {D:Gv} {ρ:BZ} (items:List Dt) (hi:∀ R:List Dt→Prop,R items→ti ρ R) (W:Nat→BZ→Prop) (h0:W 0 ρ)
    (hs:∀ (k:Nat) d ρ',items[k]? = some d→W k ρ'→g d ρ' fun ρ2=>tb { D with nx:=W (k+1),ct:=W (k+1),bk:=D.nx } ρ2) (he:∀ ρ',W items.length ρ'→D.nx ρ'):AcV ti g tb D ρ:=hi _ ⟨W,h0,hs,he⟩
theorem ints_get {ns:List Int} {k:Nat} {d:Dt} (h:(ns.map Dt.int)[k]? = some d):∃ n,ns[k]? = some n∧d=.int n:=by
  rw [List.getElem?_map] at h
  cases e:ns[k]? with
  | none=>rw [e] at h;cases h
  | some n=>rw [e] at h;cases h;exact ⟨n,rfl,rfl⟩
theorem EY {ρ:BZ}:caught [] ρ:=fun _ h=>(nomatch h)
theorem U7 {j:Nat} {sl:List Nat} {ρ:BZ} {d:Dt} (h:ρ[j]? = some (some (.is d))) (r:caught sl ρ):caught (j :: sl) ρ:=fun k hk=>by
  rcases List.mem_cons.mp hk with e | e
  · subst e;exact ⟨d,h⟩
  · exact r k e
theorem Adp {ns:List Int} {k:Int} (h0:0≤k) (h1:k < ns.length):ixD k (.lst (ns.map Dt.int))=some (.int (ns.getD k.toNat 0)):=by
  obtain ⟨j,rfl⟩:=Int.eq_ofNat_of_zero_le h0
  have hj:j < ns.length:=by omega
  show (ns.map Dt.int)[j]? = _
  rw [List.getElem?_map]
  simp [hj]
end L2
namespace L2
theorem Gn {c:DTT} {tb:DTS} {D:Gv} {ρ:BZ} (W:Nat→BZ→Prop) (m:Nat) (h0:W m ρ) (h:∀ m ρ,W m ρ→c ρ fun k=>if k=true then tb { D with nx:=fun ρ'=>∃ m',m' < m∧W m' ρ',ct:=fun ρ'=>∃ m',m' < m∧W m' ρ',bk:=D.nx } ρ else D.nx ρ):Abk c tb D ρ:=⟨W,⟨m,h0⟩,h⟩
end L2
namespace L2
open PySem PySem.Spec PyProof.Rows PySem.SeqAt
section
variable {X:Cx} {a b c e:Expr} {es:List Expr} {ta tb te:DTE} {tl:DTA} {pos:Pos}
noncomputable def downs (hi:Int) (n:Nat):List Dt:=(List.range n).map fun i=>.int (hi - (i:Nat))
noncomputable def Agb (tl:DTA):DTI:=fun ρ Q=>tl ρ fun ds=>match ds with
  | [.int i,.int j,.int k]=>k=-1∧(-(2 ^ 62)≤i∧i < 2 ^ 62∧-(2 ^ 62)≤j∧j < 2 ^ 62)∧Q (downs i (i - j).toNat)
  | _=>False
theorem Acw:MtR X "int.bit_length" (fun x xs H Q=>∃ i,x=.int i∧xs=[]∧Q (.int (Builtin.Int.intBits i)) H):=by
  intro pins s σ H x xs v us Q I rx rs ⟨i,e,e2,q⟩
  subst e e2
  cases rs
  obtain ⟨t,rfl⟩:=rx
  exact call_int_bit_length ⟨.int _,H,I.tok _,⟨_,rfl⟩,q⟩
noncomputable def AdK (ta:DTE):DTE:=fun ρ Q=>ta ρ fun d=>match d with
  | .int i=>Q (.int (Builtin.Int.intBits i))
  | _=>False
theorem W6 {apos:Pos} (ha:DE X a ta) (hbase:attributeBase a "bit_length" X.env (eval a X.env)=eval a X.env:=by rfl) (hline:(apos.endLine == pos.line)=true:=by rfl):DE X (.Call (.Attribute a "bit_length" apos) [] [] pos) (AdK ta) where
  mono:=fun hq h=>ha.mono (fun d h=>by
    split at h
    · exact hq _ h
    · exact h.elim) h
  pe:=(AfY PySem.F.plainAttrs_int PySem.F.slot_int_bit_length PySem.F.type_int_bit_length Acw ha.pe hbase hline).imp fun σ H Q ⟨B,F,O,ρ,R,h⟩=>⟨B,F,O,ρ,R,ha.mono (fun d h v H1 s1 r1=>by
    split at h
    · rw [Bj.mp r1]
      exact ⟨rfl,_,rfl,rfl,h _ H1 s1 (Bj.mpr rfl)⟩
    · exact h.elim) h⟩
noncomputable def AjU (P:Program) (w:World) (K:PySem.W.Frag) (mg:Str→Option Value) (base:Heap) (k:Nat) (a:Addr) (sp:DSp):Prop :=
  ∃ fd ps,Ho P w K mg base CX0 k a fd ps (lSp K sp)∧Binds K fd ps []∧PySem.W.keepIn K (.ref a)=true
noncomputable def AfX (P:Program) (w:World) (K:PySem.W.Frag) (mg:Str→Option Value) (base:Heap) (k:Nat) (tf:DTE) (tl:DTA):DTE:=fun ρ Q=>tf ρ fun d=>match d with
  | .fn a=>PySem.W.keepIn K (.ref a)=true∧tl ρ fun ds=>∃ sp,HD sp∧AjU P w K mg base k a sp∧sp ds Q
  | _=>False
noncomputable def lF (K:PySem.W.Frag) (t:DTA):TE:=fun σ H Q=>∃ B F O ρ,Rep K B F O H σ ρ∧t ρ fun ds=>∀ p H' vs,Same H H'→H' p=some (.lst vs)→p∉F ++ O→RpL K (mask (F ++ O) H') ds vs→Q (.ref p) H'
structure DF (X:Cx) (e:Expr) (t:DTA):Prop where
  mono:∀ {ρ Q Q'},(∀ d,Q d→Q' d)→t ρ Q→t ρ Q'
  pe:PE X e (lF X.K t)
noncomputable def dOf (t:DTA):DTE:=fun ρ Q=>t ρ fun ds=>Q (.lst ds)
theorem DF.de {t:DTA} (h:DF X e t):DE X e (dOf t) where
  mono:=fun hq z=>h.mono (fun _ z=>hq _ z) z
  pe:=h.pe.imp fun σ H Q ⟨B,F,O,ρ,R,z⟩=>⟨B,F,O,ρ,R,h.mono (fun ds z p H' vs s e n r=>z (.ref p) H' s (JM ⟨p,vs,rfl,(by rw [Bb n];exact e),r⟩)) z⟩
noncomputable def AhL (tl:DTA):DTA:=fun ρ Q=>tl ρ fun ds=>ds.length≤sizeLine∧Q ds
noncomputable def Xj (te:DTE) (tl th:DTO):DTA:=fun ρ Q=>te ρ fun d=>tl ρ fun lo=>th ρ fun hi=>match d with
  | .lst ds=>Q (cutD ds lo hi)
  | _=>False
theorem Vg {lo hi:Option Expr} {t1 t2:DTO} {p2:Pos} (he:DE X e te) (hl:DO X lo t1) (hh:DO X hi t2):DF X (.Subscript e (.Slice lo hi none p2) pos) (Xj te t1 t2) where
  mono:=fun hq z=>he.mono (fun d z=>hl.mono (fun l z=>hh.mono (fun h z=>by
    split at z
    · exact hq _ z
    · exact z.elim) z) z) z
  pe:=(Uo Xw he.pe hl.po hh.po).imp fun σ H Q ⟨B,F,O,ρ,R,z⟩=>⟨B,F,O,ρ,R,he.mono (fun d z v H1 s1 r1=>⟨B,F,O,ρ,R.same s1,hl.mono (fun l z H2 s2=>⟨B,F,O,ρ,(R.same s1).same s2,hh.mono (fun h z H3 s3=>by
    split at z
    · obtain ⟨a,xs,rfl,hs,hr⟩:=DP ((r1.mono s2.mask).mono s3.mask)
      refine ⟨a,xs,rfl,Ba.seq hs,fun p hp=>?_⟩
      have R3:=((R.same s1).same s2).same s3
      have np:p∉F ++ O:=fun m=>R3.th p m hp
      exact z p _ _ (((s1.trans s2).trans s3).trans (Same.upd hp)) Bh np (hr.cut.mono (Same.upd hp).mask)
    · exact z.elim) z⟩) z⟩) z⟩
noncomputable def AdS (t u:DTA):DTA:=fun ρ Q=>t ρ fun xs=>u ρ fun ys=>xs.length+ys.length≤sizeLine∧Q (xs ++ ys)
theorem Afw {t u:DTA} (ha:DF X a t) (hb:DF X b u):DF X (.BinOp a .Add b pos) (AdS t u) where
  mono:=fun hq z=>ha.mono (fun _ z=>hb.mono (fun _ z=>⟨z.1,hq _ z.2⟩) z) z
  pe:=(AeE AfZ ha.pe hb.pe).imp fun σ H Q ⟨B,F,O,ρ,R,z⟩=>⟨B,F,O,ρ,R,ha.mono (fun xs z p H1 vs s1 e1 n1 r1=>⟨B,F,O,ρ,R.same s1,hb.mono (fun ys z p2 H2 ws s2 e2 n2 r2=>by
    refine ⟨p,p2,vs,ws,rfl,rfl,s2 _ _ e1,e2,by rw [r1.len,r2.len];exact z.1,fun l hl=>?_⟩
    have np:l∉F ++ O:=fun m=>((R.same s1).same s2).th l m hl
    exact z.2 l _ _ ((s1.trans s2).trans (Same.upd hl)) Bh np (((r1.mono s2.mask).append r2).mono (Same.upd hl).mask)) z⟩) z⟩
end
end L2
namespace L2
open PySem PySem.Spec PyProof.Rows PySem.SeqAt
section
variable {X:Cx} {elt iter:Expr} {x:Str} {px:Pos} {ifs:List Expr} {scope:Scope} {pos:Pos} {N:List Str} {sl:List Nat} {wi:TI} {tt:TT} {te:TE}
theorem WT {pins:List (Addr × Obj)} {σ:St} {H2:Hp} {s2:Shared} {cl:List (Str × Addr)} {it:Addr} {fp:List Addr} {tn:Nat→Heap→Prop} {J:It} {vs:List V} {PP:Value→Addr→Result→Shared→Prop} {E:Value→Shared→Prop} {QD:Hp→Prop} (S:Ea X scope x N sl) (hc:X.calm=true)
    (ht:∀ cl C s₀ H₀ ex,PTs (Bl X scope (x :: N) cl C s₀ H₀ ex) ifs tt) (he:∀ cl C s₀ H₀ ex,PE (Bl X scope (x :: N) cl C s₀ H₀ ex) elt te)
    (hcl:∀ n c,cl.lookup n=some c→X.env.cells.lookup n=some c) (hcl2:∀ n,(n,NameKind.free)∈scope.names→∃ c,cl.lookup n=some c)
    (I2:Inv X pins σ H2 s2) (T:Turn X.prog X.w X.K (.Name x px) J fp it tn) (st2:tn 0 s2.heap) (f2:∀ b∈fp,KH X pins H2 b) (hvs:sl.map (fun j=>σ[j]?)=vs.map (fun v=>some (some v)))
    (hW:∃ W:Nat→Nat→List V→Hp→Prop,(∃ m,W 0 m [] (upd H2 s2.heap.objs.size (.lst [])))∧∀ i m acc H,W i m acc H →
      (J.stop i H∧QD H)∨(J.go i H∧∀ x H',J.yld i H x H'→tt (some x :: vs.map some) H' fun b H2' =>
        if b=true then te (some x :: vs.map some) H2' fun y H3=>H3 s2.heap.objs.size=some (.lst acc)∧acc.length < sizeLine∧∃ m',m' < m∧W (i+1) m' (acc ++ [y]) (upd H3 s2.heap.objs.size (.lst (acc ++ [y])))
        else ∃ m',m' < m∧W (i+1) m' acc H2'))
    (fin:∀ (C:Addr),(s2.heap.push { cls:=.type "list",data:=.seq ([]:List Value).toArray }).objs.size=C→∀ {σ':St} {H':Hp} {s':Shared},Inv (Bl X scope (x :: N) cl C { s2 with heap:=s2.heap.push { cls:=.type "list",data:=.seq ([]:List Value).toArray },toks:=s2.toks } (upd H2 s2.heap.objs.size (.lst [])) fp) [] σ' H' s'→QD H'→PP (.ref s2.heap.objs.size) C (.ok .next) s') :
    wpAny (model X.prog X.w) X.A (newList []) (fun acc s₃=>wpAny (model X.prog X.w) X.A (newFunctionEnv scope X.env.globals cl [] X.env.qual none .none (some X.env)) (fun cenv s₄ =>
      codeAny (model X.prog X.w) X.A (.compStart (.ListComp elt [⟨.Name x px,iter,ifs,0⟩] scope pos) 0 (.ref it) acc { cenv with scope:=relabel scope X.env }) (PP acc cenv.locals) s₄) E s₃) E s2:=by
  refine wpAny_newObj_type (wpAny_newFunctionEnv S.cell (by intro y hy;simp at hy) (fun h₁ hns₁ hsb₁=>?_) S.kind)
  have hD:H2 s2.heap.objs.size=none:=I2.fresh
  have I3:Inv X pins σ (upd H2 s2.heap.objs.size (.lst [])) { s2 with heap:=s2.heap.push { cls:=.type "list",data:=.seq ([]:List Value).toArray },toks:=s2.toks }:=I2.lnew (its:=[]) (ys:=[]) .nil (Nat.zero_le _)
  have hbD:∀ b∈fp,b≠s2.heap.objs.size:=fun b hb z=>by
    obtain ⟨o',e',_⟩:=T.obj _ _ st2 b hb
    exact absurd (Heap.lt_size e') (by rw [z];exact Nat.lt_irrefl _)
  have f3:∀ b∈fp,KH X pins (upd H2 s2.heap.objs.size (.lst [])) b:=fun b hb=>⟨by rw [Aw (hbD b hb)];exact (f2 b hb).1,(f2 b hb).2⟩
  have ob3:∀ b∈fp,∃ o,(s2.heap.push { cls:=.type "list",data:=.seq ([]:List Value).toArray }).get? b=some o:=fun b hb=>by
    obtain ⟨o',e',_⟩:=T.obj _ _ st2 b hb
    exact ⟨o',Heap.get?_push_of_some _ e'⟩
  have IC:=Uy (tk:=s2.toks+([]:List (Str × Value)).length) S I3 f3 ob3 hns₁ hsb₁ hcl hcl2 hvs
  dsimp only at hsb₁ IC ⊢
  generalize hCC:(s2.heap.push { cls:=.type "list",data:=.seq ([]:List Value).toArray }).objs.size=C at hns₁ hsb₁ IC ⊢
  have old:∀ b o,s2.heap.get? b=some o→h₁.get? b=some o:=fun b o e=>by
    have e1:(s2.heap.push { cls:=.type "list",data:=.seq ([]:List Value).toArray }).get? b=some o:=Heap.get?_push_of_some _ e
    exact (hsb₁.2 b (by rw [←hCC];exact Nat.ne_of_lt (Heap.lt_size e1))).trans (Heap.get?_push_of_some _ e1)
  have st₁:tn 0 h₁:=T.keep _ _ _ st2 fun b hb o e=>old b o e
  obtain ⟨W,⟨m0,w0⟩,turn⟩:=hW
  have fpC:∀ {H':Hp} {pl:List (Addr × Obj)},(∀ b∈fp,H' b=none)→(∀ p∈pl,p.1∉fp)→∀ b∈fp,KH (Bl X scope (x :: N) cl C { s2 with heap:=s2.heap.push { cls:=.type "list",data:=.seq ([]:List Value).toArray },toks:=s2.toks } (upd H2 s2.heap.objs.size (.lst [])) fp) pl H' b:=fun {H' pl} hn hp b hb=>by
    refine ⟨hn b hb,(IC.ok.exf b hb).1,IC.ok.exfs b hb,.inl hb,(IC.ok.exf b hb).2,fun p hq z=>?_⟩
    have hq':p∈pl:=by simpa [Bl] using hq
    exact hp p hq' (by rw [z];exact hb)
  have loop:codeAny (model X.prog X.w) X.A (.compLoop (.ListComp elt [⟨.Name x px,iter,ifs,0⟩] scope pos) 0 (.ref it) (.ref s2.heap.objs.size) (compEnvC scope cl C X.env)) (PP (.ref s2.heap.objs.size) C)
      { s2 with heap:=h₁,toks:=s2.toks+([]:List (Str × Value)).length }:=by
    refine codeAny_compLoop_tests (fun n s'=>∃ i acc σ' H',Inv (Bl X scope (x :: N) cl C { s2 with heap:=s2.heap.push { cls:=.type "list",data:=.seq ([]:List Value).toArray },toks:=s2.toks } (upd H2 s2.heap.objs.size (.lst [])) fp) [] σ' H' s'∧(∃ y,σ'=y :: vs.map some) ∧
      tn i s'.heap∧(∀ b∈fp,H' b=none)∧W i n acc H') ?_ m0 ⟨0,[],_,_,IC,⟨none,rfl⟩,st₁,fun b hb=>(f3 b hb).1,w0⟩
    rintro n s3 ⟨i,acc,σ3,H3,I4,⟨y,rfl⟩,st3,fr3,w3⟩
    rcases turn i n acc H3 w3 with ⟨stop,qn⟩ | ⟨go,step⟩
    · refine wpAny_mono (T.done (Bl X scope (x :: N) cl C { s2 with heap:=s2.heap.push { cls:=.type "list",data:=.seq ([]:List Value).toArray },toks:=s2.toks } (upd H2 s2.heap.objs.size (.lst [])) fp) rfl rfl rfl hc i [] s3 _ H3 (fun _ _=>False) I4 (fpC fr3 (by simp)) st3 stop) (fun r s4 ⟨hr,I5⟩=>?_) fun _ _ z=>False.elim z
      subst hr
      exact fin C hCC I5 qn
    · refine wpAny_mono (T.item (Bl X scope (x :: N) cl C { s2 with heap:=s2.heap.push { cls:=.type "list",data:=.seq ([]:List Value).toArray },toks:=s2.toks } (upd H2 s2.heap.objs.size (.lst [])) fp) rfl rfl rfl hc i [] s3 _ H3 (fun _ _=>False) I4 (fpC fr3 (by simp)) st3 go) (fun r s4 ⟨u,hr,h4⟩=>?_) fun _ _ z=>False.elim z
      subst hr
      have e0:∀ (k:Unit→Sem Unit),(letOwnedTupleGo (.Name x px) (.ref it) u >>= k)=k ():=fun k=>rfl
      have hg:PG (Bl X scope (x :: N) cl C { s2 with heap:=s2.heap.push { cls:=.type "list",data:=.seq ([]:List Value).toArray },toks:=s2.toks } (upd H2 s2.heap.objs.size (.lst [])) fp) (.Name x px) (W7 0):=RQ S.nd rfl (.inl (lookup_relabel_local S.hx)) (.inr (lookup_relabel_local S.hx))
      show wpAny (model X.prog X.w) X.A (assign (.Name x px) (compEnvC scope cl C X.env) u) _ _ s4
      rw [←e0 fun _=>assign (.Name x px) (compEnvC scope cl C X.env) u]
      refine wpAny_bind (wpAny_mono h4 (fun _ s5 ⟨z,H5,I5,r5,y5,st5,fr5⟩=>?_) fun _ _ z=>False.elim z)
      have I5':=I5.pinned (fpC fr5 (by simp)) (T.obj _ _ st5)
      have W5:=hg _ s5 _ H5 z u (fun σ' H'=>σ'=some z :: vs.map some∧H'=H5) I5' r5 ⟨rfl,rfl⟩
      refine wpAny_mono W5 (fun _ s6 ⟨σ6,H6,I6,e6,e7⟩=>?_) fun _ _ z=>False.elim z
      subst e6 e7
      refine wpAny_mono (ht _ _ _ _ _ _ s6 _ H6 _ I6 (step z H6 y5)) (fun b s7 ⟨H7,I7,q7⟩=>?_) fun _ _ z=>False.elim z
      have again:∀ {H8:Hp} {s8:Shared} {acc':List V},Inv (Bl X scope (x :: N) cl C { s2 with heap:=s2.heap.push { cls:=.type "list",data:=.seq ([]:List Value).toArray },toks:=s2.toks } (upd H2 s2.heap.objs.size (.lst [])) fp) ([] ++ Mu fp s5.heap) (some z :: vs.map some) H8 s8→(∃ m',m' < n∧W (i+1) m' acc' H8)→∃ m,m < n∧∃ i acc σ' H',Inv (Bl X scope (x :: N) cl C { s2 with heap:=s2.heap.push { cls:=.type "list",data:=.seq ([]:List Value).toArray },toks:=s2.toks } (upd H2 s2.heap.objs.size (.lst [])) fp) [] σ' H' s8∧(∃ y,σ'=y :: vs.map some)∧tn i s8.heap∧(∀ b∈fp,H' b=none)∧W i m acc H':=fun {H8 s8 acc'} I8 ⟨m',hm,w8⟩=>by
        refine ⟨m',hm,i+1,acc',_,H8,I8.unpinned,⟨_,rfl⟩,T.keep _ _ _ st5 fun b hb o e=>(I8.pin (b,o) (List.mem_append_right _ (List.mem_append_right _ (FW hb e)))).1,fun b hb=>?_,w8⟩
        obtain ⟨o,e,d⟩:=T.obj _ _ st5 b hb
        exact (I8.pin (b,o) (List.mem_append_right _ (List.mem_append_right _ (FW hb e)))).2.1
      cases b with
      | false=>exact again I7 q7
      | true =>
        rw [if_pos rfl]
        refine wpAny_mono (he _ _ _ _ _ _ s7 _ H7 _ I7 q7) (fun v8 s8 ⟨x8,H8,I8,r8,hD8,hz8,q8⟩=>?_) fun _ _ z=>False.elim z
        refine wpAny_mono (Mf (X:=(Bl X scope (x :: N) cl C { s2 with heap:=s2.heap.push { cls:=.type "list",data:=.seq ([]:List Value).toArray },toks:=s2.toks } (upd H2 s2.heap.objs.size (.lst [])) fp)) _ s8 _ H8 (.ref s2.heap.objs.size) [x8] (.ref s2.heap.objs.size) [v8] (fun _ H9=>H9=upd H8 s2.heap.objs.size (.lst (acc ++ [x8]))) I8 rfl (.cons r8 .nil) ⟨_,acc,x8,rfl,rfl,hD8,hz8,rfl⟩) (fun _ s9 ⟨_,H9,I9,_,e9⟩=>?_) fun _ _ z=>False.elim z
        subst e9
        exact again I9 q8
  exact codeAny_compStart_list loop (T.self _ 0 _ _ _ st₁ loop)
noncomputable def Ahk (i:Nat) (sl:List Nat) (wi:TI) (tt:TT) (te:TE):TS:=fun D σ H=>XM sl wi tt te σ H fun v H'=>D.nx (σ.set i (some v)) H'
theorem XS {i:Nat} {y:Str} {py spos:Pos} (S:Ea X scope x N sl) (hc:X.calm=true) (hN:X.N.Nodup) (hyi:X.N[i]? = some y) (hy:X.env.scope.names.lookup y=some .local) (hi:PI X (.Name x px) iter wi)
    (ht:∀ cl C s₀ H₀ ex,PTs (Bl X scope (x :: N) cl C s₀ H₀ ex) ifs tt) (he:∀ cl C s₀ H₀ ex,PE (Bl X scope (x :: N) cl C s₀ H₀ ex) elt te)
    (hsw:swapsWith (.ListComp elt [⟨.Name x px,iter,ifs,0⟩] scope pos) (some (.Name y py)) spos.line X.env=pure true) (hs:∀ x,foldedSetIterable iter X.env x=pure x:=by intro _;rfl) :
    PS X (.Assign [.Name y py] (.ListComp elt [⟨.Name x px,iter,ifs,0⟩] scope pos) spos) (Ahk i sl wi tt te):=by
  intro pins s σ H DD I h
  obtain ⟨cl,hclos,hcl,hcl2⟩:=Oh (env:=X.env) (scope:=scope) fun y hy hf=>I.ok.has y.1 (.inl (S.free y hy hf))
  rw [exec_Assign_Name_used _ _ _ _ hsw]
  refine wpAny_bind (wpAny_standAt (wpAny_bind ?_))
  show wpAny _ X.A (do let _ ←comprehension (.ListComp elt [⟨.Name x px,iter,ifs,0⟩] scope pos) scope X.env _ (newList []) false (eval iter X.env) (some (assign (.Name y py) X.env))) _ _ s
  refine wpAny_bind (wpAny_mono (wpAny_comprehension_free (use:=some (assign (.Name y py) X.env)) (Q:=fun _ s'=>SP X pins DD .next s') rfl hs hclos S.kind S.names
    (thn (hi pins s σ H _ I h) fun v s1 h1=>thn h1 fun itv s2 h2=>?_)) (fun _ s' hq=>wpAny_pure (wpAny_pure hq)) fun _ _ e=>e)
  obtain ⟨it,fp,tn,J,H2,e,I2,T,st2,f2,vs,hvs,hW⟩:=h2
  subst e
  refine WT (QD:=fun H'=>DD.nx (σ.set i (some (.ref s2.heap.objs.size))) H') (PP:=fun acc C=>compPost (model X.prog X.w) X.A X.xe (some (assign (.Name y py) X.env)) (fun _ s'=>SP X pins DD .next s') acc C) S hc ht he hcl hcl2 I2 T st2 f2 hvs (hW s2.heap.objs.size I2.fresh) fun C hCC {σ' H' s'} J q=>?_
  have hD:H2 s2.heap.objs.size=none:=I2.fresh
  have nC:∀ b o,s2.heap.get? b=some o→b≠C:=fun b o e=>by
    have e1:(s2.heap.push { cls:=.type "list",data:=.seq ([]:List Value).toArray }).get? b=some o:=Heap.get?_push_of_some _ e
    rw [←hCC];exact Nat.ne_of_lt (Heap.lt_size e1)
  have u:Un (frs X.stack) fp H2 H' s2.heap s'.heap:=(Un.laid (fun b u e=>Heap.get?_push_of_some _ e) (Nat.le_refl _) hD).trans J.base
  have hos:s'.os=s2.os:=J.os
  have IX:Inv X pins σ H' s':=I2.call' (ch:=fp) hos u J.hok J.bare fun b hb=>⟨(f2 b hb).2.2.2.1,(f2 b hb).2.1,(f2 b hb).2.2.2.2.1,(f2 b hb).2.2.2.2.2⟩
  have hLC:X.env.locals≠C:=by
    obtain ⟨m,⟨o,_,_,ho,_⟩,_⟩:=I2.loc
    exact nC _ o ho
  have hcC:∀ y c,X.env.cells.lookup y=some c→c≠C:=fun y c e=>by
    obtain ⟨v,o,ho,_⟩:=I2.cell y c e
    exact nC _ o ho
  show wpAny _ X.A (assign (.Name y py) X.env (.ref s2.heap.objs.size)) _ _ _
  refine wpAny_assign_Name (Q5 IX hN hyi (.inl hy) (v:=.ref s2.heap.objs.size) rfl (fun s'' I'' ⟨a,hs2,ha⟩=>?_) (.inr hy))
  obtain ⟨m,hn,_⟩:=id J.loc
  have haC:C≠a:=by
    rcases ha with z | z
    · rw [z];exact Ne.symm hLC
    · exact Ne.symm (hcC y a z)
  refine ⟨m,hn.sameBut hs2 haC,fun h' hs'=>⟨_,H',?_,q⟩⟩
  refine I''.turned (t':=s''.toks) (it:=C) (fun b o hb e=>(hs'.2 b hb).trans e) J.free (Ne.symm hLC) (.inr ?_) hcC (fun p hp z=>?_)
  · rw [←hCC]
    exact Nat.le_trans I2.sz (by rw [Heap.size_push];exact Nat.le_succ _)
  · obtain ⟨e,_⟩:=I2.pin p hp
    exact nC _ _ e z
theorem JL {sl:List Nat} {ti:DTI} {dt:DTT} {de:DTE} (mi:∀ {ρ Q Q'},(∀ d,Q d→Q' d)→ti ρ Q→ti ρ Q'):∀ {ρ Q Q'},(∀ d,Q d→Q' d)→HY sl ti dt de ρ Q→HY sl ti dt de ρ Q' :=
  fun hq h=>mi (fun items ⟨h1,h2,W,w0,st,fin⟩=>⟨h1,h2,W,w0,st,fun acc l w=>hq _ (fin acc l w)⟩) h
noncomputable def Yh (i:Nat) (sl:List Nat) (ti:DTI) (tt:DTT) (te:DTE):DTS:=fun D ρ=>HY sl ti tt te ρ fun d=>D.nx (ρ.set i (some (.is d)))
theorem AaL {ti:DTI} {dt:DTT} {de:DTE} {y:Str} {py spos:Pos} (i:Nat) (S:Ea X scope x N sl) (hc:X.calm=true) (hN:X.N.Nodup) (hyi:X.N[i]? = some y) (hy:X.env.scope.names.lookup y=some .local) (hi:DI X (.Name x px) iter ti)
    (ht:∀ cl C s₀ H₀ ex,DTs (Bl X scope (x :: N) cl C s₀ H₀ ex) ifs dt) (he:∀ cl C s₀ H₀ ex,DE (Bl X scope (x :: N) cl C s₀ H₀ ex) elt de)
    (hsw:swapsWith (.ListComp elt [⟨.Name x px,iter,ifs,0⟩] scope pos) (some (.Name y py)) spos.line X.env=pure true) (hs:∀ x,foldedSetIterable iter X.env x=pure x:=by intro _;rfl) :
    DS X (.Assign [.Name y py] (.ListComp elt [⟨.Name x px,iter,ifs,0⟩] scope pos) spos) (Yh i sl ti dt de) where
  mono:=fun hd h=>JL (ti:=ti) hi.mono (fun d q=>hd.nx _ q) h
  ps:=(XS (tt:=lT X.K dt) (te:=lE X.K de) S hc hN hyi hy hi.pi (fun cl C s₀ H₀ ex=>(ht cl C s₀ H₀ ex).pts) (fun cl C s₀ H₀ ex=>(he cl C s₀ H₀ ex).pe) hsw hs).imp fun D σ H ⟨B,F,O,ρ,R,h⟩ =>
    Uk (ti:=ti) (dt:=dt) (de:=de) hi.mono (ht [] 0 X.s₀ X.H₀ []).mono (he [] 0 X.s₀ X.H₀ []).mono σ H _ ⟨B,F,O,ρ,R,JL (ti:=ti) hi.mono (fun d q v H' s r=>q O _ H' ((R.same s).set i r)) h⟩
theorem Adb {ti:DTI} {de:DTE} {y:Str} {py spos:Pos} (i:Nat) (hN:X.N.Nodup) (S:Ea X scope x N sl) (hc:X.calm=true) (hi:DI X (.Name x px) iter ti) (he:∀ cl C s₀ H₀ ex,DE (Bl X scope (x :: N) cl C s₀ H₀ ex) elt de)
    (hyi:X.N[i]? = some y:=by rfl) (hy:X.env.scope.names.lookup y=some .local:=by rfl) (hsw:swapsWith (.ListComp elt [⟨.Name x px,iter,[],0⟩] scope pos) (some (.Name y py)) spos.line X.env=pure true:=by rfl) (hs:∀ x,foldedSetIterable iter X.env x=pure x:=by intro _;rfl) :
    DS X (.Assign [.Name y py] (.ListComp elt [⟨.Name x px,iter,[],0⟩] scope pos) spos) (Yh i sl ti LQ de):=AaL i S hc hN hyi hy hi (fun _ _ _ _ _=>Tn) he hsw hs
end
section
variable {prog:Program} {w:World} {A:Around} {E:Value→Shared→Prop} {s:Shared}
end
section
variable {X:Cx} {es:List Expr} {pos:Pos}
noncomputable def AiH (n:Nat) (gs:SJ):DTG:=fun d ρ Q=>match d with
  | .lst ds=>ds.length=n∧gs ds ρ Q
  | _=>False
end
end L2
namespace L2
end L2
namespace L2
theorem R8 {n:Nat} {x:PySem.Str}:Dt.flat n (.str x)=(PySem.PyData.str x).canLay0:=by cases n <;> rw [Dt.flat]
end L2
namespace L2
open PySem PySem.Spec PyProof.Rows PySem.SeqAt
section
variable {X:Cx} {pins:List (Addr × Obj)} {σ:St} {H:Hp} {s:Shared} {h':Heap} {a dx C U f fI:Addr} {φ ψ:Heap→Prop}
end
end L2
namespace L2
open PySem PySem.Spec PyProof.Rows PySem.SeqAt
structure Afn where
  d:Gv
  ex:BZ→Dt→Prop
noncomputable abbrev Kv:=Afn→BZ→Prop
noncomputable abbrev U8:=BZ→(Dt→Prop)→(Dt→Prop)→Prop
section
variable {X:Cx} {a b c e:Expr} {es:List Expr} {st:Stmt} {sts sa sb:List Stmt} {t u:Kv} {ts us:DTS} {te:U8} {tA:DTT} {tl:DTA} {pos:Pos}
noncomputable def AgA (t:DTS):Kv:=fun D ρ=>t D.d ρ
noncomputable def AfH:Kv:=fun D ρ=>D.d.nx ρ
noncomputable def Ai8 (t u:Kv):Kv:=fun D ρ=>t ⟨{ D.d with nx:=u D },D.ex⟩ ρ
noncomputable def AkA (c:DTT) (t u:Kv):Kv:=fun D ρ=>c ρ fun k=>if k=true then t D ρ else u D ρ
noncomputable def Af2 (te:U8):Kv:=fun D ρ=>te ρ (fun _=>D.d.nx ρ) (D.ex ρ)
noncomputable def Ai1 (te:U8):Kv:=fun D ρ=>te ρ D.d.rt (D.ex ρ)
noncomputable def AiC (te:U8) (g:DTG):Kv:=fun D ρ=>te ρ (fun d=>g d ρ D.d.nx) (D.ex ρ)
noncomputable abbrev AlG:=List Dt→(Dt→Prop)→(Dt→Prop)→Prop
noncomputable def Af5 (sp:AlG) (tl:DTA):U8:=fun ρ Q E=>tl ρ fun ds=>sp ds Q E
noncomputable def Ae0 (c:Str) (ns:List Str) (tl:DTA):Kv:=fun D ρ=>tl ρ fun ds=>ds.length=ns.length∧ds.length≤1000∧D.ex ρ (.exc c ns ds)
end
section
variable {P:Program} {w:World} {K:PySem.W.Frag} {mg:Str→Option Value} {base:Heap}
end
end L2
namespace L2
open PySem PySem.Spec PyProof.Rows PySem.SeqAt
section
variable {X:Cx} {pins:List (Addr × Obj)} {σ:St} {H:Hp} {s:Shared}
end
noncomputable def Under (K:PySem.W.Frag) (mg:Str→Option Value) (c T:Str):Prop:=∀ C U,PySem.W.nsIn K mainGlobals c=some (some (.ref C))→XC K C U→mg T=some (.ref U)
section
variable {X:Cx} {tb:Kv} {ts:DTS} {pos tp hp:Pos} {T n:Str} {U:Addr} {body suite:List Stmt} {b₀:Stmt}
noncomputable def Abv (K:PySem.W.Frag) (mg:Str→Option Value) (T:Str) (j:Nat) (ts:DTS) (D:Gv) (ρ:BZ) (x:Dt):Prop:=match x with
  | .exc c ns ds=>Under K mg c T∧ts { nx:=fun ρ2=>D.nx (ρ2.set j none),rt:=fun _=>False } (ρ.set j (some (.is (.exc c ns ds))))
  | _=>False
noncomputable def Ak2 (K:PySem.W.Frag) (mg:Str→Option Value) (T:Str) (j:Nat) (tb:Kv) (ts:DTS):Kv:=fun D ρ=>tb ⟨D.d,Abv K mg T j ts D.d⟩ ρ
end
end L2
namespace L2
open PySem PySem.Spec PyProof.Rows PySem.SeqAt
noncomputable def AhR (K:PySem.W.Frag) (c:Str) (A:Addr) (b:Bool):Prop:=∀ C,PySem.W.nsIn K mainGlobals c=some (some (.ref C))→PySem.W.kitOne K (.ref C) (.ref A)=some b
noncomputable def Ajk (K:PySem.W.Frag) (c:Str) (As:List Addr) (b:Bool):Prop:=∀ C,PySem.W.nsIn K mainGlobals c=some (some (.ref C))→PySem.W.kitAny K (.ref C) (As.map .ref)=some b
noncomputable def Qf (K:PySem.W.Frag) (c f:Str):Prop:=∀ C,PySem.W.nsIn K mainGlobals c=some (some (.ref C))→PySem.W.findIn K (.ref C) f=some none
section
variable {X:Cx} {a b c e:Expr} {es:List Expr} {ta tb te:DTE} {tl:DTA} {pos:Pos}
noncomputable def Ald (K:PySem.W.Frag):DL:=fun ds Q=>match ds with
  | [.exc c _ _,.fn A]=>∃ v,AhR K c A v∧Q (.bl v)
  | _=>False
noncomputable def AgW (K:PySem.W.Frag):DL:=fun ds Q=>match ds with
  | [.exc c _ _,.tup es]=>∃ As v,es=As.map .fn∧Ajk K c As v∧Q (.bl v)
  | _=>False
noncomputable def AmP (ta:DTE):DTE:=fun ρ Q=>ta ρ fun d=>match d with
  | .exc _ _ _=>Q (.bl true)
  | _=>False
theorem zip_get {K:PySem.W.Frag} {H:Hp} {f:Str} {d:Dt}:∀ {ns:List Str} {ds:List Dt} {vs:List V},RpL K H ds vs→(ns.zip ds).lookup f=some d→∃ v,(ns.zip vs).lookup f=some v∧Rp K H d v
  | [],_,_,_,h=>by simp at h
  | _ :: _,[],_,_,h=>by simp at h
  | n :: ns,x :: ds,_,r,h=>by
    obtain ⟨v,vr,rfl,r1,r2⟩:=Ax.mp r
    rw [List.zip_cons_cons] at h ⊢
    by_cases q:f=n
    · have hb:(f == n)=true:=beq_iff_eq.mpr q
      simp only [List.lookup,hb] at h ⊢
      cases h;exact ⟨v,rfl,r1⟩
    · have hb:(f == n)=false:=beq_eq_false_iff_ne.mpr q
      simp only [List.lookup,hb] at h ⊢
      exact zip_get r2 h
noncomputable def AgH (K:PySem.W.Frag) (te:DTE) (f:Str):DTE:=fun ρ Q=>te ρ fun d=>match d with
  | .exc c ns ds=>Qf K c f∧∃ v,(ns.zip ds).lookup f=some v∧Q v
  | _=>False
noncomputable def AjZ (t:Kv):DTS:=fun D ρ=>t ⟨D,fun _ _=>False⟩ ρ
end
end L2
namespace L2
open PySem PySem.Spec PyProof.Rows PySem.SeqAt
section
variable {K:PySem.W.Frag} {mg:Str→Option Value} {c T f:Str} {C U A:Addr} {cd:ClassData}
end
end L2
namespace L2
open PySem PySem.Spec PyProof.Rows PySem.SeqAt
theorem Ip {O:List Addr} {H:Hp} {a:Addr} {o:HO} (h:a∈O):mask O (upd H a o)=mask O H:=by
  funext b
  by_cases q:b∈O
  · rw [Dq q,Dq q]
  · rw [Bb q,Bb q,Aw (a:=a) (fun z=>q (by rw [z];exact h))]
theorem Ve {F O:List Addr} {H:Hp} {p:Addr} {o:HO} (h:H p=none):mask (F ++ (p :: O)) (upd H p o)=mask (F ++ O) H:=by
  funext b
  by_cases e:b=p
  · subst e
    rw [Dq (List.mem_append_right _ List.mem_cons_self)]
    by_cases q:b∈F ++ O
    · rw [Dq q]
    · rw [Bb q,h]
  · by_cases q:b∈F ++ O
    · rw [Dq q,Dq]
      rcases List.mem_append.mp q with q | q
      · exact List.mem_append_left _ q
      · exact List.mem_append_right _ (List.mem_cons_of_mem _ q)
    · rw [Bb q,Bb,Aw e]
      intro z
      rcases List.mem_append.mp z with z | z
      · exact q (List.mem_append_left _ z)
      · rcases List.mem_cons.mp z with z | z
        · exact e z
        · exact q (List.mem_append_right _ z)
section
variable {K:PySem.W.Frag} {B:Hp} {F O:List Addr} {H:Hp} {σ:St} {ρ:BZ}
theorem Rep.newOwn (r:Rep K B F O H σ ρ) (i:Nat) {p:Addr} {ds:List Dt} {xs:List V} (hp:H p=none) (h:RpL K (mask (F ++ O) H) ds xs):Rep K B F (p :: O) (upd H p (.lst xs)) (σ.set i (some (.ref p))) (ρ.set i (some (.own ds))):=by
  have hl:=r.len
  have nF:p∉F:=fun z=>r.th p (List.mem_append_left _ z) hp
  have nO:p∉O:=fun z=>r.th p (List.mem_append_right _ z) hp
  have em:=Ve (F:=F) (O:=O) (o:=.lst xs) hp
  refine ⟨by simpa using hl,r.base.trans (Same.upd hp),fun a h=>?_,fun a h e=>?_,fun j d q=>?_,fun j es q=>?_,fun j k es es' a h1 h2 h3 h4=>?_,fun j ks q=>?_,fun j k es es' a h1 h2 h3 h4=>?_⟩
  · rcases List.mem_cons.mp h with rfl | h
    · cases q:B a with
      | none=>rfl
      | some o=>rw [r.base a o q] at hp;cases hp
    · exact r.fr a h
  · by_cases z:a=p
    · rw [z,Bh] at e;cases e
    · rw [Aw z] at e
      refine r.th a ?_ e
      rcases List.mem_append.mp h with h | h
      · exact List.mem_append_left _ h
      · exact List.mem_append_right _ ((List.mem_cons.mp h).resolve_left z)
  · by_cases hj:j=i
    · subst hj
      by_cases hk:j < ρ.length
      · rw [List.getElem?_set_self hk] at q;cases q
      · rw [List.getElem?_eq_none (by simpa using hk)] at q;cases q
    · rw [List.getElem?_set_ne (Ne.symm hj)] at q ⊢
      rw [em];exact r.is j d q
  · by_cases hj:j=i
    · subst hj
      by_cases hk:j < ρ.length
      · rw [List.getElem?_set_self hk] at q;cases q
        exact ⟨p,xs,List.getElem?_set_self (by omega),List.mem_cons_self,nF,Bh,by rw [em];exact h⟩
      · rw [List.getElem?_eq_none (by simpa using hk)] at q;cases q
    · rw [List.getElem?_set_ne (Ne.symm hj)] at q ⊢
      obtain ⟨a,ys,h1,h2,h3,h4,h5⟩:=r.own j es q
      exact ⟨a,ys,h1,List.mem_cons_of_mem _ h2,h3,by rw [Aw (a:=p) (fun z=>nO (by rw [←z];exact h2))];exact h4,by rw [em];exact h5⟩
  · have other:∀ (m:Nat) es,m≠i→(ρ.set i (some (.own ds)))[m]? = some (some (.own es))→(σ.set i (some (.ref p)))[m]? = some (some (.ref p))→False:=fun m es hm q1 q2=>by
      rw [List.getElem?_set_ne (Ne.symm hm)] at q1 q2
      obtain ⟨b,_,e1,e2,_⟩:=r.own m es q1
      rw [e1] at q2
      cases q2
      exact nO e2
    by_cases hj:j=i
    · by_cases hk:k=i
      · rw [hj,hk]
      · subst hj
        have:a=p:=by
          rw [List.getElem?_set_self (by
            have:=(List.getElem?_eq_some_iff.mp h1).1
            simp at this;omega)] at h3
          cases h3;rfl
        subst this
        exact (other k es' hk h2 h4).elim
    · by_cases hk:k=i
      · subst hk
        have:a=p:=by
          rw [List.getElem?_set_self (by
            have:=(List.getElem?_eq_some_iff.mp h2).1
            simp at this;omega)] at h4
          cases h4;rfl
        subst this
        exact (other j es hj h1 h3).elim
      · rw [List.getElem?_set_ne (Ne.symm hj)] at h1 h3
        rw [List.getElem?_set_ne (Ne.symm hk)] at h2 h4
        exact r.inj j k es es' a h1 h2 h3 h4
  · have hj:j≠i:=fun z=>by
      subst z
      by_cases hk:j < ρ.length
      · rw [List.getElem?_set_self hk] at q;cases q
      · rw [List.getElem?_eq_none (by simpa using hk)] at q;cases q
    rw [List.getElem?_set_ne (Ne.symm hj)] at q ⊢
    obtain ⟨a,ys,h1,h2,h3,h4,h5⟩:=r.tab j ks q
    exact ⟨a,ys,h1,List.mem_cons_of_mem _ h2,h3,by rw [Aw (a:=p) (fun z=>nO (by rw [←z];exact h2))];exact h4,by rw [em];exact h5⟩
  · have back:∀ (m:Nat) ks,(ρ.set i (some (.own ds)))[m]? = some (some (.tab ks))→m≠i∧ρ[m]? = some (some (.tab ks)):=fun m ks q=>by
      have hm:m≠i:=fun z=>by
        subst z
        by_cases hk:m < ρ.length
        · rw [List.getElem?_set_self hk] at q;cases q
        · rw [List.getElem?_eq_none (by simpa using hk)] at q;cases q
      rw [List.getElem?_set_ne (Ne.symm hm)] at q;exact ⟨hm,q⟩
    obtain ⟨n1,q1⟩:=back j _ h1
    obtain ⟨n2,q2⟩:=back k _ h2
    rw [List.getElem?_set_ne (Ne.symm n1)] at h3
    rw [List.getElem?_set_ne (Ne.symm n2)] at h4
    exact r.tinj j k es es' a q1 q2 h3 h4
theorem Rep.putOwn (r:Rep K B F O H σ ρ) {i:Nat} {a:Addr} {ds es:List Dt} {xs ys:List V} (hi:ρ[i]? = some (some (.own ds))) (hs:σ[i]? = some (some (.ref a))) (ha:a∈O) (hH:H a=some (.lst xs)) (h:RpL K (mask (F ++ O) H) es ys) :
    Rep K B F O (upd H a (.lst ys)) σ (ρ.set i (some (.own es))):=by
  have em:mask (F ++ O) (upd H a (.lst ys))=mask (F ++ O) H:=Ip (List.mem_append_right _ ha)
  have hk:i < ρ.length:=(List.getElem?_eq_some_iff.mp hi).1
  refine ⟨by simpa using r.len,fun b o e=>?_,r.fr,fun b hb e=>?_,fun j d q=>?_,fun j ks q=>?_,fun j k es' es'' b h1 h2 h3 h4=>?_,fun j ks q=>?_,fun j k es' es'' b h1 h2 h3 h4=>?_⟩
  · rw [Aw fun z=>by rw [z,r.fr a ha] at e;cases e];exact r.base b o e
  · by_cases z:b=a
    · rw [z,Bh] at e;cases e
    · rw [Aw z] at e;exact r.th b hb e
  · have hj:j≠i:=fun z=>by subst z;rw [List.getElem?_set_self hk] at q;cases q
    rw [List.getElem?_set_ne (Ne.symm hj)] at q
    rw [em];exact r.is j d q
  · by_cases hj:j=i
    · subst hj
      rw [List.getElem?_set_self hk] at q;cases q
      obtain ⟨b,_,e1,e2,e3,_⟩:=r.own j ds hi
      rw [hs] at e1;cases e1
      exact ⟨a,ys,hs,ha,e3,Bh,by rw [em];exact h⟩
    · rw [List.getElem?_set_ne (Ne.symm hj)] at q
      obtain ⟨b,zs,e1,e2,e3,e4,e5⟩:=r.own j ks q
      have nb:b≠a:=fun z=>by subst z;exact hj (r.inj j i ks ds b q hi e1 hs)
      exact ⟨b,zs,e1,e2,e3,by rw [Aw nb];exact e4,by rw [em];exact e5⟩
  · have back:∀ (m:Nat) ks,(ρ.set i (some (.own es)))[m]? = some (some (.own ks))→∃ ks',ρ[m]? = some (some (.own ks')):=fun m ks q=>by
      by_cases hm:m=i
      · subst hm;exact ⟨ds,hi⟩
      · rw [List.getElem?_set_ne (Ne.symm hm)] at q;exact ⟨ks,q⟩
    obtain ⟨_,q1⟩:=back j es' h1
    obtain ⟨_,q2⟩:=back k es'' h2
    exact r.inj j k _ _ b q1 q2 h3 h4
  · have hj:j≠i:=fun z=>by subst z;rw [List.getElem?_set_self hk] at q;cases q
    rw [List.getElem?_set_ne (Ne.symm hj)] at q
    obtain ⟨b,zs,e1,e2,e3,e4,e5⟩:=r.tab j ks q
    have nb:b≠a:=fun z=>by rw [z,hH] at e4;cases e4
    exact ⟨b,zs,e1,e2,e3,by rw [Aw nb];exact e4,by rw [em];exact e5⟩
  · have back:∀ (m:Nat) ks,(ρ.set i (some (.own es)))[m]? = some (some (.tab ks))→ρ[m]? = some (some (.tab ks)):=fun m ks q=>by
      have hm:m≠i:=fun z=>by subst z;rw [List.getElem?_set_self hk] at q;cases q
      rw [List.getElem?_set_ne (Ne.symm hm)] at q;exact q
    exact r.tinj j k _ _ b (back j _ h1) (back k _ h2) h3 h4
theorem Rep.freeze (r:Rep K B F O H σ ρ) {i:Nat} {ds:List Dt} (hi:ρ[i]? = some (some (.own ds))):∃ O',Rep K B F O' H σ (ρ.set i (some (.is (.lst ds)))):=by
  obtain ⟨a,xs,h1,h2,h3,h4,h5⟩:=r.own i ds hi
  have hk:i < ρ.length:=(List.getElem?_eq_some_iff.mp hi).1
  have sub:∀ b∈F ++ O.filter (fun b=>decide (b≠a)),b∈F ++ O:=fun b hb=>by
    rcases List.mem_append.mp hb with hb | hb
    · exact List.mem_append_left _ hb
    · exact List.mem_append_right _ (List.mem_filter.mp hb).1
  have na:a∉F ++ O.filter (fun b=>decide (b≠a)):=fun z=>by
    rcases List.mem_append.mp z with z | z
    · exact h3 z
    · exact of_decide_eq_true (List.mem_filter.mp z).2 rfl
  refine ⟨O.filter fun b=>decide (b≠a),by simpa using r.len,r.base,fun b hb=>r.fr b (List.mem_filter.mp hb).1,fun b hb=>r.th b (sub b hb),fun j d q=>?_,fun j es q=>?_,fun j k es es' b q1 q2 q3 q4=>?_,fun j ks q=>?_,fun j k es es' b q1 q2 q3 q4=>?_⟩
  · by_cases hj:j=i
    · subst hj
      rw [List.getElem?_set_self hk] at q;cases q
      exact ⟨.ref a,h1,JM ⟨a,xs,rfl,(by rw [Bb na];exact h4),h5.mono (Gp sub)⟩⟩
    · rw [List.getElem?_set_ne (Ne.symm hj)] at q
      obtain ⟨v,e1,e2⟩:=r.is j d q
      exact ⟨v,e1,e2.mono (Gp sub)⟩
  · have hj:j≠i:=fun z=>by subst z;rw [List.getElem?_set_self hk] at q;cases q
    rw [List.getElem?_set_ne (Ne.symm hj)] at q
    obtain ⟨b,ys,e1,e2,e3,e4,e5⟩:=r.own j es q
    have nb:b≠a:=fun z=>by subst z;exact hj (r.inj j i es ds b q hi e1 h1)
    exact ⟨b,ys,e1,List.mem_filter.mpr ⟨e2,decide_eq_true nb⟩,e3,e4,e5.mono (Gp sub)⟩
  · have nj:∀ (m:Nat) ks,(ρ.set i (some (.is (.lst ds))))[m]? = some (some (.own ks))→ρ[m]? = some (some (.own ks)):=fun m ks q=>by
      have hm:m≠i:=fun z=>by subst z;rw [List.getElem?_set_self hk] at q;cases q
      rw [List.getElem?_set_ne (Ne.symm hm)] at q;exact q
    exact r.inj j k es es' b (nj j es q1) (nj k es' q2) q3 q4
  · have hj:j≠i:=fun z=>by subst z;rw [List.getElem?_set_self hk] at q;cases q
    rw [List.getElem?_set_ne (Ne.symm hj)] at q
    obtain ⟨b,ys,e1,e2,e3,e4,e5⟩:=r.tab j ks q
    have nb:b≠a:=fun z=>by rw [z,h4] at e4;cases e4
    exact ⟨b,ys,e1,List.mem_filter.mpr ⟨e2,decide_eq_true nb⟩,e3,e4,e5.mono (Gp sub)⟩
  · have nj:∀ (m:Nat) ks,(ρ.set i (some (.is (.lst ds))))[m]? = some (some (.tab ks))→ρ[m]? = some (some (.tab ks)):=fun m ks q=>by
      have hm:m≠i:=fun z=>by subst z;rw [List.getElem?_set_self hk] at q;cases q
      rw [List.getElem?_set_ne (Ne.symm hm)] at q;exact q
    exact r.tinj j k es es' b (nj j es q1) (nj k es' q2) q3 q4
end
section
variable {X:Cx} {a b c e:Expr} {es:List Expr} {st:Stmt} {ta tb te:DTE} {tl:DTA} {t:DTS} {pos:Pos}
noncomputable def AhB (i:Nat) (tl:DTA):DTS:=fun D ρ=>tl ρ fun ds=>ds.length≤sizeLine∧D.nx (ρ.set i (some (.own ds)))
theorem Wk (i:Nat) {x:Str} {pos' lp:Pos} (hN:X.N.Nodup) (ha:DA X es tl) (hi:X.N[i]? = some x:=by rfl) (hx:Loc X.env.scope x:=by first | exact Or.inl rfl | exact Or.inr rfl) (hs:swapsWith (.List es lp) (some (.Name x pos')) pos.line X.env=pure false:=by rfl)
    (hf:X.fn x=true∨X.env.scope.names.lookup x=some .local:=by first | exact .inl rfl | exact .inr rfl | assumption):DS X (.Assign [.Name x pos'] (.List es lp) pos) (AhB i tl) where
  mono:=fun hd h=>ha.mono (fun ds ⟨h1,h2⟩=>⟨h1,hd.nx _ h2⟩) h
  ps:=(V8 hN hi hx (Z9 ha.pa) hs hf).imp fun D σ H ⟨B,F,O,ρ,R,h⟩=>⟨B,F,O,ρ,R,ha.mono (fun ds ⟨h1,h2⟩ vs H1 s1 r1=>⟨by rw [r1.len];exact h1,fun p hp=>h2 (p :: O) _ _ ((R.same s1).newOwn i hp r1)⟩) h⟩
noncomputable def ownAt (ρ:BZ) (j:Nat) (k:List Dt→Prop):Prop:=match ρ[j]? with
  | some (some (.own ds))=>k ds
  | _=>False
theorem ownAt.mono {ρ:BZ} {j:Nat} {k k':List Dt→Prop} (hk:∀ ds,k ds→k' ds) (h:ownAt ρ j k):ownAt ρ j k':=by
  unfold ownAt at h ⊢
  split at h
  · exact hk _ h
  · exact h.elim
theorem ownAt.get {ρ:BZ} {j:Nat} {k:List Dt→Prop} (h:ownAt ρ j k):∃ ds,ρ[j]? = some (some (.own ds))∧k ds:=by
  unfold ownAt at h
  split at h
  · rename_i ds e;exact ⟨ds,e,h⟩
  · exact h.elim
noncomputable def Ak1 (j:Nat) (tb:DTE):DTE:=fun ρ Q=>ownAt ρ j fun ds=>tb ρ fun k=>match k with
  | .int i=>match ixL i ds with
    | some v=>Q v
    | none=>False
  | _=>False
noncomputable def AiR (j:Nat) (te tb:DTE):DTS:=fun D ρ=>te ρ fun d=>ownAt ρ j fun ds=>tb ρ fun k=>match k with
  | .int i=>(0≤i∧i < ds.length)∧D.nx (ρ.set j (some (.own (ds.set i.toNat d))))
  | _=>False
noncomputable def Aea (j:Nat) (te:DTE):DTS:=fun D ρ=>ownAt ρ j fun ds=>te ρ fun d=>ds.length < sizeLine∧D.nx (ρ.set j (some (.own (ds ++ [d]))))
theorem S6 (j:Nat) {x:Str} {px ap cp:Pos} (he:DE X e te) (hN:X.N[j]? = some x:=by rfl) (hv:Vis X.env.scope x:=by first | exact Or.inl rfl | exact Or.inr (Or.inl rfl) | exact Or.inr (Or.inr rfl)) (hd:(x == ("__debug__":Str))=false:=by decide)
    (hcd:(x == ("__classdict__":Str))=false:=by decide) (hbase:attributeBase (.Name x px) "append" X.env (eval (.Name x px) X.env)=eval (.Name x px) X.env:=by rfl)
    (hfew:((backTo cp (starEach [e] X.env)).all (fun x=>!x.1) && (backToKw cp (keywordEach [] X.env)).all (fun x=>x.1.isSome) && decide ([e].length+([]:List Keyword).length+(if ([]:List Keyword).isEmpty then 0 else 1) < 30))=true:=by rfl)
    (hline:(ap.endLine == cp.line)=true:=by rfl) (hst:starEach [e] X.env=(false,eval e X.env) :: starEach [] X.env:=by rfl) (hplain:(backTo cp (starEach [] X.env)).any (·.1)=false:=by rfl)
    (hs:swapsWith (.Call (.Attribute (.Name x px) "append" ap) [e] [] cp) none pos.line X.env=pure false:=by rfl):DS X (.Expr (.Call (.Attribute (.Name x px) "append" ap) [e] [] cp) pos) (Aea j te) where
  mono:=fun hd h=>h.mono fun ds h=>he.mono (fun d h=>⟨h.1,hd.nx _ h.2⟩) h
  ps:=(RW (AeA PySem.F.plainAttrs_list PySem.F.slot_list_append PySem.F.type_list_append Mf (Hy hN hv hd hcd) (JF he.pe S7 hst) hbase hfew hline hst hplain) hs).imp fun D σ H ⟨B,F,O,ρ,R,h⟩=>by
    obtain ⟨ds,e1,h⟩:=h.get
    obtain ⟨a,xs,h1,h2,h3,h4,h5⟩:=R.own j ds e1
    refine ⟨_,h1,.inl ⟨rfl,_,SqL.of h4⟩,B,F,O,ρ,R,he.mono (fun d h v H1 s1 r1=>?_) h⟩
    exact ⟨a,xs,v,rfl,rfl,s1 _ _ h4,by rw [h5.len];exact h.1,h.2 O σ _ ((R.same s1).putOwn e1 h1 h2 (s1 _ _ h4) ((h5.mono s1.mask).append (.cons r1 .nil)))⟩
noncomputable def Aj2 (j:Nat) (t:DTS):DTS:=fun D ρ=>ownAt ρ j fun ds=>t D (ρ.set j (some (.is (.lst ds))))
theorem WR (j:Nat) (h:DS X st t):DS X st (Aj2 j t) where
  mono:=fun hd z=>z.mono fun ds z=>h.mono hd z
  ps:=h.ps.imp fun D σ H ⟨B,F,O,ρ,R,z⟩=>by
    obtain ⟨ds,e1,z⟩:=z.get
    obtain ⟨O',R'⟩:=R.freeze e1
    exact ⟨B,F,O',_,R',z⟩
noncomputable def AhO (j:Nat):DTE:=fun ρ Q=>ownAt ρ j fun ds=>Q (.int ds.length)
noncomputable def Ais:D2:=fun a b Q=>match a with
  | .tup xs=>match b with
    | .tup ys=>(xs≠[]∧xs.length+ys.length≤sizeLine)∧Q (.tup (xs ++ ys))
    | _=>False
  | _=>False
end
end L2
namespace L2
open PySem PySem.Spec PyProof.Rows
section chain3
variable {X:Cx} {a b c e:Expr} {ta tb tc te:TE} {pos:Pos}
theorem Yl {op op' op2:CmpOp} {r r' r2:R2} (ho:OpR X (compareOp op) r) (ho':OpR X (compareOp op') r') (ho2:OpR X (compareOp op2) r2) (ha:PE X a ta) (hb:PE X b tb) (hc:PE X c tc) (he:PE X e te)
    (hm:lastMarks [op,op',op2] [b,c,e]=false:=by with_unfolding_all rfl):PT X (.Compare a [op,op',op2] [b,c,e] pos) (fun σ H Q=>ta σ H fun x H1=>tb σ H1 fun y H2=>r x y H2 fun z H3=>∃ k,z=.bl k ∧
      (if k=true then tc σ H3 fun w' H4=>r' y w' H4 fun z H5=>∃ k,z=.bl k∧(if k=true then te σ H5 fun y' H6=>r2 w' y' H6 fun z H7=>∃ k,z=.bl k∧Q k H7 else Q false H5) else Q false H3)):=by
  intro pins s σ H Q I h
  refine isTrue_chain (thn (ha pins s σ H _ I h) fun v s1 ⟨x,H1,I1,r1,q1⟩=>test_link (thn (hb pins s1 σ H1 _ I1 q1) fun u s2 ⟨y,H2,I2,r2,q2⟩ =>
    thn (ho pins s2 σ H2 x y v u _ I2 r1 r2 q2) fun d s3 ⟨z,H3,I3,r3,k,e,q3⟩=>?_)) hm
  subst e
  cases r3
  refine wpAny_truthy_bool ?_
  cases k with
  | false=>exact ite_ff ⟨H3,I3,q3⟩
  | true =>
    refine ite_tt (test_link (thn (hc pins s3 σ H3 _ I3 q3) fun w' s4 ⟨z',H4,I4,r4,q4⟩=>thn (ho' pins s4 σ H4 y z' u w' _ I4 r2 r4 q4) fun d' s5 ⟨z2,H5,I5,r5,k2,e2,q5⟩=>?_))
    subst e2
    cases r5
    refine wpAny_truthy_bool ?_
    cases k2 with
    | false=>exact ite_ff ⟨H5,I5,q5⟩
    | true =>
      refine ite_tt (test_last (thn (he pins s5 σ H5 _ I5 q5) fun w2 s6 ⟨z3,H6,I6,r6,q6⟩=>thn (ho2 pins s6 σ H6 z' z3 w' w2 _ I6 r4 r6 q6) fun d' s7 ⟨z4,H7,I7,r7,k3,e3,q7⟩=>?_))
      subst e3
      cases r7
      exact wpAny_truthy_bool ⟨H7,I7,q7⟩
end chain3
noncomputable def X8 (t t' t2:D2) (ta tb tc te:DTE):DTT:=fun ρ Q=>ta ρ fun a=>tb ρ fun b=>t a b fun z=>match z with
  | .bl k=>if k=true then tc ρ fun c=>t' b c fun z=>match z with
    | .bl k=>if k=true then te ρ fun e=>t2 c e fun z=>match z with
      | .bl k=>Q k
      | _=>False
      else Q false
    | _=>False
    else Q false
  | _=>False
section
variable {X:Cx} {a b c e:Expr} {ta tb tc te:DTE} {pos:Pos}
theorem Y0 {op op' op2:CmpOp} {r r' r2:R2} {t t' t2:D2} (ho:OpR X (compareOp op) r) (ho':OpR X (compareOp op') r') (ho2:OpR X (compareOp op2) r2) (S:HN X.K r t) (S':HN X.K r' t') (S2:HN X.K r2 t2) (ha:DE X a ta) (hb:DE X b tb) (hc:DE X c tc) (he:DE X e te)
    (hm:lastMarks [op,op',op2] [b,c,e]=false:=by with_unfolding_all rfl):DT X (.Compare a [op,op',op2] [b,c,e] pos) (X8 t t' t2 ta tb tc te) where
  mono:=fun hq h=>ha.mono (fun _ h=>hb.mono (fun _ h=>S.mono (fun z h=>by
    split at h
    · rename_i k
      cases k with
      | true =>
        refine hc.mono (fun _ h=>S'.mono (fun z h=>?_) h) h
        split at h
        · rename_i k
          cases k with
          | true =>
            refine he.mono (fun _ h=>S2.mono (fun z h=>?_) h) h
            split at h
            · exact hq _ h
            · exact h.elim
          | false=>exact hq _ h
        · exact h.elim
      | false=>exact hq _ h
    · exact h.elim) h) h) h
  pt:=(Yl ho ho' ho2 ha.pe hb.pe hc.pe he.pe hm).imp fun σ H Q ⟨B,F,O,ρ,R,h⟩=>by
    refine ⟨B,F,O,ρ,R,ha.mono (fun a h v H1 s1 r1=>⟨B,F,O,ρ,R.same s1,hb.mono (fun b h u H2 s2 r2=>?_) h⟩) h⟩
    refine S.ok _ H2 a b v u _ ((R.same s1).same s2).th (r1.mono s2.mask) r2 (S.mono (fun z h w H3 s3 r3=>?_) h)
    split at h
    · rename_i k
      refine ⟨k,Cz.mp r3,?_⟩
      have s123:=(s1.trans s2).trans s3
      cases k with
      | false=>exact h H3 s123
      | true =>
        refine ⟨B,F,O,ρ,R.same s123,hc.mono (fun c h y H4 s4 r4=>?_) h⟩
        refine S'.ok _ H4 b c u y _ ((R.same s123).same s4).th ((r2.mono s3.mask).mono s4.mask) r4 (S'.mono (fun z h w H5 s5 r5=>?_) h)
        split at h
        · rename_i k
          refine ⟨k,Cz.mp r5,?_⟩
          have s5':=(s123.trans s4).trans s5
          cases k with
          | false=>exact h H5 s5'
          | true =>
            refine ⟨B,F,O,ρ,R.same s5',he.mono (fun e h y2 H6 s6 r6=>?_) h⟩
            refine S2.ok _ H6 c e y y2 _ ((R.same s5').same s6).th ((r4.mono s5.mask).mono s6.mask) r6 (S2.mono (fun z h w H7 s7 r7=>?_) h)
            split at h
            · exact ⟨_,Cz.mp r7,h H7 ((s5'.trans s6).trans s7)⟩
            · exact h.elim
        · exact h.elim
    · exact h.elim
end
end L2
namespace L2
open PySem PySem.Spec PyProof.Rows PySem.W
end L2
namespace L2
open PySem PySem.Spec PyProof.Rows
variable {X:Cx} {a b:Expr} {ta tb:DTE} {pos:Pos}
theorem Lj {K:PySem.W.Frag} {H:Hp}:∀ {ns:List Int} {xs:List V},RpL K H (ns.map Dt.int) xs→xs=ns.map V.int
  | [],_,h=>by
    obtain rfl:=BR.mp h
    rfl
  | n :: ns,_,h=>by
    obtain ⟨v,r,rfl,r2,r3⟩:=Ax.mp h
    rw [Bj] at r2
    subst r2
    rw [Lj r3]
    rfl
noncomputable def dIn:D2:=fun a b Q=>∃ (i:Int) (ns:List Int),a=.int i∧b=.lst (ns.map Dt.int)∧Q (.bl (decide (i∈ns)))
noncomputable def AiN (i:Nat) (te:DTE):DTS:=fun D ρ=>match ρ[i]? with
  | some (some (.is (.int a)))=>te ρ fun d=>match d with
    | .int b=>D.nx (ρ.set i (some (.is (.int (a+b)))))
    | _=>False
  | _=>False
noncomputable def Ahw (i j k:Nat) (tl:DTA):DTS:=fun D ρ=>tl ρ fun ds=>match ds with
  | [d,e,f]=>D.nx (((ρ.set i (some (.is d))).set j (some (.is e))).set k (some (.is f)))
  | _=>False
theorem MN {ti:DTI} {g:DTG} {tb:DTS} {D:Gv} {ρ:BZ} (h:ti ρ fun items=>AcV (fun _ R=>R items) g tb D ρ):AcV ti g tb D ρ:=h
end L2
namespace L2
open PySem PySem.Spec PyProof.Rows PySem.SeqAt
mutual
noncomputable def Dt.noL:Nat→Dt→Bool
  | _,.non=>true
  | _,.bl _=>true
  | _,.int _=>true
  | _,.str _=>true
  | 0,_=>false
  | n+1,.tup ds=>Dt.noLs n ds
  | _,_=>false
noncomputable def Dt.noLs:Nat→List Dt→Bool
  | _,[]=>true
  | n,d :: ds=>Dt.noL n d && Dt.noLs n ds
end
theorem AfT {n:Nat} {d:Dt} {r:List Dt}:Dt.noLs n (d :: r)=(Dt.noL n d && Dt.noLs n r):=by rw [Dt.noLs]
theorem Ait {n:Nat} {r:List Dt}:Dt.noL (n+1) (.tup r)=Dt.noLs n r:=by rw [Dt.noL]
noncomputable def Keep (M M':Hp):Prop:=∀ b o,M b=some o→(∀ xs,o≠.lst xs)→M' b=some o
mutual
theorem AeY {K:PySem.W.Frag} {M M':Hp} (k:Keep M M'):∀ (n:Nat) (d:Dt) (v:V),d.noL n=true→Rp K M d v→Rp K M' d v
  | _,.non,_,_,r=>by rw [Jj] at r ⊢;exact r
  | _,.bl _,_,_,r=>by rw [Cz] at r ⊢;exact r
  | _,.int _,_,_,r=>by rw [Bj] at r ⊢;exact r
  | _,.str _,_,_,r=>by rw [Mz] at r ⊢;exact r
  | 0,.tup _,_,h,_=>by simp [Dt.noL] at h
  | n+1,.tup ds,_,h,r=>by
    rw [Ait] at h
    obtain ⟨a,xs,e,q,r⟩:=Ck.mp r
    refine Ck.mpr ⟨a,xs,e,?_,Xu k n ds xs h r⟩
    rcases q with (q | ⟨o,q⟩) | q
    · exact .inl (.inl (k _ _ q fun _=>by simp))
    · exact .inl (.inr ⟨o,k _ _ q fun _=>by simp⟩)
    · exact .inr q
  | 0,.lst _,_,h,_=>by simp [Dt.noL] at h
  | _+1,.lst _,_,h,_=>by simp [Dt.noL] at h
  | 0,.fn _,_,h,_=>by simp [Dt.noL] at h
  | _+1,.fn _,_,h,_=>by simp [Dt.noL] at h
  | 0,.exc _ _ _,_,h,_=>by simp [Dt.noL] at h
  | _+1,.exc _ _ _,_,h,_=>by simp [Dt.noL] at h
  | 0,.obj _ _ _,_,h,_=>by simp [Dt.noL] at h
  | _+1,.obj _ _ _,_,h,_=>by simp [Dt.noL] at h
theorem Xu {K:PySem.W.Frag} {M M':Hp} (k:Keep M M'):∀ (n:Nat) (ds:List Dt) (vs:List V),Dt.noLs n ds=true→RpL K M ds vs→RpL K M' ds vs
  | _,[],_,_,r=>by rw [BR] at r ⊢;exact r
  | n,d :: ds,_,h,r=>by
    rw [AfT,Bool.and_eq_true] at h
    obtain ⟨v,w,rfl,r1,r2⟩:=Ax.mp r
    exact Ax.mpr ⟨v,w,rfl,AeY k n d v h.1 r1,Xu k n ds w h.2 r2⟩
end
noncomputable def AiP:Option HO→Bool
  | some (.lst _)=>true
  | _=>false
noncomputable def lists (H:Hp) (n:Nat):List Addr:=(List.range n).filter fun a=>AiP (H a)
section
variable {X:Cx} {a b c e:Expr} {es:List Expr} {st:Stmt} {ta tb te:DTE} {tl:DTA} {tA:DTT} {t:DTS} {pos:Pos}
noncomputable def AeM (i:Nat) (sp:DSp) (tl:DTA):DTS:=fun D ρ=>tl ρ fun ds=>Dt.noLs 4 ds=true∧sp ds fun d=>∃ ks,d=.lst ks∧(∃ r,Dt.tup r∈ks)∧Dt.noLs 4 ks=true∧D.nx (ρ.set i (some (.own ks)))
noncomputable def Afg (j:Nat) (t:DTT):DTT:=fun ρ Q=>ownAt ρ j fun ds=>t (ρ.set j (some (.is (.lst ds)))) Q
noncomputable def AfF (j:Nat):DTE:=fun ρ Q=>ownAt ρ j fun ds=>Q (.lst ds)
end
end L2
namespace L2
open PySem PySem.Spec PyProof.Rows PySem.W PySem.Builtin PySem.Builtin.ObjectAttr
section
variable {prog:Program} {w:World} {A:Around} {E:Value→Shared→Prop} {s:Shared} {K:PySem.W.Frag} {C U x dx:Addr} {name:Str} {v:Value}
end
section
variable {X:Cx} {pins:List (Addr × Obj)} {σ:St} {H:Hp} {s:Shared} {h':Heap} {a dx C U f fI:Addr}
end
end L2
namespace L2
open PySem PySem.Spec PyProof.Rows PySem.SeqAt
noncomputable abbrev Agz:=BZ→(List Dt→Prop)→(Dt→Prop)→Prop
section
variable {X:Cx} {e:Expr} {es:List Expr} {te:U8} {tl:DTA} {tx:Agz} {pos:Pos}
noncomputable def AeO (te:U8) (tl:DTA):Agz:=fun ρ Q E=>te ρ (fun d=>tl ρ fun ds=>Q (d :: ds)) E
noncomputable def Ae5 (sp:DSp) (tx:Agz):U8:=fun ρ Q E=>tx ρ (fun ds=>sp ds Q) E
end
end L2
namespace L2
open PySem PySem.Spec PyProof.Rows
section
variable {prog:Program} {w:World} {A:Around} {I S:Addr} {fp wr:List Addr} {n:Nat} {P:Nat→Value→Prop} {St:Nat→Heap→Prop} {bt:Nat→Nat→Bool} {R:Result→Shared→Prop}
noncomputable def Lk (wr:List Addr) (S:Addr) (h h':Heap):Prop:=∀ b o,b∉wr→b≠S→h.get? b=some o→h'.get? b=some o
noncomputable def Wm (prog:Program) (w:World) (A:Around) (wr:List Addr) (S:Addr) (h:Heap) (P:Nat→Value→Prop) (bt:Nat→Nat→Bool):Prop :=
  ∀ (i j:Nat) (x y:Value) (s:Shared) (Q:Value→Shared→Prop) (E:Value→Shared→Prop),Lk wr S h s.heap→P i x→P j y→Q (.bool (bt i j)) s→wpAny (model prog w) A (richCompare .Lt x y) Q E s
theorem Vy:(toString "min" ++ toString ".loop":String)="min.loop":=by decide
theorem Vz {h0:Heap} (W:Walks prog w A.in1 I fp wr n P St) (less:Wm prog w A.in1 wr S h0 P bt) (off:S∉fp) :
    ∀ (left at':Nat) (s:Shared) (best:Value) (c:Nat),n=at'+1+left→St (at'+1) s.heap→P (argBest bt at') best→Lk wr S h0 s.heap →
      s.heap.get? S=some ⟨.type "list",none,.seq #[best,best] c,#[]⟩ →
      (∀ v h' tk,P (argBest bt (n - 1)) v→Lk wr S s.heap h'→R (.ok (.ret v)) { s with heap:=h',toks:=tk }) →
      codeAny (model prog w) A (.builtin "min.loop" ⟨[.ref I,.none,.ref S],[]⟩) R s:=by
  have off':S∉wr:=fun z=>off (W.sub _ z)
  have nm:=Vy
  intro left
  induction left with
  | zero =>
    intro at' s best c hn st hb hk hS fin
    have e:at'+1=n:=by omega
    refine codeAny_builtin F.entry_min_loop ?_;rw [Around.under_plainId F.plain_min_loop _];show wpAny _ A.in1 (seqItems? (.ref S) >>= _) _ _ s
    refine wpAny_bind (wpAny_seqItems hS rfl ?_);show wpAny _ A.in1 (tryCatch (pyNext (.ref I)) _ >>= _) _ _ s
    refine wpAny_bind (wpAny_tryCatch (W.done s _ _ (e ▸ st) fun h1 tk k1=>?_))
    show wpAny _ A.in1 (updateSeq S (fun _=>#[]) >>= _) _ _ _;refine wpAny_bind (wpAny_updateSeq (k1 S _ off' hS) rfl (wpAny_bind (wpAny_letGo (wpAny_pure ?_))))
    exact fin best _ tk (by rw [←e];exact hb) fun b o nb ns eo=>(Heap.get?_update_other _ _ (Ne.symm ns)).trans (k1 b o nb eo)
  | succ left ih =>
    intro at' s best c hn st hb hk hS fin
    refine codeAny_builtin F.entry_min_loop ?_;rw [Around.under_plainId F.plain_min_loop _];show wpAny _ A.in1 (seqItems? (.ref S) >>= _) _ _ s
    refine wpAny_bind (wpAny_seqItems hS rfl ?_);show wpAny _ A.in1 (tryCatch (pyNext (.ref I)) _ >>= _) _ _ s
    refine wpAny_bind (wpAny_tryCatch (W.item (at'+1) s _ _ (by omega) st fun v h1 tk hv st1 k1=>?_))
    have hS1:=k1 S _ off' hS
    have hk1:Lk wr S h0 h1:=fun b o nb ns eo=>k1 b o nb (hk b o nb ns eo)
    show wpAny _ A.in1 (tryCatch (holding [v,v] (richCompare .Lt v best >>= _)) _ >>= _) _ _ _
    refine wpAny_bind (wpAny_tryCatch (wpAny_holding (wpAny_bind (less (at'+1) (argBest bt at') v best _ _ _ hk1 hv hb ?_))))
    refine wpAny_bind (wpAny_holding (wpAny_truthy_bool ?_));refine wpAny_bind (wpAny_letGo (wpAny_pure ?_))
    cases hbt:bt (at'+1) (argBest bt at') with
    | true =>
      simp only [if_true]
      refine wpAny_bind (wpAny_updateSeq hS1 rfl (wpAny_bind (wpAny_letGo ?_)))
      rw [nm]
      refine wpAny_pure ⟨plainId_quiet F.plain_min_loop _,ih (at'+1) _ v _ (by omega) (W.frame _ _ _ st1 fun b hbf o eo=>(Heap.get?_update_other _ _ (fun z:S=b=>off (z ▸ hbf))).trans eo) (by simp only [argBest,hbt,if_true];exact hv) (fun b o nb ns eo=>(Heap.get?_update_other _ _ (Ne.symm ns)).trans (hk1 b o nb ns eo)) (Heap.get?_update_self _ hS1 rfl) fun v' h2 tk2 hv' k2=>?_⟩
      exact fin v' h2 tk2 hv' fun b o nb ns eo=>k2 b o nb ns ((Heap.get?_update_other _ _ (Ne.symm ns)).trans (k1 b o nb eo))
    | false =>
      simp only [Bool.false_eq_true,if_false]
      refine wpAny_bind (wpAny_letGo ?_)
      rw [nm]
      refine wpAny_pure ⟨plainId_quiet F.plain_min_loop _,ih (at'+1) _ best c (by omega) st1 (by simp only [argBest,hbt,Bool.false_eq_true,if_false];exact hb) hk1 hS1 fun v' h2 tk2 hv' k2=>?_⟩
      exact fin v' h2 tk2 hv' fun b o nb ns eo=>k2 b o nb ns (k1 b o nb eo)
theorem Vr {s:Shared} {c:Nat} (W:Walks prog w A.in1 I fp wr n P St) (less:Wm prog w A.in1 wr S s.heap P bt) (off:S∉fp) (n0:0 < n) (st:St 0 s.heap) (hS:s.heap.get? S=some ⟨.type "list",none,.seq #[] c,#[]⟩)
    (fin:∀ v h' tk,P (argBest bt (n - 1)) v→Lk wr S s.heap h'→R (.ok (.ret v)) { s with heap:=h',toks:=tk }):codeAny (model prog w) A (.builtin "min.loop" ⟨[.ref I,.none,.ref S],[]⟩) R s:=by
  have off':S∉wr:=fun z=>off (W.sub _ z)
  refine codeAny_builtin F.entry_min_loop ?_;rw [Around.under_plainId F.plain_min_loop _];show wpAny _ A.in1 (seqItems? (.ref S) >>= _) _ _ s
  refine wpAny_bind (wpAny_seqItems hS rfl ?_);show wpAny _ A.in1 (tryCatch (pyNext (.ref I)) _ >>= _) _ _ s
  refine wpAny_bind (wpAny_tryCatch (W.item 0 s _ _ n0 st fun v h1 tk hv st1 k1=>?_))
  have hS1:=k1 S _ off' hS
  show wpAny _ A.in1 (updateSeq S (fun _=>#[v,v]) >>= _) _ _ _;refine wpAny_bind (wpAny_updateSeq hS1 rfl ?_);rw [Vy]
  refine wpAny_pure ⟨plainId_quiet F.plain_min_loop _,Vz (h0:=s.heap) W less off (n - 1) 0 _ v _ (by omega) (W.frame _ _ _ st1 fun b hbf o eo=>(Heap.get?_update_other _ _ (fun z:S=b=>off (z ▸ hbf))).trans eo) hv (fun b o nb ns eo=>(Heap.get?_update_other _ _ (Ne.symm ns)).trans (k1 b o nb eo)) (Heap.get?_update_self _ hS1 rfl) fun v' h2 tk2 hv' k2=>?_⟩
  exact fin v' h2 tk2 hv' fun b o nb ns eo=>k2 b o nb ns ((Heap.get?_update_other _ _ (Ne.symm ns)).trans (k1 b o nb eo))
theorem Nj {E:Value→Shared→Prop} {s:Shared} {x:Value} {Q:Value→Shared→Prop}
    (h:wpAny (model prog w) A.in1 (pyIter x) (fun it s2=>∃ I fp wr n P St bt,it=.ref I∧Walks prog w A.in1 I fp wr n P St∧St 0 s2.heap∧(∀ b∈fp,b < s2.heap.objs.size)∧0 < n ∧
      (∀ h1:Heap,(∀ b o,s2.heap.get? b=some o→h1.get? b=some o)→Wm prog w A.in1 wr s2.heap.objs.size h1 P bt) ∧
      ∀ v h' tk,P (argBest bt (n - 1)) v→(∀ b o,b∉wr→s2.heap.get? b=some o→h'.get? b=some o)→Q v { s2 with heap:=h',toks:=tk }) E s) :
    wpAny (model prog w) A (call (.builtin "min") [x]) Q E s:=by
  refine call_function_tree F.kind_min F.plain_min F.entry_min (F.args_min1 _) ?_;show wpAny _ A.in1 (Builtin.Builtins.bindParams "min" ["key","default"] 0 ⟨[],[]⟩ >>= _) _ _ s
  refine wpAny_bind (wpAny_of_eq (show Builtin.Builtins.bindParams "min" ["key","default"] 0 ⟨[],[]⟩=pure [none,none] from rfl) ?_);refine wpAny_bind (wpAny_pure ?_)
  refine wpAny_bind (wpAny_mono h (fun it s2 h2=>?_) fun _ _ z=>z);obtain ⟨I,fp,wr,n,P,St,bt,rfl,W,st,low,n0,less,fin⟩:=h2
  refine wpAny_bind (wpAny_newObj_type ?_);rw [Vy]
  have off:s2.heap.objs.size∉fp:=fun z=>Nat.lt_irrefl _ (low _ z)
  refine wpAny_pure ⟨plainId_quiet F.plain_min_loop _,Vr W (less _ fun b o e=>Heap.get?_push_of_some _ e) off n0 (W.frame _ _ _ st fun b _ o e=>Heap.get?_push_of_some _ e) (Heap.get?_push_size _ rfl) fun v h' tk hv k=>?_⟩
  exact fin v h' tk hv fun b o nb e=>k b o nb (Nat.ne_of_lt (Heap.lt_size e)) (Heap.get?_push_of_some _ e)
end
variable {X:Cx}
noncomputable def Ad3 (K:PySem.W.Frag):List V→Hp→VK→Prop:=fun xs H Q=>∃ p vs,∃ nss:Nat→List Int,xs=[.ref p]∧SqL K H p vs∧0 < vs.length∧(∀ (i:Nat) (v:V),vs[i]? = some v→∃ a,v=.ref a∧SqT K H a ((nss i).map V.int)) ∧
  ∀ v,vs[argBest (fun i j=>HT.lexLt (nss i) (nss j)) (vs.length - 1)]? = some v→Q v H
theorem Vals.at {xs:List V} {us:List Value} (r:Vals xs us):∀ (i:Nat) (u:Value),us[i]? = some u→∃ x,xs[i]? = some x∧RelV x u:=by
  induction r with
  | nil=>intro i u h;cases h
  | cons h t ih =>
    intro i u e
    cases i with
    | zero=>exact ⟨_,rfl,by cases e;exact h⟩
    | succ i=>exact ih i u e
theorem Y6 (hc:X.calm=true) (hu:X.A.in1.units < cLine):J7 X (.builtin "min") (Ad3 X.K):=by
  intro pins s σ H xs us Q I r h
  obtain ⟨p,vs,nss,rfl,hl,ne,each,q⟩:=h
  obtain ⟨u,rfl,r1⟩:=vals1 r
  cases r1
  obtain ⟨its,rv,pl,_⟩:=I.list hl
  have hlen:its.length=vs.length:=rv.length.symm
  have lt:p < s.heap.objs.size:=by obtain ⟨_,e,_⟩:=pl.isList;exact Heap.lt_size e
  refine Nj (wpAny_pyIter_list pl.isList ?_)
  refine ⟨s.heap.objs.size,[s.heap.objs.size,p],[s.heap.objs.size],its.toArray.size,fun i v=>its.toArray[i]? = some v,_,fun i j=>HT.lexLt (nss i) (nss j),rfl,Walks.list (A:=X.A.in1) (I.ok.hd hc) _ p (Nat.ne_of_lt lt) its.toArray,⟨⟨_,Heap.get?_push_size _ rfl,rfl,rfl⟩,pl.isList.push _⟩,?_,?_,?_,?_⟩
  · intro b hb
    show b < (s.heap.push _).objs.size
    rw [Heap.size_push]
    rcases List.mem_cons.mp hb with rfl | hb
    · exact Nat.lt_succ_self _
    · have e:b=p:=by simpa using hb
      rw [e]
      exact Nat.lt_succ_of_lt lt
  · rw [List.size_toArray];omega
  · intro h1 k1 i j x y s' Q' E' kept hx hy q'
    have fact:∀ (i:Nat) (x:Value),its.toArray[i]? = some x→∃ a its2,x=.ref a∧IsTup s'.heap a its2∧IntsAre its2.toList (nss i):=fun i x hx=>by
      obtain ⟨v,e1,r2⟩:=Vals.at rv i x (by simpa using hx)
      obtain ⟨a,rfl,ht⟩:=each i v e1
      cases r2
      obtain ⟨its2,r3,tp,_⟩:=I.tuple ht
      refine ⟨a,its2.toArray,rfl,?_,intsAre_of r3⟩
      have go:∀ o,s.heap.get? a=some o→s'.heap.get? a=some o:=fun o eo=>by
        have la:=Heap.lt_size eo
        refine kept a o (fun z=>?_) (fun z=>?_) (k1 a o (Heap.get?_push_of_some _ eo))
        · have e2:a=s.heap.objs.size:=by simpa using z
          rw [e2] at la
          exact Nat.lt_irrefl _ la
        · have e2:a=(s.heap.push _).objs.size:=z
          rw [Heap.size_push] at e2
          rw [e2] at la
          exact Nat.lt_irrefl _ (Nat.lt_of_succ_lt la)
      obtain ⟨o,eo,rest⟩:=tp
      exact ⟨o,go o eo,rest⟩
    obtain ⟨a,i1,rfl,t1,n1⟩:=fact i x hx
    obtain ⟨b,i2,rfl,t2,n2⟩:=fact j y hy
    exact HT.Kf t1 t2 n1 n2 hu q'
  · intro v h' tk hv k
    obtain ⟨x,e1,r2⟩:=Vals.at rv _ v (by simpa using hv)
    rw [hlen] at e1
    exact ⟨x, H, I.kept fun b o e => k b o (fun z => by have e2 : b = s.heap.objs.size := by simpa using z
                                                        have e3:=Heap.lt_size e
                                                        rw [e2] at e3
                                                        exact Nat.lt_irrefl _ e3) (Heap.get?_push_of_some _ e),r2,q x e1⟩
theorem RpL.at' {K:PySem.W.Frag} {H:Hp}:∀ {ds:List Dt} {vs:List V} (i:Nat) (v:V),RpL K H ds vs→vs[i]? = some v→∃ d,ds[i]? = some d∧Rp K H d v
  | [],vs,i,v,h,e=>by
    obtain rfl:=BR.mp h
    cases e
  | d :: ds,vs,i,v,h,e=>by
    obtain ⟨v',r,rfl,r2,r3⟩:=Ax.mp h
    cases i with
    | zero=>exact ⟨d,rfl,by cases e;exact r2⟩
    | succ i=>exact RpL.at' i v r3 e
theorem RpL.len' {K:PySem.W.Frag} {H:Hp}:∀ {ds:List Dt} {vs:List V},RpL K H ds vs→vs.length=ds.length
  | [],vs,h=>by
    obtain rfl:=BR.mp h
    rfl
  | d :: ds,vs,h=>by
    obtain ⟨v',r,rfl,r2,r3⟩:=Ax.mp h
    rw [List.length_cons,List.length_cons,RpL.len' r3]
noncomputable def Iw (nss:List (List Int)):Nat:=argBest (fun i j=>HT.lexLt (nss.getD i []) (nss.getD j [])) (nss.length - 1)
noncomputable abbrev Cv (ns:List Int):Dt:=.tup (ns.map Dt.int)
noncomputable def Ad6:DL:=fun ds Q=>∃ nss:List (List Int),ds=[.lst (nss.map Cv)]∧0 < nss.length∧Iw nss < nss.length∧Q (Cv (nss.getD (Iw nss) []))
theorem Z4 {K:PySem.W.Frag}:WY K (Ad3 K) Ad6 where
  mono:=fun hq ⟨nss,e,n0,lt,h⟩=>⟨nss,e,n0,lt,hq _ h⟩
  ok:=fun O H ds xs Q _ r ⟨nss,e,n0,lt,h⟩=>by
    subst e
    obtain ⟨x,r',rfl,r2,r3⟩:=Ax.mp r
    obtain rfl:=BR.mp r3
    obtain ⟨p,vs,rfl,hs,hl⟩:=DP r2
    have hs':=(Ba (O:=O) (H:=H)).seq hs
    have hl':=hl.mono (Ba (O:=O) (H:=H))
    have hlen:=RpL.len' hl'
    rw [List.length_map] at hlen
    have row:∀ (i:Nat) (d:Dt),(nss.map Cv)[i]? = some d→d=Cv (nss.getD i []):=fun i d e=>by
      rw [List.getElem?_map] at e
      cases q:nss[i]? with
      | none=>rw [q] at e;cases e
      | some ns =>
        rw [q] at e
        cases e
        have:nss.getD i []=ns:=by simp [List.getD,q]
        rw [this]
    refine ⟨p,vs,fun i=>nss.getD i [],rfl,hs',by omega,fun i v e=>?_,fun v e=>?_⟩
    · obtain ⟨d,e1,r4⟩:=RpL.at' i v hl' e
      rw [row i d e1] at r4
      obtain ⟨a,ys,rfl,ht,hy⟩:=Ck.mp r4
      obtain rfl:=Lj hy
      exact ⟨a,rfl,ht⟩
    · rw [hlen] at e
      obtain ⟨d,e1,r4⟩:=RpL.at' _ v hl e
      rw [row _ d e1] at r4
      exact h v H (Same.refl H) r4
theorem AdF {a:Expr} {tl:DTA} {p pos:Pos} (hm:X.mg "min"=none) (hu:X.A.in1.units < cLine) (ha:DA X [a] tl) (hc:X.calm=true:=by rfl) (hg:Gl X "min":=by rfl) (hv:bootBuiltins "min"=some (.builtin "min"):=by rfl) (he:starEach [a] X.env=(false,eval a X.env) :: starEach [] X.env:=by rfl)
    (hpl:(backTo pos (starEach [] X.env)).any (·.1)=false:=by rfl):DE X (.Call (.Name "min" p) [a] [] pos) (dCB Ad6 tl):=Uj (Y6 hc hu) Z4 hg hm hv ha (he:=he) (hpl:=hpl)
end L2
namespace L2
open PySem PySem.Spec PyProof.Rows
variable {X:Cx}
theorem Vf {h:Heap} {a:Addr} {i1 i2:Array Value} (t1:IsTup h a i1) (t2:IsTup h a i2):i1=i2:=by
  obtain ⟨o,e1,_,n1,d1⟩:=t1
  obtain ⟨o',e2,_,n2,d2⟩:=t2
  rw [e1] at e2
  cases e2
  rw [d1] at d2
  cases d2
  rfl
noncomputable def Ac4 (K:PySem.W.Frag):V→List V→Hp→VK→Prop:=fun x ys H Q=>∃ p vs,∃ nss:Nat→List Int,∃ b ns j,x=.ref p∧ys=[.ref b]∧SqL K H p vs∧SqT K H b (List.map V.int ns)∧(∀ (i:Nat) (v:V),vs[i]? = some v→∃ a,v=.ref a∧SqT K H a ((nss i).map V.int)) ∧
  j < vs.length∧nss j=ns∧(∀ m,m < j→nss m≠ns)∧Q (.int (j:Nat)) H
theorem RL {K:PySem.W.Frag} {H:Hp} {a:Addr} {ns:List Int} (h:SqT K H a (ns.map V.int)):Rp K H (Cv ns) (.ref a):=Ck.mpr ⟨a,_,rfl,h,RpL.ints ns⟩
theorem N5:∀ (ns ms:List Int),Dt.eqs (ns.map Dt.int) (ms.map Dt.int)=decide (ns=ms)
  | [],[]=>by simp [Dt.eqs]
  | [],m :: ms=>by simp [Dt.eqs]
  | n :: ns,[]=>by simp [Dt.eqs]
  | n :: ns,m :: ms=>by
    rw [List.map_cons,List.map_cons,Dt.eqs,N5 ns ms,OD,←Bool.decide_and]
    exact decide_eq_decide.mpr (by simp)
theorem K4:∀ (ns:List Int),Dt.flats 7 (ns.map Dt.int)=true
  | []=>rfl
  | n :: ns=>by rw [List.map_cons,Dt.flats,K4 ns];rfl
theorem Yz (hu:X.A.units+64 < cLine) (hu1:X.A.in1.units+8 < cLine):MtR X "list.index" (Ac4 X.K):=by
  classical
  intro pins s σ H x ys v us Q I rx ry h
  obtain ⟨p,vs,nss,b,ns,j,rfl,rfl,hl,hb,each,jl,ej,before,q⟩:=h
  cases rx
  obtain ⟨u,rfl,r1⟩:=vals1 ry
  cases r1
  obtain ⟨its,rv,pl,hz⟩:=I.list hl
  have hlen:its.length=vs.length:=rv.length.symm
  have fl:∀ ns:List Int,(Cv ns).flat 8=true:=fun ns=>K4 ns
  have rowAt':∀ (i:Nat) (y:Value),its[i]? = some y→∃ a,y=.ref a∧SqT X.K H a ((nss i).map V.int):=fun i y e=>by
    obtain ⟨v,e1,r2⟩:=Vals.at rv i y e
    obtain ⟨a,rfl,ht⟩:=each i v e1
    cases r2
    exact ⟨a,rfl,ht⟩
  have uniq:∀ (i i':Nat) (y:Value),its[i]? = some y→its[i']? = some y→nss i=nss i':=fun i i' y e e'=>by
    obtain ⟨a,rfl,h1⟩:=rowAt' i y e
    obtain ⟨a',ea,h2⟩:=rowAt' i' _ e'
    cases ea
    obtain ⟨i1,v1,t1,_⟩:=I.tuple h1
    obtain ⟨i2,v2,t2,_⟩:=I.tuple h2
    have es:=Vf t1 t2
    have n1:IntsAre i1.toArray.toList (nss i):=intsAre_of v1
    have n2:IntsAre i2.toArray.toList (nss i'):=intsAre_of v2
    rw [←es] at n2
    rw [←n1.numsOf,←n2.numsOf]
  obtain ⟨o,n,eo,ec,ed,dd⟩:=pl
  obtain ⟨cl,di,da,sl⟩:=o
  dsimp only at ec ed dd
  subst ec ed dd
  have jl':j < its.toArray.size:=by rw [List.size_toArray];omega
  have at':∀ (i:Nat) (hi:i < its.toArray.size),its[i]? = some its.toArray[i]:=fun i hi=>by
    rw [List.getElem_toArray]
    exact List.getElem?_eq_getElem _
  refine call_meets F.slot_list_index ⟨_,eo,rfl⟩ F.entry_list_index (F.args_list_index_2 _ _) (SeqAt.list_indexAt p its.toArray n none sl (.ref b) (fun y=>decide (∃ i,its[i]? = some y∧nss i=ns)) j jl' ?_ ?_ ?_) ⟨eo,?_,?_⟩
  · have:sizeLine < 2 ^ 63 - 1:=by unfold sizeLine;decide
    omega
  · exact decide_eq_true ⟨j,at' j jl',ej⟩
  · intro m hm lt
    refine decide_eq_false ?_
    rintro ⟨i,e1,e2⟩
    exact before m lt ((uniq m i _ (at' m hm) e1).trans e2)
  · intro y hy
    obtain ⟨i,hi,e⟩:=List.getElem_of_mem (show y∈its by simpa using hy)
    have e1:its[i]? = some y:=by rw [←e];exact List.getElem?_eq_getElem hi
    obtain ⟨a,rfl,ht⟩:=rowAt' i y e1
    obtain ⟨ca,da⟩:=Eb _ 8 (fl (nss i))
    obtain ⟨cb,db⟩:=Eb _ 8 (fl ns)
    obtain ⟨as,q1⟩:=Fz I ca (RL ht) (rfl:RelV (.ref a) (.ref a))
    obtain ⟨bs,q2⟩:=Fz I cb (RL hb) (rfl:RelV (.ref b) (.ref b))
    have:=SeqAt.eqAt_reads _ _ X.A.in1 s _ _ as bs q1 q2 ca cb (by omega)
    rw [M6 _ _ ca cb] at this
    have ee:(Cv (nss i)).eq (Cv ns)=decide (∃ i,its[i]? = some (Value.ref a)∧nss i=ns):=by
      show Dt.eqs _ _=_
      rw [N5]
      refine decide_eq_decide.mpr ⟨fun z=>⟨i,e1,z⟩,?_⟩
      rintro ⟨i',e2,e3⟩
      exact (uniq i i' _ e1 e2).trans e3
    rw [ee] at this
    exact this
  · exact ⟨.int _,H,I.tok _,⟨_,rfl⟩,q⟩
noncomputable def AcF (j:Nat) (te:DTE):DTE:=fun ρ Q=>∃ nss:List (List Int),ρ[j]? = some (some (.is (.lst (nss.map Cv))))∧te ρ fun d=>∃ ns k,d=Cv ns∧k < nss.length∧nss.getD k []=ns∧(∀ m,m < k→nss.getD m []≠ns)∧Q (.int (k:Nat))
theorem W3 {K:PySem.W.Frag} {H:Hp} {nss:List (List Int)} {vs:List V} (h:RpL K H (nss.map Cv) vs):vs.length=nss.length∧∀ (i:Nat) (v:V),vs[i]? = some v→∃ a,v=.ref a∧SqT K H a ((nss.getD i []).map V.int):=by
  refine ⟨by rw [RpL.len' h,List.length_map],fun i v e=>?_⟩
  obtain ⟨d,e1,r⟩:=RpL.at' i v h e
  rw [List.getElem?_map] at e1
  cases q:nss[i]? with
  | none=>rw [q] at e1;cases e1
  | some ns =>
    rw [q] at e1
    cases e1
    have:nss.getD i []=ns:=by simp [List.getD,q]
    rw [this]
    obtain ⟨a,ys,rfl,ht,hy⟩:=Ck.mp r
    obtain rfl:=Lj hy
    exact ⟨a,rfl,ht⟩
theorem Za (j:Nat) {e:Expr} {te:DTE} {x:Str} {px ap cp:Pos} (hu:X.A.units+64 < cLine) (hu1:X.A.in1.units+8 < cLine) (he:DE X e te) (hN:X.N[j]? = some x:=by rfl) (hv:Vis X.env.scope x:=by first | exact Or.inl rfl | exact Or.inr (Or.inl rfl) | exact Or.inr (Or.inr rfl)) (hd:(x == ("__debug__":Str))=false:=by decide)
    (hcd:(x == ("__classdict__":Str))=false:=by decide) (hbase:attributeBase (.Name x px) "index" X.env (eval (.Name x px) X.env)=eval (.Name x px) X.env:=by rfl)
    (hfew:((backTo cp (starEach [e] X.env)).all (fun x=>!x.1) && (backToKw cp (keywordEach [] X.env)).all (fun x=>x.1.isSome) && decide ([e].length+([]:List Keyword).length+(if ([]:List Keyword).isEmpty then 0 else 1) < 30))=true:=by rfl)
    (hline:(ap.endLine == cp.line)=true:=by rfl) (hst:starEach [e] X.env=(false,eval e X.env) :: starEach [] X.env:=by rfl) (hplain:(backTo cp (starEach [] X.env)).any (·.1)=false:=by rfl) :
    DE X (.Call (.Attribute (.Name x px) "index" ap) [e] [] cp) (AcF j te) where
  mono:=fun hq ⟨nss,e1,h⟩=>⟨nss,e1,he.mono (fun d ⟨ns,k,a,b,c,d',h⟩=>⟨ns,k,a,b,c,d',hq _ h⟩) h⟩
  pe:=(AeA PySem.F.plainAttrs_list PySem.F.slot_list_index PySem.F.type_list_index (Yz hu hu1) (Hy hN hv hd hcd) (JF he.pe S7 hst) hbase hfew hline hst hplain).imp fun σ H Q ⟨B,F,O,ρ,R,nss,e1,h⟩=>by
    obtain ⟨v,h1,r⟩:=R.is j _ e1
    obtain ⟨p,vs,rfl,hs,hl⟩:=DP r
    refine ⟨_,h1,.inl ⟨rfl,_,(Ba (O:=F ++ O) (H:=H)).seq hs⟩,B,F,O,ρ,R,he.mono (fun d h v H1 s1 r1=>?_) h⟩
    obtain ⟨ns,k,rfl,kl,ek,before,q⟩:=h
    obtain ⟨b,ys,rfl,hb,hy⟩:=Ck.mp r1
    obtain rfl:=Lj hy
    obtain ⟨ll,each⟩:=W3 (hl.mono s1.mask)
    refine ⟨p,vs,fun i=>nss.getD i [],b,ns,k,rfl,rfl,(Ba (O:=F ++ O) (H:=H1)).seq (s1.mask.seq hs),(Ba (O:=F ++ O) (H:=H1)).seqT hb,fun i v e=>?_,by omega,ek,before,q _ H1 (Same.refl H1 |> fun _=>s1) (Bj.mpr rfl)⟩
    obtain ⟨a,ea,ht⟩:=each i v e
    exact ⟨a,ea,(Ba (O:=F ++ O) (H:=H1)).seqT ht⟩
theorem Ae1 {A:Around} (h:A.units+64 < cLine):A.in1.units < cLine:=by show A.units+1 < cLine;omega
theorem AdJ {A:Around} (h:A.units+64 < cLine):A.in1.units+8 < cLine:=by show A.units+1+8 < cLine;omega
end L2
namespace L2
open PySem PySem.Spec PyProof.Rows PySem.SeqAt
section
variable {X:Cx} {a b c e o:Expr} {es:List Expr} {ta tb te:DTE} {tl:DTA} {pos apos:Pos}
noncomputable def Aem (K:PySem.W.Frag) (te:DTE) (f:Str):DTE:=fun ρ Q=>te ρ fun d=>match d with
  | .obj c ns ds=>Qf K c f∧∃ v,(ns.zip ds).lookup f=some v∧Q v
  | _=>False
theorem JD {f:Str} (h:DE X e te) (hb:attributeBase e f X.env (eval e X.env)=eval e X.env:=by rfl):DE X (.Attribute e f pos) (Aem X.K te f) where
  mono:=fun hq z=>h.mono (fun d z=>by
    split at z
    · exact let ⟨a,v,b,c⟩:=z;⟨a,v,b,hq _ c⟩
    · exact z.elim) z
  pe:=(Agp h.pe hb).imp fun σ H Q ⟨B,F,O,ρ,R,z⟩=>⟨B,F,O,ρ,R,h.mono (fun d z v H1 s1 r1=>by
    split at z
    · obtain ⟨na,y,ly,q⟩:=z
      obtain ⟨a,C,dx,vs,rfl,h1,cl,h2,_,h5⟩:=Pr.mp r1
      obtain ⟨v,lv,rv⟩:=zip_get h5 ly
      exact ⟨a,C,dx,_,v,rfl,Ba _ _ h2,cl,na C h1,lv,q v H1 s1 rv⟩
    · exact z.elim) z⟩
structure IsC (K:PySem.W.Frag) (c:Str):Prop where
  ha:∀ C,PySem.W.nsIn K mainGlobals c=some (some (.ref C))→PySem.W.findIn K (.ref C) "__class__"=some (some (.builtin "object.__class__"))
  hn:PySem.W.specialIn K (.builtin "object.__class__") "__get__"=some (some (.builtin "getset_descriptor.__get__"))
  ht:PySem.W.takesIn K (.builtin "object.__class__")=some true
  hm:∀ C,PySem.W.nsIn K mainGlobals c=some (some (.ref C))→PySem.W.mroIn K C (.type "object")=some true
noncomputable def AlY (K:PySem.W.Frag):DL:=fun ds Q=>match ds with
  | [.obj c _ _,.fn A]=>∃ v,IsC K c∧AhR K c A v∧Q (.bl v)
  | _=>False
noncomputable def Xz (K:PySem.W.Frag) (c m:Str) (g:Addr):Prop:=∀ C,PySem.W.nsIn K mainGlobals c=some (some (.ref C))→Meth K C m g
noncomputable def Aae (K:PySem.W.Frag) (m:Str) (g:Addr) (sp:Sp) (ta:TE) (t:TA):TE:=fun σ H Q=>ta σ H fun x H1=>∃ a C dx fs,x=.ref a∧H1 a=some (.ins C dx fs)∧Cls K C∧Meth K C m g∧fs.lookup m=none∧t σ H1 fun vs H2=>sp (x :: vs) H2 Q E0
theorem Zg {pl:Sem Bool} {k:Nat} {m:Str} {g:Addr} {fd:FuncData} {ps:List Str} {sp:Sp} {ta:TE} (he:PE X o ta) (F:Ho X.prog X.w X.K X.mg X.base CX0 k g fd ps sp) (hr:Et k X.A) (hb:Binds X.K fd ps [])
    (ht:eval (.Call (.Attribute o m apos) [] [] pos) X.env=(do
      let ov ←eval o X.env
      standAt apos.atName
      let (f,first) ←holding [ov] (getMethod ov m pl)
      callWith pos f first (backTo pos (starEach [] X.env)) (backToKw pos (keywordEach [] X.env))):=by rfl) :
    PE X (.Call (.Attribute o m apos) [] [] pos) (Aae X.K m g sp ta Aj0):=by
  intro pins s σ H Q I h
  refine PySem.W.methodCall_KW (pl:=pl) (thn (he pins s σ H _ I h) fun u s1 ⟨x,H1,I1,rx,a,C,dx,fs,ex,ea,c,hm,l,q⟩=>?_) ht
  subst ex
  obtain rfl:u=Value.ref a:=rx
  refine V9 I1 ea c hm l ?_
  exact PySem.W.callWith_K0 (first:=[.ref a]) I1.kIn hm.kp (Wc (us:=[.ref a]) (vs:=[.ref a]) F hr hb .nil Yb I1 (.cons rfl .nil) q)
noncomputable def Ox (K:PySem.W.Frag) (m:Str) (g:Addr) (sp:DSp) (te:DTE) (tl:DTA):DTE:=fun ρ Q=>te ρ fun d=>match d with
  | .obj c ns ds=>Xz K c m g∧m∉ns∧tl ρ fun es=>sp (.obj c ns ds :: es) Q
  | _=>False
theorem U4 {f:Str}:∀ {ns:List Str} {vs:List V},f∉ns→(ns.zip vs).lookup f=none
  | [],_,_=>by simp
  | _ :: _,[],_=>by simp
  | n :: ns,v :: vs,h=>by
    have hb:(f == n)=false:=beq_eq_false_iff_ne.mpr fun e=>h (by rw [e];exact List.mem_cons_self)
    rw [List.zip_cons_cons]
    simp only [List.lookup,hb]
    exact U4 fun z=>h (List.mem_cons_of_mem _ z)
theorem Aay {m:Str} {g:Addr} {sp:DSp} (M:HD sp) (h:DE X o te) (ha:DA X es tl) (σ:St) (H:Hp) (Q:VK) (z:lE X.K (Ox X.K m g sp te tl) σ H Q):Aae X.K m g (lSp X.K sp) (lE X.K te) (lA X.K tl) σ H Q:=by
  obtain ⟨B,F,O,ρ,R,z⟩:=z
  refine ⟨B,F,O,ρ,R,h.mono (fun d z v H1 s1 r1=>?_) z⟩
  split at z
  · obtain ⟨mo,nm,z⟩:=z
    obtain ⟨a,C,dx,vs,e0,h1,cl,h2,_,h5⟩:=Pr.mp r1
    subst e0
    refine ⟨a,C,dx,_,rfl,Ba _ _ h2,cl,mo C h1,U4 nm,B,F,O,ρ,R.same s1,ha.mono (fun es z ws H2 s2 r2=>?_) z⟩
    exact ⟨F ++ O,_,((R.same s1).same s2).th,RpL.cons (r1.mono s2.mask) r2,M _ _ _ (fun d q w H3 s3 r3=>q w H3 ((s1.trans s2).trans s3) r3) z⟩
  · exact z.elim
theorem Ym {m:Str} {g:Addr} {sp:DSp} (M:HD sp) (h:DE X o te) (ha:DA X es tl) {ρ:BZ} {Q Q':Dt→Prop} (hq:∀ d,Q d→Q' d) (z:Ox X.K m g sp te tl ρ Q):Ox X.K m g sp te tl ρ Q':=h.mono (fun d z=>by
  split at z
  · exact ⟨z.1,z.2.1,ha.mono (fun es z=>M _ _ _ hq z) z.2.2⟩
  · exact z.elim) z
theorem Aar {pl:Sem Bool} {k:Nat} {m:Str} {g:Addr} {fd:FuncData} {ps:List Str} {sp:DSp} (M:HD sp) (F:Ho X.prog X.w X.K X.mg X.base CX0 k g fd ps (lSp X.K sp)) (hb:Binds X.K fd ps []) (hr:Et k X.A) (h:DE X o te)
    (ht:eval (.Call (.Attribute o m apos) [] [] pos) X.env=(do
      let ov ←eval o X.env
      standAt apos.atName
      let (f,first) ←holding [ov] (getMethod ov m pl)
      callWith pos f first (backTo pos (starEach [] X.env)) (backToKw pos (keywordEach [] X.env))):=by rfl):DE X (.Call (.Attribute o m apos) [] [] pos) (Ox X.K m g sp te Aca) where
  mono:=Ym (X:=X) M h Af
  pe:=(Zg h.pe F hr hb ht).imp fun σ H Q z=>by
    have:=Aay M h Af σ H Q z
    obtain ⟨B,F,O,ρ,R,z⟩:=this
    refine ⟨B,F,O,ρ,R,h.mono (fun d z v H1 s1 r1=>?_) z⟩
    obtain ⟨a,C,dx,fs,e1,e2,e3,e4,e5,z⟩:=z v H1 s1 r1
    obtain ⟨B',F',O',ρ',R',z⟩:=z
    exact ⟨a,C,dx,fs,e1,e2,e3,e4,e5,z [] H1 (Same.refl H1) RpL.nil⟩
noncomputable abbrev DIn:=List Dt→(List Dt→Prop)→Prop
noncomputable def Abh (K:PySem.W.Frag) (ns:List Str) (sp:DIn):Sp:=fun vs H Q _=>∃ x C dx ys F ds,vs=.ref x :: ys∧H x=some (.ins C dx [])∧Cls K C∧(∀ f∈ns,Hu K C f)∧x∈F∧(∀ a∈F,H a≠none)∧RpL K (mask F H) ds ys ∧
  sp ds fun fds=>∀ ws H',Same (mask [x] H) H'→H' x=some (.ins C dx (ns.zip ws))→ns.length=fds.length→RpL K (mask F H') fds ws→Q .non H'
noncomputable def RV (sp:DIn):Prop:=∀ ds Q Q',(∀ d,Q d→Q' d)→sp ds Q→sp ds Q'
structure MkC (K:PySem.W.Frag) (mg:Str→Option Value) (c:Str) (ns:List Str) (C f:Addr):Prop where
  mm:Mk K C f
  at_:PySem.W.nsIn K mainGlobals c=some (some (.ref C))
  gl:mg c=some (.ref C)
  cl:Cls K C
  no:∀ f∈ns,Hu K C f
noncomputable def Z8 (c:Str) (ns:List Str) (sp:DIn) (tl:DTA):DTE:=fun ρ Q=>tl ρ fun ds=>sp ds fun fds=>Q (.obj c ns fds)
theorem AbJ {k:Nat} {c:Str} {ns ps:List Str} {C f:Addr} {fd:FuncData} {sp:DIn} {p:Pos} (m:RV sp) (M:MkC X.K X.mg c ns C f) (G:Ho X.prog X.w X.K X.mg X.base CX0 k f fd ps (Abh X.K ns sp)) (hb:Binds X.K fd ps []) (hr:Et (k+1) X.A) (hg:Gl X c) (ha:DA X (e :: es) tl)
    (hdb:(c == ("__debug__":Str))=false:=by decide) (he:starEach (e :: es) X.env=(false,eval e X.env) :: starEach es X.env:=by rfl) (hpl:(backTo pos (starEach es X.env)).any (·.1)=false:=by rfl):DE X (.Call (.Name c p) (e :: es) [] pos) (Z8 c ns sp tl) where
  mono:=fun hq z=>ha.mono (fun ds z=>m _ _ _ (fun fds q=>hq _ q) z) z
  pe:=(AbQ M.mm G hr hg M.gl hb .nil Yb ha.pa hdb he hpl).imp fun σ H Q ⟨B,F,O,ρ,R,z⟩=>⟨B,F,O,ρ,R,ha.mono (fun ds z vs H1 s1 r1 x dx nx ndx ne=>by
    have R1:=R.same s1
    have ox:x∉F ++ O:=fun w=>R1.th x w nx
    have s2:Same H1 (upd (upd H1 dx (.own x)) x (.ins C dx [])):=fun b o q=>by rw [Aw (Bv q nx),Aw (Bv q ndx)];exact q
    refine ⟨x,C,dx,vs,x :: (F ++ O),ds,by rw [List.append_nil],Bh,M.cl,M.no,List.mem_cons_self,fun b hb'=>?_,?_,m _ _ _ (fun fds q ws H' s' h1 h2 h3=>⟨rfl,?_⟩) z⟩
    · rcases List.mem_cons.mp hb' with e | w
      · rw [e,Bh];simp
      · intro q
        cases e:H1 b with
        | none=>exact R1.th b w e
        | some u=>rw [s2 _ _ e] at q;cases q
    · refine r1.mono fun b o q=>?_
      obtain ⟨n1,q⟩:=CQ q
      rw [Bb fun w=>(List.mem_cons.mp w).elim (fun e=>by rw [e,nx] at q;cases q) n1]
      exact s2 _ _ q
    · have s3:Same H1 H':=fun b o q=>s' b o (by rw [Bb fun w=>by rw [List.mem_singleton.mp w,nx] at q;cases q];exact s2 _ _ q)
      refine q (.ref x) H' (s1.trans s3) (Pr.mpr ⟨x,C,dx,ws,rfl,M.at_,M.cl,by rw [Bb ox];exact h1,h2,h3.mono (Gp fun b hb'=>List.mem_cons_of_mem _ hb')⟩)) z⟩
end
end L2
namespace L2
open PySem PySem.Spec PyProof.Rows PySem.SeqAt
section
variable {K:PySem.W.Frag} {B:Hp} {F O:List Addr} {H:Hp} {σ:St} {ρ:BZ} {x:Addr}
theorem Rep.updF (r:Rep K B F O H σ ρ) (hx:x∈F) (hB:B x=none) (o:HO):Rep K B F O (upd H x o) σ ρ:=by
  have em:mask (F ++ O) (upd H x o)=mask (F ++ O) H:=Ip (List.mem_append_left _ hx)
  refine ⟨r.len,fun b u e=>?_,r.fr,fun b hb e=>?_,fun j d q=>?_,fun j ks q=>?_,r.inj,fun j ks q=>?_,r.tinj⟩
  · rw [Aw fun z=>by rw [z,hB] at e;cases e];exact r.base b u e
  · by_cases z:b=x
    · rw [z,Bh] at e;cases e
    · rw [Aw z] at e;exact r.th b hb e
  · rw [em];exact r.is j d q
  · obtain ⟨b,zs,e1,e2,e3,e4,e5⟩:=r.own j ks q
    exact ⟨b,zs,e1,e2,e3,by rw [Aw fun z=>e3 (by rw [z];exact hx)];exact e4,by rw [em];exact e5⟩
  · obtain ⟨b,zs,e1,e2,e3,e4,e5⟩:=r.tab j ks q
    exact ⟨b,zs,e1,e2,e3,by rw [Aw fun z=>e3 (by rw [z];exact hx)];exact e4,by rw [em];exact e5⟩
noncomputable def Im (N:List Str) (ds:List Dt):BZ:=none :: (ds.map (fun d=>some (.is d)) ++ List.replicate (N.length - (ds.length+1)) none)
theorem Ko {N:List Str} {ds:List Dt} {ys:List V} (hx:x∈F) (hF:∀ a∈F,H a≠none) (r:RpL K (mask F H) ds ys):Rep K (mask [x] H) F [] H (start N (.ref x :: ys)) (Im N ds):=by
  have hl:=r.len
  have get:∀ (i:Nat) (e:En),(Im N ds)[i]? = some (some e)→∃ j d,i=j+1∧ds[j]? = some d∧e=.is d:=fun i e q=>by
    cases i with
    | zero=>cases q
    | succ j =>
      have q:(ds.map (fun d=>some (En.is d)) ++ List.replicate (N.length - (ds.length+1)) none)[j]? = some (some e):=q
      by_cases hi:j < ds.length
      · rw [List.getElem?_append_left (by simpa using hi),List.getElem?_map] at q
        cases w:ds[j]? with
        | none=>rw [w] at q;cases q
        | some d=>rw [w] at q;cases q;exact ⟨j,d,rfl,w,rfl⟩
      · rw [List.getElem?_append_right (by simpa using hi),List.getElem?_replicate] at q
        split at q <;> cases q
  refine ⟨?_,Ba,fun a h=>(nomatch h),fun a h=>hF a (by simpa using h),fun i d e=>?_,fun i es e=>?_,fun i j es es' a h1=>?_,fun i es e=>?_,fun i j es es' a h1=>?_⟩
  · unfold start Im;simp [hl]
  · obtain ⟨j,d',rfl,e1,e2⟩:=get i _ e
    cases e2
    obtain ⟨v,w1,w2⟩:=r.get e1
    have hj:j < ys.length:=by rw [hl];exact (List.getElem?_eq_some_iff.mp e1).1
    refine ⟨v,?_,by rw [List.append_nil];exact w2⟩
    unfold start
    rw [List.getElem?_append_left (by simp;omega),List.getElem?_map,List.getElem?_cons_succ,w1];rfl
  · obtain ⟨_,_,_,_,z⟩:=get i _ e;cases z
  · obtain ⟨_,_,_,_,z⟩:=get i _ h1;cases z
  · obtain ⟨_,_,_,_,z⟩:=get i _ e;cases z
  · obtain ⟨_,_,_,_,z⟩:=get i _ h1;cases z
end
section
variable {X:Cx} {e e1 e2 e3:Expr} {es:List Expr} {te1 te2 te3:DTE} {tl:DTA} {pos apos:Pos}
noncomputable def Ahv (K:PySem.W.Frag) (f1 f2 f3:Str) (te1 te2 te3:DTE):TS:=fun D σ H=>∃ B F ρ x C dx,∃ S:List Dt→Prop,Rep K B F [] H σ ρ∧x∈F∧B x=none∧σ[0]? = some (some (.ref x))∧H x=some (.ins C dx [])∧Cls K C∧(∀ f∈[f1,f2,f3],Hu K C f) ∧
  (te1 ρ fun d1=>te2 ρ fun d2=>te3 ρ fun d3=>S [d1,d2,d3])∧∀ fds,S fds→∀ ws H',Same B H'→H' x=some (.ins C dx ([f1,f2,f3].zip ws))→[f1,f2,f3].length=fds.length→RpL K (mask F H') fds ws→D.nx σ H'
theorem Abr {f1 f2 f3:Str} {y:Str} {q1 q2 q3 p1 p2 p3 s1 s2 s3:Pos} (h1:DE X e1 te1) (h2:DE X e2 te2) (h3:DE X e3 te3) (n12:f1≠f2) (n13:f1≠f3) (n23:f2≠f3) (hN:X.N[0]? = some y:=by rfl) (hv:Vis X.env.scope y:=by first | exact Or.inl rfl | exact Or.inr (Or.inl rfl) | exact Or.inr (Or.inr rfl))
    (hd:(y == ("__debug__":Str))=false:=by decide) (hcd:(y == ("__classdict__":Str))=false:=by decide)
    (w1:swapsWith e1 (some (.Attribute (.Name y q1) f1 p1)) s1.line X.env=pure false:=by rfl) (w2:swapsWith e2 (some (.Attribute (.Name y q2) f2 p2)) s2.line X.env=pure false:=by rfl) (w3:swapsWith e3 (some (.Attribute (.Name y q3) f3 p3)) s3.line X.env=pure false:=by rfl) :
    PSs X [.Assign [.Attribute (.Name y q1) f1 p1] e1 s1,.Assign [.Attribute (.Name y q2) f2 p2] e2 s2,.Assign [.Attribute (.Name y q3) f3 p3] e3 s3] (Ahv X.K f1 f2 f3 te1 te2 te3) :=
  (O5 (VG (Hy hN hv hd hcd) h1.pe w1) (O5 (VG (Hy hN hv hd hcd) h2.pe w2) (R7 (VG (Hy hN hv hd hcd) h3.pe w3)))).imp fun D σ H ⟨B,F,ρ,x,C,dx,S,R,xF,Bx,σ0,Hx,cl,no,z,fin⟩=>by
    have em:∀ (H:Hp) (o:HO),mask (F ++ []) (upd H x o)=mask (F ++ []) H:=fun H o=>Ip (List.mem_append_left _ xF)
    refine ⟨B,F,[],ρ,R,h1.mono (fun d1 z y1 H1 t1 r1=>?_) z⟩
    refine ⟨.ref x,σ0,x,C,dx,[],rfl,t1 _ _ Hx,cl,no f1 (by simp),by decide,?_⟩
    have R1:=(R.same t1).updF xF Bx (.ins C dx (Hh f1 y1 []))
    refine ⟨B,F,[],ρ,R1,h2.mono (fun d2 z y2 H2 t2 r2=>?_) z⟩
    refine ⟨.ref x,σ0,x,C,dx,[(f1,y1)],rfl,t2 _ _ Bh,cl,no f2 (by simp),by show 1 < 1000;decide,?_⟩
    have R2:=(R1.same t2).updF xF Bx (.ins C dx (Hh f2 y2 [(f1,y1)]))
    refine ⟨B,F,[],ρ,R2,h3.mono (fun d3 z y3 H3 t3 r3=>?_) z⟩
    have ep2:Hh f2 y2 [(f1,y1)]=[(f1,y1),(f2,y2)]:=by simp [Hh,n12]
    have ep3:Hh f3 y3 [(f1,y1),(f2,y2)]=[(f1,y1),(f2,y2),(f3,y3)]:=by simp [Hh,n13,n23]
    rw [ep2] at t3 R2
    refine ⟨.ref x,σ0,x,C,dx,[(f1,y1),(f2,y2)],rfl,t3 _ _ Bh,cl,no f3 (by simp),by show 2 < 1000;decide,?_⟩
    have R3:=(R2.same t3).updF xF Bx (.ins C dx (Hh f3 y3 [(f1,y1),(f2,y2)]))
    rw [ep3] at R3 ⊢
    rw [List.append_nil] at r1 r2 r3 em
    refine fin _ z [y1,y2,y3] _ R3.base Bh rfl ?_
    rw [em]
    have m12:Same (mask F H1) (mask F H2):=fun b o q=>t2.mask b o (by rw [em];exact q)
    have m23:Same (mask F H2) (mask F H3):=fun b o q=>t3.mask b o (by rw [em];exact q)
    exact RpL.cons ((r1.mono m12).mono m23) (RpL.cons (r2.mono m23) (RpL.cons r3 RpL.nil))
structure W8 (K:PySem.W.Frag) (mg:Str→Option Value) (c m:Str) (g:Addr):Prop where
  ex:∃ CS,mg c=some (.ref CS)∧PySem.W.specialIn K (.ref CS) "__getattribute__"=some (some (.builtin "type.__getattribute__"))∧PySem.W.readsIn K CS (.type "type")=true∧PySem.W.findCls K (.ref CS) (.type "type") m=some (.val (.ref g))
  kp:PySem.W.keepIn K (.ref g)=true
theorem Zz {pl:Sem Bool} {k:Nat} {c m:Str} {g:Addr} {fd:FuncData} {ps:List Str} {sp:Sp} {t:TA} {p:Pos} (M:W8 X.K X.mg c m g) (hg:Gl X c) (F:Ho X.prog X.w X.K X.mg X.base CX0 k g fd ps sp) (hr:Et k X.A) (hb:Binds X.K fd ps []) (ha:PA X (e :: es) t)
    (hdb:(c == ("__debug__":Str))=false:=by decide) (hst:starEach (e :: es) X.env=(false,eval e X.env) :: starEach es X.env:=by rfl) (hpl:(backTo pos (starEach es X.env)).any (·.1)=false:=by rfl)
    (ht:eval (.Call (.Attribute (.Name c p) m apos) (e :: es) [] pos) X.env=(do
      let ov ←eval (.Name c p) X.env
      standAt apos.atName
      let (f,first) ←holding [ov] (getMethod ov m pl)
      callWith pos f first (backTo pos (starEach (e :: es) X.env)) (backToKw pos (keywordEach [] X.env))):=by rfl) :
    PE X (.Call (.Attribute (.Name c p) m apos) (e :: es) [] pos) (Aec sp [] E0 t):=by
  intro pins s σ H Q I h
  obtain ⟨CS,hm,hs,hr',hf⟩:=M.ex
  have q0:=(Xb (v:=.ref CS) (pos:=p) hg hm rfl hdb:PE X (.Name c p) (tC (.ref CS))) pins s σ H (fun v H1=>v=.ref CS∧H1=H) I ⟨rfl,rfl⟩
  refine PySem.W.methodCall_KW (pl:=pl) (thn q0 fun u s1 ⟨x,H1,I1,rx,ex,eH⟩=>?_) ht
  subst ex
  subst eH
  obtain rfl:u=Value.ref CS:=rx
  refine PySem.W.method_cls I1.kIn hs (PySem.W.cls_value I1.kIn hr' hf rfl ?_)
  refine PySem.W.callWith_K (first:=[]) (h₀:=X.base) I.ok.mod.kin M.kp (thn (ha pos pins _ σ H1 _ (I1.tok _) h) fun us s2 ⟨vs,H2,I2,r,q2⟩=>⟨I2.kIn,?_⟩) hst hpl
  exact Wc F hr hb .nil Yb I2 r q2
noncomputable def AjR (K:PySem.W.Frag) (ns:List Str) (sp:DIn) (tl:DTA):TS:=fun D σ H=>∃ B F ρ x C dx,∃ S:List Dt→Prop,Rep K B F [] H σ ρ∧x∈F∧B x=none∧σ[0]? = some (some (.ref x))∧H x=some (.ins C dx [])∧Cls K C∧(∀ f∈ns,Hu K C f) ∧
  (tl ρ fun ds=>sp ds S)∧∀ fds,S fds→∀ ws H',Same B H'→H' x=some (.ins C dx (ns.zip ws))→ns.length=fds.length→RpL K (mask F H') fds ws→D.nx σ H'
theorem Ur {pl:Sem Bool} {k:Nat} {c y:Str} {g:Addr} {fd:FuncData} {ps ns:List Str} {sp:DIn} {p q ap cp:Pos} (m:RV sp) (M:W8 X.K X.mg c "__init__" g) (hg:Gl X c) (G:Ho X.prog X.w X.K X.mg X.base CX0 k g fd ps (Abh X.K ns sp)) (hb:Binds X.K fd ps []) (hr:Et k X.A) (ha:DA X es tl) (hN:X.N[0]? = some y:=by rfl)
    (hv:Vis X.env.scope y:=by first | exact Or.inl rfl | exact Or.inr (Or.inl rfl) | exact Or.inr (Or.inr rfl)) (hd:(y == ("__debug__":Str))=false:=by decide) (hcd:(y == ("__classdict__":Str))=false:=by decide) (hdb:(c == ("__debug__":Str))=false:=by decide)
    (hst:starEach (.Name y q :: es) X.env=(false,eval (.Name y q) X.env) :: starEach es X.env:=by rfl) (hpl:(backTo cp (starEach es X.env)).any (·.1)=false:=by rfl)
    (ht:eval (.Call (.Attribute (.Name c p) "__init__" ap) (.Name y q :: es) [] cp) X.env=(do
      let ov ←eval (.Name c p) X.env
      standAt ap.atName
      let (f,first) ←holding [ov] (getMethod ov "__init__" pl)
      callWith cp f first (backTo cp (starEach (.Name y q :: es) X.env)) (backToKw cp (keywordEach [] X.env))):=by rfl)
    (hs:swapsWith (.Call (.Attribute (.Name c p) "__init__" ap) (.Name y q :: es) [] cp) none pos.line X.env=pure false:=by rfl) :
    PSs X [.Expr (.Call (.Attribute (.Name c p) "__init__" ap) (.Name y q :: es) [] cp) pos] (AjR X.K ns sp tl) :=
  (R7 (RW (Zz M hg G hr hb (JF (Hy hN hv hd hcd) ha.pa hst) hdb hst hpl ht) hs)).imp fun D σ H ⟨B,F,ρ,x,C,dx,S,R,xF,Bx,σ0,Hx,cl,no,z,fin⟩=>by
    refine ⟨.ref x,σ0,B,F,[],ρ,R,ha.mono (fun ds z vs H1 s1 r1=>?_) z⟩
    show Abh X.K ns sp ((.ref x :: vs) ++ []) H1 _ E0
    rw [List.append_nil]
    have R1:=R.same s1
    rw [List.append_nil] at r1
    refine ⟨x,C,dx,vs,F,ds,rfl,s1 _ _ Hx,cl,no,xF,fun a h=>R1.th a (List.mem_append_left _ h),r1,m _ _ _ (fun fds w ws H' s' h1 h2 h3=>fin fds w ws H' (fun b o e=>s' b o ?_) h1 h2 h3) z⟩
    rw [Bb fun w=>by rw [List.mem_singleton.mp w,Bx] at e;cases e]
    exact R1.base b o e
end
noncomputable def Ri {τ:Type} (args:τ→List Dt) (pre:τ→Prop) (post:τ→List Dt→Prop):DIn:=fun ds R=>∃ p,ds=args p∧pre p∧∀ fds,post p fds→R fds
theorem Jf {τ:Type} {args:τ→List Dt} {pre:τ→Prop} {post:τ→List Dt→Prop}:RV (Ri args pre post):=fun _ _ _ hq ⟨p,e,h,q⟩=>⟨p,e,h,fun d z=>hq _ (q d z)⟩
theorem Ly {τ:Type} {args:τ→List Dt} {pre:τ→Prop} {post:τ→List Dt→Prop} {R:List Dt→Prop} (p:τ) (h:pre p) (q:∀ fds,post p fds→R fds):Ri args pre post (args p) R:=⟨p,rfl,h,q⟩
noncomputable def PmC (P:Program) (w:World) (K:PySem.W.Frag) (mg:Str→Option Value) (base:Heap) (k:Nat) (c:Str) (ns:List Str) (sp:DIn):Prop:=∃ g fd ps,W8 K mg c "__init__" g∧Binds K fd ps []∧Ho P w K mg base CX0 k g fd ps (Abh K ns sp)
noncomputable def PmI (P:Program) (w:World) (K:PySem.W.Frag) (mg:Str→Option Value) (base:Heap) (k:Nat) (c:Str) (ns:List Str) (sp:DIn):Prop:=∃ C f fd ps,MkC K mg c ns C f∧Binds K fd ps []∧Ho P w K mg base CX0 k f fd ps (Abh K ns sp)
noncomputable def PmM (P:Program) (w:World) (K:PySem.W.Frag) (mg:Str→Option Value) (base:Heap) (k:Nat) (cs:List Str) (m:Str) (sp:DSp):Prop:=∃ g fd ps,(∀ c∈cs,Xz K c m g)∧PySem.W.keepIn K (.ref g)=true∧Binds K fd ps []∧Ho P w K mg base CX0 k g fd ps (lSp K sp)
section
variable {X:Cx} {e o:Expr} {es:List Expr} {te:DTE} {tl:DTA} {pos apos:Pos}
theorem Ub {k:Nat} {c:Str} {ns:List Str} {sp:DIn} {p:Pos} (m:RV sp) (G:PmI X.prog X.w X.K X.mg X.base k c ns sp) (hr:Et (k+1) X.A) (hg:Gl X c) (ha:DA X (e :: es) tl)
    (hdb:(c == ("__debug__":Str))=false:=by decide) (he:starEach (e :: es) X.env=(false,eval e X.env) :: starEach es X.env:=by rfl) (hpl:(backTo pos (starEach es X.env)).any (·.1)=false:=by rfl):DE X (.Call (.Name c p) (e :: es) [] pos) (Z8 c ns sp tl):=by
  obtain ⟨C,f,fd,ps,M,B,G⟩:=G
  exact AbJ m M G B hr hg ha hdb he hpl
noncomputable def Ov (cs:List Str) (m:Str) (sp:DSp) (te:DTE) (tl:DTA):DTE:=fun ρ Q=>te ρ fun d=>match d with
  | .obj c ns ds=>(c∈cs∧m∉ns)∧tl ρ fun es=>sp (.obj c ns ds :: es) Q
  | _=>False
theorem Wf {cs:List Str} {m:Str} {sp:DSp} (M:HD sp) (h:DE X o te) (ha:DA X es tl) {ρ:BZ} {Q Q':Dt→Prop} (hq:∀ d,Q d→Q' d) (z:Ov cs m sp te tl ρ Q):Ov cs m sp te tl ρ Q':=h.mono (fun d z=>by
  split at z
  · exact ⟨z.1,ha.mono (fun es z=>M _ _ _ hq z) z.2⟩
  · exact z.elim) z
theorem AaR {cs:List Str} {m:Str} {g:Addr} {sp:DSp} (M:HD sp) (hm:∀ c∈cs,Xz X.K c m g) (h:DE X o te) (σ:St) (H:Hp) (Q:VK) (z:lE X.K (Ov cs m sp te tl) σ H Q):lE X.K (Ox X.K m g sp te tl) σ H Q:=by
  obtain ⟨B,F,O,ρ,R,z⟩:=z
  refine ⟨B,F,O,ρ,R,h.mono (fun d z=>?_) z⟩
  split at z
  · exact ⟨hm _ z.1.1,z.1.2,z.2⟩
  · exact z.elim
theorem Yu {pl:Sem Bool} {k:Nat} {cs:List Str} {m:Str} {sp:DSp} (M:HD sp) (G:PmM X.prog X.w X.K X.mg X.base k cs m sp) (hr:Et k X.A) (h:DE X o te)
    (ht:eval (.Call (.Attribute o m apos) [] [] pos) X.env=(do
      let ov ←eval o X.env
      standAt apos.atName
      let (f,first) ←holding [ov] (getMethod ov m pl)
      callWith pos f first (backTo pos (starEach [] X.env)) (backToKw pos (keywordEach [] X.env))):=by rfl):DE X (.Call (.Attribute o m apos) [] [] pos) (Ov cs m sp te Aca):=by
  obtain ⟨g,fd,ps,hm,kp,B,G⟩:=G
  exact ⟨Wf M h Af,(Aar M G B hr h ht).pe.imp fun σ H Q z=>AaR M hm h σ H Q z⟩
end
end L2
namespace L2
open PySem PySem.Spec PyProof.Rows
inductive Lex (A:Around) (s:Shared):List Value→List Value→Bool→Prop
  | nn:Lex A s [] [] false
  | nc {y:Value} {ys:List Value}:Lex A s [] (y :: ys) true
  | cn {x:Value} {xs:List Value}:Lex A s (x :: xs) [] false
  | eq {x y:Value} {xs ys:List Value} {r:Bool} (h:SeqAt.EqAt A s x y true) (t:Lex A s xs ys r):Lex A s (x :: xs) (y :: ys) r
  | lt {x y:Value} {xs ys:List Value} {r:Bool} (h:SeqAt.EqAt A s x y false) (t:∀ (prog:Program) (w:World) (E:Value→Shared→Prop) (Q:Value→Shared→Prop),Q (.bool r) s→wpAny (model prog w) A (richCompare .Lt x y) Q E s):Lex A s (x :: xs) (y :: ys) r
section
open PySem.SeqAt PySem.AutoSeq1 PySem.MeetsSeq PySem.MeetsSeq2 PySem.MeetsSeq3
theorem WQ (p q:Addr) (us vs:Array Value) (m n:Nat) (e e2:Option Addr) (c c2:Array (Option Value)) (res:Bool) :
    Meets (Builtin.«tuple.__lt__» ⟨[.ref p,.ref q],[]⟩) (fun A R st=>st.heap.get? p=some ⟨.type "tuple",e,.seq us m,c⟩∧st.heap.get? q=some ⟨.type "tuple",e2,.seq vs n,c2⟩∧Lex A.in1 st us.toList vs.toList res∧R (.ok (.ret (.bool res))) st) :=
  .of_wp fun prog w A R st h=>by
    obtain ⟨hh,gg,dr,tt,os⟩:=st
    obtain ⟨h1,h2,L,fin⟩:=h
    have sub2:=AutoSeq1.sub_tuple_tuple
    wp_walk using wpAny_loadPart' h1,wpAny_loadPart' h2,wpAny_forIn_list _ (fun rest z st'=>z.1=none∧st'=⟨hh,gg,dr,tt,os⟩∧∃ xs ys:List Value,rest=xs.zip ys∧Lex A.in1 ⟨hh,gg,dr,tt,os⟩ xs ys res∧xs.length+vs.size=ys.length+us.size) _
    case turn =>
      rintro ⟨x0,y0⟩ rest z st' ⟨z0,rfl,xs,ys,hz,L',hlen⟩
      cases L' with
      | nn=>simp at hz
      | nc=>simp at hz
      | cn=>simp at hz
      | @eq x y xs ys r he t =>
        rw [List.zip_cons_cons] at hz
        obtain ⟨hp,hr⟩:=List.cons.inj hz
        obtain ⟨rfl,rfl⟩:=Prod.mk.inj hp
        refine wpAny_bind (he prog w _ _ ?_)
        wp_walk
        refine ⟨rfl,rfl,xs,ys,hr,t,?_⟩
        simp only [List.length_cons] at hlen
        omega
      | @lt x y xs ys r he t =>
        rw [List.zip_cons_cons] at hz
        obtain ⟨hp,hr⟩:=List.cons.inj hz
        obtain ⟨rfl,rfl⟩:=Prod.mk.inj hp
        refine wpAny_bind (he prog w _ _ ?_)
        have less:=t prog w
        wp_walk using less
        exact ⟨_,rfl,by simpa using fin⟩
    case fin =>
      rintro ⟨z1,z2⟩ st' ⟨hz1,rfl,xs,ys,hz,L',hlen⟩
      simp only at hz1
      subst hz1
      have hv:res=decide (us.size < vs.size):=by
        cases L' with
        | nn=>simp at hlen;exact (decide_eq_false (by omega)).symm
        | nc=>simp at hlen;exact (decide_eq_true (by omega)).symm
        | cn=>simp at hlen;exact (decide_eq_false (by omega)).symm
        | eq _ _=>simp at hz
        | lt _ _=>simp at hz
      rw [hv] at fin
      wp_walk
      exact ⟨_,rfl,by simpa [Builtin.Tuple.tupleCompareSizes] using fin⟩
    case h=>exact ⟨rfl,rfl,us.toList,vs.toList,rfl,L,by simp;omega⟩
end
section
variable {prog:Program} {w:World} {A:Around} {E:Value→Shared→Prop} {s:Shared}
theorem Aa8 {p q:Addr} {us vs:Array Value} {res:Bool} {Q:Value→Shared→Prop} (hp:IsTup s.heap p us) (hq:IsTup s.heap q vs) (L:Lex A.in1 s us.toList vs.toList res) (hu:A.units < cLine) (h:Q (.bool res) s):wpAny (model prog w) A (richCompare .Lt (.ref p) (.ref q)) Q E s:=by
  obtain ⟨⟨c1,e1,a1,b1⟩,g1,k1,m1,t1⟩:=id hp
  obtain ⟨⟨c2,e2,a2,b2⟩,g2,k2,m2,t2⟩:=id hq
  dsimp only at k1 t1 k2 t2
  subst k1 t1 k2 t2
  refine richCompare_meets_room (op:=.Lt) ⟨_,g1,rfl⟩ ⟨_,g2,rfl⟩ PySem.F.slot_tuple_lt PySem.F.entry_tuple_lt (PySem.F.args_tuple_lt_2 _ _) (WQ p q us vs m1 m2 e1 e2 b1 b2 res) ⟨g1,g2,L,?_⟩ hu
  exact show Value.bool res≠Value.notImplemented∧Q (.bool res) s from ⟨(fun z=>nomatch z),h⟩
end
end L2
namespace L2
open PySem PySem.Spec PyProof.Rows PySem.SeqAt
theorem LC:∀ ns:List Int,HT.lexLt ns ns=false
  | []=>HT.Gi
  | n :: ns=>by rw [HT.Ez,if_pos rfl,LC ns]
noncomputable def Fx (a b:List Int × List Int):Bool:=if a.1=b.1 then HT.lexLt a.2 b.2 else HT.lexLt a.1 b.1
noncomputable abbrev Mr (a:List Int × List Int):Dt:=.tup [Cv a.1,Cv a.2]
section
variable {X:Cx}
noncomputable def Oa (K:PySem.W.Frag) (H:Hp) (v:V) (a:List Int × List Int):Prop:=∃ p p1 p2,v=.ref p∧SqT K H p [.ref p1,.ref p2]∧SqT K H p1 (a.1.map V.int)∧SqT K H p2 (a.2.map V.int)
noncomputable def Aey (K:PySem.W.Frag):List V→Hp→VK→Prop:=fun xs H Q=>∃ l vs,∃ ps:Nat→List Int × List Int,xs=[.ref l]∧SqL K H l vs∧0 < vs.length∧(∀ (i:Nat) (v:V),vs[i]? = some v→Oa K H v (ps i)) ∧
  ∀ v,vs[argBest (fun i j=>Fx (ps i) (ps j)) (vs.length - 1)]? = some v→Q v H
theorem Zo {x y:Addr} {us:List Value} (r:Vals [V.ref x,V.ref y] us):us=[.ref x,.ref y]:=by
  obtain ⟨a,b,rfl,r1,r2⟩:=vals2 r
  cases (show a=.ref x from r1)
  cases (show b=.ref y from r2)
  rfl
theorem Ot {h:Heap}:∀ {us:List Value} {ns:List Int},IntsAre us ns→∃ as,ReadsAll h us (Dt.pys (ns.map Dt.int)) as
  | _,_,.nil=>⟨_,by rw [List.map_nil,Dt.pys];exact .nil⟩
  | _,_,.cons n t r=>by
    obtain ⟨as,q⟩:=Ot (h:=h) r
    exact ⟨_,by rw [List.map_cons,Dt.pys,Dt.py];exact .cons (.int n t) q⟩
theorem Rt {h:Heap} {a:Addr} {its:Array Value} {ns:List Int} (t:IsTup h a its) (i:IntsAre its.toList ns):∃ as,Reads h (.ref a) (Cv ns).py as:=by
  obtain ⟨o,h1,h2,n,h3⟩:=t
  obtain ⟨as,r⟩:=Ot (h:=h) i
  exact ⟨_,by rw [Dt.py];exact .tuple h1 h2 h3 r⟩
theorem Uv {A:Around} {s:Shared} {a b:Addr} {i1 i2:Array Value} {ns ms:List Int} (t1:IsTup s.heap a i1) (t2:IsTup s.heap b i2) (n1:IntsAre i1.toList ns) (n2:IntsAre i2.toList ms) (hu:A.units+8 < cLine):EqAt A s (.ref a) (.ref b) (decide (ns=ms)):=by
  have fl:∀ ns:List Int,(Cv ns).flat 8=true:=fun ns=>K4 ns
  obtain ⟨ca,da⟩:=Eb _ 8 (fl ns)
  obtain ⟨cb,db⟩:=Eb _ 8 (fl ms)
  obtain ⟨as,q1⟩:=Rt t1 n1
  obtain ⟨bs,q2⟩:=Rt t2 n2
  have h:=SeqAt.eqAt_reads _ _ A s _ _ as bs q1 q2 ca cb (by omega)
  rw [M6 _ _ ca cb] at h
  have ee:(Cv ns).eq (Cv ms)=decide (ns=ms):=by
    show Dt.eq (.tup _) (.tup _)=_
    rw [Aau,N5]
  rw [ee] at h
  exact h
theorem Y7 (hc:X.calm=true) (hu:X.A.in1.units+16 < cLine):J7 X (.builtin "min") (Aey X.K):=by
  intro pins s σ H xs us Q I r h
  obtain ⟨l,vs,ps,rfl,hl,ne,each,q⟩:=h
  obtain ⟨u,rfl,r1⟩:=vals1 r
  cases r1
  obtain ⟨its,rv,pl,_⟩:=I.list hl
  have hlen:its.length=vs.length:=rv.length.symm
  have ll:l < s.heap.objs.size:=by
    obtain ⟨_,e,_⟩:=pl.isList
    exact Heap.lt_size e
  refine Nj (wpAny_pyIter_list pl.isList ?_)
  refine ⟨s.heap.objs.size,[s.heap.objs.size,l],[s.heap.objs.size],its.toArray.size,fun i v=>its.toArray[i]? = some v,_,fun i j=>Fx (ps i) (ps j),rfl,Walks.list (A:=X.A.in1) (I.ok.hd hc) _ l (Nat.ne_of_lt ll) its.toArray,⟨⟨_,Heap.get?_push_size _ rfl,rfl,rfl⟩,pl.isList.push _⟩,fun b hb=>?_,?_,?_,?_⟩
  · show b < (s.heap.push _).objs.size
    rw [Heap.size_push]
    have hb:b=s.heap.objs.size∨b=l:=by simpa using hb
    rcases hb with e | e
    · rw [e];exact Nat.lt_succ_self _
    · rw [e];exact Nat.lt_succ_of_lt ll
  · rw [List.size_toArray];omega
  · intro h1 k1 i j x y s' Q' E' kept hx hy q'
    have go:∀ a o,s.heap.get? a=some o→s'.heap.get? a=some o:=fun a o eo=>by
      have la:=Heap.lt_size eo
      refine kept a o (fun z=>?_) (fun z=>?_) (k1 a o (Heap.get?_push_of_some _ eo))
      · have e2:a=s.heap.objs.size:=by simpa using z
        exact Nat.lt_irrefl _ (e2 ▸ la)
      · have e2:a=(s.heap.push _).objs.size:=z
        rw [Heap.size_push] at e2
        exact Nat.lt_irrefl _ (Nat.lt_of_succ_lt (e2 ▸ la))
    have tup:∀ {a:Addr} {xs:List V},SqT X.K H a xs→∃ us:List Value,Vals xs us∧IsTup s'.heap a us.toArray:=fun {a xs} ht=>by
      obtain ⟨us,r3,⟨o,eo,rest⟩,_⟩:=I.tuple ht
      exact ⟨us,r3,o,go a o eo,rest⟩
    have fact:∀ (i:Nat) (x:Value),its.toArray[i]? = some x→∃ p p1 p2 i1 i2,x=.ref p∧IsTup s'.heap p [Value.ref p1,.ref p2].toArray∧IsTup s'.heap p1 i1∧IsTup s'.heap p2 i2∧IntsAre i1.toList (ps i).1∧IntsAre i2.toList (ps i).2:=fun i x hx=>by
      obtain ⟨v,e1,r2⟩:=Vals.at rv i x (by simpa using hx)
      obtain ⟨p,p1,p2,rfl,t0,t1,t2⟩:=each i v e1
      cases r2
      obtain ⟨us,r0,u0⟩:=tup t0
      obtain ⟨u1,r1,w1⟩:=tup t1
      obtain ⟨u2,r2,w2⟩:=tup t2
      rw [Zo r0] at u0
      exact ⟨p,p1,p2,u1.toArray,u2.toArray,rfl,u0,w1,w2,intsAre_of r1,intsAre_of r2⟩
    obtain ⟨p,p1,p2,i1,i2,rfl,a0,a1,a2,n1,n2⟩:=fact i x hx
    obtain ⟨b,b1,b2,j1,j2,rfl,c0,c1,c2,m1,m2⟩:=fact j y hy
    have in2:X.A.in1.in1.units=X.A.in1.units+1:=rfl
    refine Aa8 a0 c0 ?_ (by omega) q'
    show Lex X.A.in1.in1 s' [.ref p1,.ref p2] [.ref b1,.ref b2] _
    have e1:=Uv (A:=X.A.in1.in1) a1 c1 n1 m1 (by omega)
    have e2:=Uv (A:=X.A.in1.in1) a2 c2 n2 m2 (by omega)
    show Lex X.A.in1.in1 s' [.ref p1,.ref p2] [.ref b1,.ref b2] (if (ps i).1=(ps j).1 then HT.lexLt (ps i).2 (ps j).2 else HT.lexLt (ps i).1 (ps j).1)
    by_cases h1:(ps i).1=(ps j).1
    · rw [if_pos h1]
      rw [decide_eq_true h1] at e1
      refine .eq e1 ?_
      by_cases h2:(ps i).2=(ps j).2
      · rw [decide_eq_true h2] at e2
        rw [h2]
        have:HT.lexLt (ps j).2 (ps j).2=false:=LC _
        rw [this]
        exact .eq e2 .nn
      · rw [decide_eq_false h2] at e2
        exact .lt e2 fun prog w E Q h=>HT.Kf a2 c2 n2 m2 (by omega) h
    · rw [if_neg h1]
      rw [decide_eq_false h1] at e1
      exact .lt e1 fun prog w E Q h=>HT.Kf a1 c1 n1 m1 (by omega) h
  · intro v h' tk hv k
    obtain ⟨x,e1,r2⟩:=Vals.at rv _ v (by simpa using hv)
    rw [hlen] at e1
    refine ⟨x,H,I.kept fun b o e=>k b o (fun z=>?_) (Heap.get?_push_of_some _ e),r2,q x e1⟩
    have e2:b=s.heap.objs.size:=by simpa using z
    have e3:=Heap.lt_size e
    exact Nat.lt_irrefl _ (e2 ▸ e3)
noncomputable def Ks (ps:List (List Int × List Int)):Nat:=argBest (fun i j=>Fx (ps.getD i ([],[])) (ps.getD j ([],[]))) (ps.length - 1)
noncomputable def Aer:DL:=fun ds Q=>∃ ps:List (List Int × List Int),ds=[.lst (ps.map Mr)]∧0 < ps.length∧Ks ps < ps.length∧Q (Mr (ps.getD (Ks ps) ([],[])))
theorem ints_of {K:PySem.W.Frag} {M:Hp} {ns:List Int} {xs:List V} (r:RpL K M (ns.map Dt.int) xs):xs=ns.map V.int:=by
  induction ns generalizing xs with
  | nil=>exact BR.mp r
  | cons n ns ih =>
    obtain ⟨v,w,rfl,r1,r2⟩:=Ax.mp r
    rw [Bj.mp r1,ih r2]
    rfl
theorem AbI {K:PySem.W.Frag} {M:Hp} {a:List Int × List Int} {v:V} (r:Rp K M (Mr a) v):Oa K M v a:=by
  obtain ⟨p,xs,rfl,h1,h2⟩:=Ck.mp r
  obtain ⟨v1,w1,rfl,r1,h2⟩:=Ax.mp h2
  obtain ⟨v2,w2,rfl,r2,h2⟩:=Ax.mp h2
  obtain rfl:=BR.mp h2
  obtain ⟨p1,x1,rfl,g1,k1⟩:=Ck.mp r1
  obtain ⟨p2,x2,rfl,g2,k2⟩:=Ck.mp r2
  rw [ints_of k1] at g1
  rw [ints_of k2] at g2
  exact ⟨p,p1,p2,rfl,h1,g1,g2⟩
theorem Oa.mono {K:PySem.W.Frag} {M M':Hp} {a:List Int × List Int} {v:V} (s:Same M M') (h:Oa K M v a):Oa K M' v a:=by
  obtain ⟨p,p1,p2,e,h1,h2,h3⟩:=h
  exact ⟨p,p1,p2,e,s.seqT h1,s.seqT h2,s.seqT h3⟩
theorem ZG {K:PySem.W.Frag}:WY K (Aey K) Aer where
  mono:=fun hq ⟨ps,e,n0,lt,h⟩=>⟨ps,e,n0,lt,hq _ h⟩
  ok:=fun O H ds xs Q _ r ⟨ps,e,n0,lt,h⟩=>by
    subst e
    obtain ⟨x,r',rfl,r2,r3⟩:=Ax.mp r
    obtain rfl:=BR.mp r3
    obtain ⟨l,vs,rfl,hs,hl⟩:=DP r2
    have len:vs.length=ps.length:=by rw [hl.len,List.length_map]
    have at':∀ (i:Nat) (v:V),vs[i]? = some v→Rp K (mask O H) (Mr (ps.getD i ([],[]))) v:=fun i v e=>by
      obtain ⟨d,e1,e2⟩:=hl.get' e
      rw [List.getElem?_map] at e1
      cases w:ps[i]? with
      | none=>rw [w] at e1;cases e1
      | some a =>
        rw [w] at e1
        cases e1
        rw [List.getD_eq_getElem?_getD,w]
        exact e2
    refine ⟨l,vs,fun i=>ps.getD i ([],[]),rfl,Ba.seq hs,by omega,fun i v e=>(AbI (at' i v e)).mono Ba,fun v e=>?_⟩
    rw [len] at e
    exact h v H (Same.refl H) (at' _ v e)
theorem Ac8 {a:Expr} {tl:DTA} {p pos:Pos} (hm:X.mg "min"=none) (hu:X.A.in1.units+16 < cLine) (ha:DA X [a] tl) (hc:X.calm=true:=by rfl) (hg:Gl X "min":=by rfl) (hv:bootBuiltins "min"=some (.builtin "min"):=by rfl) (he:starEach [a] X.env=(false,eval a X.env) :: starEach [] X.env:=by rfl)
    (hpl:(backTo pos (starEach [] X.env)).any (·.1)=false:=by rfl):DE X (.Call (.Name "min" p) [a] [] pos) (dCB Aer tl):=Uj (Y7 hc hu) ZG hg hm hv ha (he:=he) (hpl:=hpl)
theorem Ae7 {A:Around} (h:A.units+64 < cLine):A.in1.units+16 < cLine:=by show A.units+1+16 < cLine;omega
end
end L2
namespace L2
open PySem PySem.Spec PyProof.Rows PySem.SeqAt
section
variable {P:Program} {w:World} {A:Around} {E:Value→Shared→Prop} {s:Shared}
theorem NZ {j t:Addr} {n:Nat} {its:Array Value} {v:Value} {Q:Value→Shared→Prop} (hj:s.heap.IsTupleIter j t n) (ht:s.heap.IsTuple t its) (hv:its[n]? = some v)
    (q:∀ g,g.IsTupleIter j t (n+1)→Heap.SameBut j s.heap g→Q v { s with heap:=g }):wpAny (model P w) A (Builtin.SmallTypes.nextOf (.ref j)) Q E s:=by
  obtain ⟨oj,gj,cj,dj⟩:=id hj
  obtain ⟨ot,gt,_,nt,dt⟩:=ht
  unfold Builtin.SmallTypes.nextOf
  refine wpAny_bind (wpAny_callSpecial?_slot (name:=Str.ofString "__next__") hj.typeIs F.slot_tuple_iterator_next (wpAny_call_entry F.slot_tuple_iterator_next hj.typeIs F.entry_tuple_iterator_next ?_ (F.args_tuple_iterator_next_1 _)))
  show wpAny _ _ (field (.ref j) 0 >>= _) _ _ s
  refine wpAny_bind (wpAny_field gj dj (x:=.ref t) rfl ?_)
  show wpAny _ _ (if (Value.ref t == Value.none)=true then _ else _) _ _ _
  rw [if_neg (show ¬ (Value.ref t == Value.none)=true from Bool.false_ne_true)]
  show wpAny _ _ (field (.ref j) 1 >>= _) _ _ s
  refine wpAny_bind (wpAny_field gj dj (x:=.int n 0) rfl ?_)
  show wpAny _ _ (seqItems? (.ref t) >>= _) _ _ _
  refine wpAny_bind (wpAny_seqItems gt dt ?_)
  simp only [Int.toNat_natCast,hv]
  exact wpAny_bind (wpAny_setField gj dj (by simp) (wpAny_pure ⟨v,rfl,wpAny_pure (q _ ⟨_,Heap.get?_update_self _ gj (Obj.isFreed_of_fields (Obj.data_mapFields dj _)),(Obj.cls_mapFields ..).trans cj,by rw [Obj.data_mapFields dj];simp [rawInt]⟩ (Heap.SameBut.update ..))⟩))
theorem AbB {j t:Addr} {n:Nat} {its:Array Value} {Q:Value→Shared→Prop} (hh:A.handled=none) (hj:s.heap.IsTupleIter j t n) (ht:s.heap.IsTuple t its) (hv:its[n]? = none)
    (q:∀ g e,Heap.ExtBut j s.heap g→(∃ o,g.get? e=some o∧o.cls=.type "StopIteration")→E (.ref e) { s with heap:=g }):wpAny (model P w) A (Builtin.SmallTypes.nextOf (.ref j)) Q E s:=by
  obtain ⟨oj,gj,cj,dj⟩:=id hj
  obtain ⟨ot,gt,_,nt,dt⟩:=ht
  unfold Builtin.SmallTypes.nextOf
  refine wpAny_bind (wpAny_callSpecial?_slot (name:=Str.ofString "__next__") hj.typeIs F.slot_tuple_iterator_next (wpAny_call_entry F.slot_tuple_iterator_next hj.typeIs F.entry_tuple_iterator_next ?_ (F.args_tuple_iterator_next_1 _)))
  show wpAny _ _ (field (.ref j) 0 >>= _) _ _ s
  refine wpAny_bind (wpAny_field gj dj (x:=.ref t) rfl ?_)
  show wpAny _ _ (if (Value.ref t == Value.none)=true then _ else _) _ _ _
  rw [if_neg (show ¬ (Value.ref t == Value.none)=true from Bool.false_ne_true)]
  show wpAny _ _ (field (.ref j) 1 >>= _) _ _ s
  refine wpAny_bind (wpAny_field gj dj (x:=.int n 0) rfl ?_)
  show wpAny _ _ (seqItems? (.ref t) >>= _) _ _ _
  refine wpAny_bind (wpAny_seqItems gt dt ?_)
  simp only [Int.toNat_natCast,hv]
  refine wpAny_bind (wpAny_rule (wpAny_bind (wpAny_setField gj dj (by simp) ?_)))
  show wpAny _ _ (newExc (.type "StopIteration") [] >>= _) _ _ _;refine wpAny_bind ?_
  simp only [newExc,newTuple];refine wpAny_bind (wpAny_newObj_type ?_ (by size_fits))
  refine wpAny_bind (m:=firstArgMember _ _) (wpAny_of_eq (a:=Value.none) (by first | (simp only [firstArgMember];rfl) | rfl) ?_);refine wpAny_newObj_type ?_ (by size_fits)
  simp only [raiseNew];refine wpAny_bind (wpAny_handled ?_)
  first | rw [hh] | rw [show A.in1.handled=none from hh]
  exact wpAny_bind (wpAny_pure (wpAny_throw (q _ _ (((Heap.SameBut.update ..).extBut.push _).push _) ⟨_,Heap.get?_push_size _ rfl,rfl⟩)))
noncomputable def HF (h:Heap) (z p o:Addr) (u v:Value):Prop:=h.get? z=some { cls:=.type "zip",dict:=none,data:=.fields #[u,v,.bool false,.ref p,.ref o],slots:=#[] }
noncomputable def Afu (u:Value):Prop:=u=.none∨∃ k t,u=.int k t
structure Qj (z p o i j a b:Addr):Prop where
  pz:p≠z
  oz:o≠z
  iz:i≠z
  jz:j≠z
  po:p≠o
  pi:p≠i
  pj:p≠j
  oi:o≠i
  oj:o≠j
  ij:i≠j
  az:a≠z
  ao:a≠o
  ai:a≠i
  aj:a≠j
  bz:b≠z
  bo:b≠o
  bi:b≠i
  bj:b≠j
structure J2 (h:Heap) (z p o i j a b:Addr) (k:Nat) (xs ys:Array Value):Prop where
  zip:∃ u v,HF h z p o u v∧Afu u
  its:IsPair h p (.ref i) (.ref j)
  row:∃ x y,IsPair h o x y
  i1:h.IsTupleIter i a k
  i2:h.IsTupleIter j b k
  t1:h.IsTuple a xs
  t2:h.IsTuple b ys
theorem TX {M:Model} {a:Addr} {Q:Option Obj→Shared→Prop} (h:Q (s.heap.get? a) s):wpAny M A (loadIfAlive a) Q E s:=fun Γ p _=>by
  show Sem.wp M Γ (.loadIfAlive a _) _ _ p s
  rw [Sem.wp_loadIfAlive]
  exact (Sem.wp_pure ..).mpr h
theorem Xf {z p o:Addr} {u v:Value} (hz:HF s.heap z p o u v) (hu:Afu u):wpAny (model P w) A (Builtin.SmallTypes.ownedTupleIsFree (.ref z)) (fun _ s'=>∃ g v',s' = { s with heap:=g }∧HF g z p o u v'∧Heap.SameBut z s.heap g) E s:=by
  unfold Builtin.SmallTypes.ownedTupleIsFree
  refine wpAny_bind (wpAny_field hz rfl (x:=u) rfl ?_)
  rcases hu with rfl | ⟨n,tk,rfl⟩
  · exact wpAny_pure ⟨s.heap,v,rfl,hz,rfl,fun _ _=>rfl⟩
  · show wpAny _ _ (loadIfAlive n.toNat >>= _) _ _ _
    refine wpAny_bind (TX ?_)
    cases hg:s.heap.get? n.toNat with
    | none=>exact wpAny_pure ⟨s.heap,v,rfl,hz,rfl,fun _ _=>rfl⟩
    | some _ =>
      show wpAny _ _ (field (.ref z) 1 >>= _) _ _ _
      refine wpAny_bind (wpAny_field hz rfl (x:=v) rfl ?_)
      by_cases hv:(v != Value.bool true)=true
      · dsimp only
        rw [if_pos hv]
        exact wpAny_bind (wpAny_setField_rec hz (by simp) fun g z1 s1=>wpAny_pure ⟨g,.bool true,rfl,z1,s1⟩)
      · dsimp only
        rw [if_neg hv]
        exact wpAny_pure ⟨s.heap,v,rfl,hz,rfl,fun _ _=>rfl⟩
theorem AaM {z p o i j a b:Addr} {k:Nat} {xs ys:Array Value} {x y:Value} {Q:Value→Shared→Prop} (D:Qj z p o i j a b) (Z:J2 s.heap z p o i j a b k xs ys) (hx:xs[k]? = some x) (hy:ys[k]? = some y)
    (q:∀ g T,J2 g z p o i j a b (k+1) xs ys→IsPair g T x y→s.heap.objs.size≤T→(∀ c m,c≠z→c≠o→c≠i→c≠j→s.heap.get? c=some m→g.get? c=some m)→Q (.ref T) { s with heap:=g }) :
    wpAny (model P w) A (Builtin.«zip.__next__» ⟨[.ref z],[]⟩) (fun fin s'=>∃ v,fin=.done (.ret v)∧Q v s') E s:=by
  obtain ⟨⟨u,v,hz,hu⟩,hp,⟨x0,y0,ho⟩,h1,h2,l1,l2⟩:=Z
  show wpAny _ _ (field (.ref z) 2 >>= _) _ _ _
  refine wpAny_bind (wpAny_field hz rfl (x:=.bool false) rfl ?_)
  show wpAny _ _ (field (.ref z) 3 >>= _) _ _ _
  refine wpAny_bind (wpAny_field hz rfl (x:=.ref p) rfl (wpAny_bind (wpAny_seqItems hp rfl ?_)))
  show wpAny _ _ (Builtin.SmallTypes.ownedTupleIsFree (.ref z) >>= _) _ _ _
  refine wpAny_bind (wpAny_mono (Xf hz hu) (fun r s' ⟨g,v',e,hz',sb⟩=>?_) fun _ _ z=>z)
  subst e
  cases r with
  | true =>
    simp only [if_true]
    refine wpAny_bind (wpAny_rule (wpAny_bind (wpAny_field hz' rfl (x:=.ref o) rfl ?_)))
    refine wpAny_bind (wpAny_setField_rec hz' (by simp) fun g1 z1 s1=>?_)
    replace z1:HF g1 z p o .ellipsis v':=z1
    refine wpAny_bind ?_
    simp only [List.zipIdx_cons,List.zipIdx_nil,List.forIn_cons,List.forIn_nil]
    have b1:∀ c m,c≠z→s.heap.get? c=some m→g1.get? c=some m:=fun c m n e=>s1.extBut _ _ n (sb.extBut _ _ n e)
    refine wpAny_bind (wpAny_bind (wpAny_onRaise ?_))
    show wpAny _ _ (Builtin.SmallTypes.nextOf (.ref i) >>= _) _ _ _
    refine wpAny_bind (NZ (s:={ s with heap:=g1 }) (h1.at fun m e=>b1 _ m D.iz e) (l1.at fun m e=>b1 _ m D.az e) hx fun g2 i2 s2=>wpAny_pure ?_)
    have o2:IsPair g2 o x0 y0:=s2.extBut _ _ D.oi (b1 _ _ D.oz ho)
    refine wpAny_bind (wpAny_seqItems o2 rfl (wpAny_bind (wpAny_updateSeq_pair o2 fun g3 o3 s3=>wpAny_bind (wpAny_letGo (wpAny_pure ?_)))))
    replace o3:IsPair g3 o x y0:=o3
    have b3:∀ c m,c≠z→c≠i→c≠o→s.heap.get? c=some m→g3.get? c=some m:=fun c m n1 n2 n3 e=>s3.extBut _ _ n3 (s2.extBut _ _ n2 (b1 _ _ n1 e))
    refine wpAny_bind (wpAny_bind (wpAny_onRaise ?_))
    show wpAny _ _ (Builtin.SmallTypes.nextOf (.ref j) >>= _) _ _ _
    refine wpAny_bind (NZ (s:={ s with heap:=g3 }) (h2.at fun m e=>b3 _ m D.jz D.ij.symm D.oj.symm e) (l2.at fun m e=>b3 _ m D.bz D.bi D.bo e) hy fun g4 j4 s4=>wpAny_pure ?_)
    have o4:IsPair g4 o x y0:=s4.extBut _ _ D.oj o3
    refine wpAny_bind (wpAny_seqItems o4 rfl (wpAny_bind (wpAny_updateSeq_pair o4 fun g5 o5 s5=>wpAny_bind (wpAny_letGo (wpAny_pure (wpAny_pure ?_))))))
    replace o5:IsPair g5 o x y:=o5
    have b5:∀ c m,c≠z→c≠o→c≠i→c≠j→s.heap.get? c=some m→g5.get? c=some m:=fun c m n1 n2 n3 n4 e=>s5.extBut _ _ n2 (s4.extBut _ _ n4 (b3 _ _ n1 n3 n2 e))
    have z5:HF g5 z p o .ellipsis v':=s5.extBut _ _ D.oz.symm (s4.extBut _ _ D.jz.symm (s3.extBut _ _ D.oz.symm (s2.extBut _ _ D.iz.symm z1)))
    have i5:g5.IsTupleIter i a (k+1):=i2.at fun m e=>s5.extBut _ _ D.oi.symm (s4.extBut _ _ D.ij (s3.extBut _ _ D.oi.symm e))
    have j5:g5.IsTupleIter j b (k+1):=j4.at fun m e=>s5.extBut _ _ D.oj.symm e
    have sz:g5.objs.size=s.heap.objs.size:=by rw [s5.1,s4.1,s3.1,s2.1,s1.1,sb.1]
    refine wpAny_bind (wpAny_seqItems o5 rfl (wpAny_bind (wpAny_newTuple ?_)))
    show wpAny _ _ (Builtin.SmallTypes.ownedTupleHandOut (.ref z) (.ref g5.objs.size) >>= _) _ _ _
    refine wpAny_bind ?_
    unfold Builtin.SmallTypes.ownedTupleHandOut
    have z6:HF (g5.push { cls:=.type "tuple",data:=.seq #[x,y] }) z p o .ellipsis v':=Heap.get?_push_of_some _ z5
    refine wpAny_bind (wpAny_setField_rec z6 (by simp) fun g7 z7 s7=>?_)
    replace z7:HF g7 z p o (rawInt g5.objs.size) v':=z7
    refine wpAny_setField_rec z7 (by simp) fun g8 z8 s8=>wpAny_pure ⟨_,rfl,?_⟩
    replace z8:HF g8 z p o (rawInt g5.objs.size) (.bool false):=z8
    have b8:∀ c m,c≠z→g5.get? c=some m→g8.get? c=some m:=fun c m n e=>s8.extBut _ _ n (s7.extBut _ _ n (Heap.get?_push_of_some _ e))
    have lz:z < g5.objs.size:=Heap.lt_size z5
    refine q g8 g5.objs.size ⟨⟨_,_,z8,.inr ⟨_,_,rfl⟩⟩,b8 _ _ D.pz (b5 _ _ D.pz D.po D.pi D.pj hp),⟨x,y,b8 _ _ D.oz o5⟩,i5.at fun m e=>b8 _ m D.iz e,j5.at fun m e=>b8 _ m D.jz e,l1.at fun m e=>b8 _ m D.az (b5 _ m D.az D.ao D.ai D.aj e),l2.at fun m e=>b8 _ m D.bz (b5 _ m D.bz D.bo D.bi D.bj e)⟩ ?_ (by rw [sz];exact Nat.le_refl _) fun c m n1 n2 n3 n4 e=>b8 c m n1 (b5 c m n1 n2 n3 n4 e)
    exact s8.extBut _ _ (Nat.ne_of_gt lz) (s7.extBut _ _ (Nat.ne_of_gt lz) (Heap.get?_push_size _ rfl))
  | false =>
    simp only [Bool.false_eq_true,if_false]
    rw [←Array.forIn_toList]
    simp only [List.forIn_cons,List.forIn_nil]
    have b0:∀ c m,c≠z→s.heap.get? c=some m→g.get? c=some m:=fun c m n e=>sb.extBut _ _ n e
    refine wpAny_bind (wpAny_bind (wpAny_bind (wpAny_holding ?_)))
    show wpAny _ _ (Builtin.SmallTypes.nextOf (.ref i) >>= _) _ _ _
    refine wpAny_bind (NZ (s:={ s with heap:=g }) (h1.at fun m e=>b0 _ m D.iz e) (l1.at fun m e=>b0 _ m D.az e) hx fun g2 i2 s2=>wpAny_pure (wpAny_pure ?_))
    have b2:∀ c m,c≠z→c≠i→s.heap.get? c=some m→g2.get? c=some m:=fun c m n1 n2 e=>s2.extBut _ _ n2 (b0 _ _ n1 e)
    refine wpAny_bind (wpAny_bind (wpAny_holding ?_))
    show wpAny _ _ (Builtin.SmallTypes.nextOf (.ref j) >>= _) _ _ _
    refine wpAny_bind (NZ (s:={ s with heap:=g2 }) (h2.at fun m e=>b2 _ m D.jz D.ij.symm e) (l2.at fun m e=>b2 _ m D.bz D.bi e) hy fun g4 j4 s4=>wpAny_pure (wpAny_pure (wpAny_pure ?_)))
    have b4:∀ c m,c≠z→c≠i→c≠j→s.heap.get? c=some m→g4.get? c=some m:=fun c m n1 n2 n3 e=>s4.extBut _ _ n3 (b2 _ _ n1 n2 e)
    have z4:HF g4 z p o u v':=s4.extBut _ _ D.jz.symm (s2.extBut _ _ D.iz.symm hz')
    have i4:g4.IsTupleIter i a (k+1):=i2.at fun m e=>s4.extBut _ _ D.ij e
    have sz:g4.objs.size=s.heap.objs.size:=by rw [s4.1,s2.1,sb.1]
    have up:∀ {c m},g4.get? c=some m→(g4.push { cls:=.type "tuple",data:=.seq #[x,y] }).get? c=some m:=fun e=>Heap.get?_push_of_some _ e
    refine wpAny_bind (wpAny_newTuple (wpAny_pure ⟨_,rfl,?_⟩) (show 2≤sizeLine by decide))
    exact q _ g4.objs.size ⟨⟨_,_,up z4,hu⟩,up (b4 _ _ D.pz D.pi D.pj hp),⟨x0,y0,up (b4 _ _ D.oz D.oi D.oj ho)⟩,i4.at fun m e=>up e,j4.at fun m e=>up e,l1.at fun m e=>up (b4 _ m D.az D.ai D.aj e),l2.at fun m e=>up (b4 _ m D.bz D.bi D.bj e)⟩ (Heap.get?_push_size _ rfl) (by rw [sz];exact Nat.le_refl _) fun c m n1 n2 n3 n4 e=>up (b4 c m n1 n3 n4 e)
theorem Acq {z p o i j a b:Addr} {k:Nat} {xs ys:Array Value} {Q:Fin→Shared→Prop} (hh:A.handled=none) (D:Qj z p o i j a b) (Z:J2 s.heap z p o i j a b k xs ys) (hx:xs[k]? = none)
    (q:∀ g e,(∀ c m,c≠z→c≠o→c≠i→c≠j→s.heap.get? c=some m→g.get? c=some m)→(∃ m,g.get? e=some m∧m.cls=.type "StopIteration")→E (.ref e) { s with heap:=g }) :
    wpAny (model P w) A (Builtin.«zip.__next__» ⟨[.ref z],[]⟩) Q E s:=by
  obtain ⟨⟨u,v,hz,hu⟩,hp,⟨x0,y0,ho⟩,h1,h2,l1,l2⟩:=Z
  show wpAny _ _ (field (.ref z) 2 >>= _) _ _ _
  refine wpAny_bind (wpAny_field hz rfl (x:=.bool false) rfl ?_)
  show wpAny _ _ (field (.ref z) 3 >>= _) _ _ _
  refine wpAny_bind (wpAny_field hz rfl (x:=.ref p) rfl (wpAny_bind (wpAny_seqItems hp rfl ?_)))
  show wpAny _ _ (Builtin.SmallTypes.ownedTupleIsFree (.ref z) >>= _) _ _ _
  refine wpAny_bind (wpAny_mono (Xf hz hu) (fun r s' ⟨g,v',e,hz',sb⟩=>?_) fun _ _ z=>z)
  subst e
  cases r with
  | true =>
    simp only [if_true]
    refine wpAny_bind (wpAny_rule (wpAny_bind (wpAny_field hz' rfl (x:=.ref o) rfl ?_)))
    refine wpAny_bind (wpAny_setField_rec hz' (by simp) fun g1 z1 s1=>?_)
    replace z1:HF g1 z p o .ellipsis v':=z1
    refine wpAny_bind ?_
    simp only [List.zipIdx_cons,List.zipIdx_nil,List.forIn_cons,List.forIn_nil]
    have b1:∀ c m,c≠z→s.heap.get? c=some m→g1.get? c=some m:=fun c m n e=>s1.extBut _ _ n (sb.extBut _ _ n e)
    refine wpAny_bind (wpAny_bind (wpAny_onRaise ?_))
    show wpAny _ _ (Builtin.SmallTypes.nextOf (.ref i) >>= _) _ _ _
    refine wpAny_bind (AbB (s:={ s with heap:=g1 }) hh (h1.at fun m e=>b1 _ m D.iz e) (l1.at fun m e=>b1 _ m D.az e) hx fun g2 e s2 ⟨m,he,hc⟩=>?_)
    have z2:HF g2 z p o .ellipsis v':=s2 _ _ D.iz.symm z1
    have ne:e≠z:=fun x=>by subst x;rw [z2] at he;cases he;simp at hc
    exact wpAny_setField_rec z2 (by simp) fun g3 _ s3=>q g3 e (fun c m n1 _ n3 _ e=>s3.extBut _ _ n1 (s2 _ _ n3 (b1 _ _ n1 e))) ⟨m,s3.extBut _ _ ne he,hc⟩
  | false =>
    simp only [Bool.false_eq_true,if_false]
    rw [←Array.forIn_toList]
    simp only [List.forIn_cons,List.forIn_nil]
    refine wpAny_bind (wpAny_bind (wpAny_bind (wpAny_holding ?_)))
    show wpAny _ _ (Builtin.SmallTypes.nextOf (.ref i) >>= _) _ _ _
    exact wpAny_bind (AbB (s:={ s with heap:=g }) hh (h1.at fun m e=>sb.extBut _ m D.iz e) (l1.at fun m e=>sb.extBut _ m D.az e) hx fun g2 e s2 he=>q g2 e (fun c m n1 _ n3 _ e=>s2 _ _ n3 (sb.extBut _ _ n1 e)) he)
theorem Aa3 {z p o i j a b:Addr} {k:Nat} {xs ys:Array Value} {x y:Value} {Q:Option Value→Shared→Prop} (D:Qj z p o i j a b) (Z:J2 s.heap z p o i j a b k xs ys) (hx:xs[k]? = some x) (hy:ys[k]? = some y)
    (q:∀ g T,J2 g z p o i j a b (k+1) xs ys→IsPair g T x y→s.heap.objs.size≤T→(∀ c m,c≠z→c≠o→c≠i→c≠j→s.heap.get? c=some m→g.get? c=some m)→Q (some (.ref T)) { s with heap:=g }) :
    wpAny (model P w) A (pyNext (.ref z)) Q E s:=by
  obtain ⟨u,v,hz,_⟩:=Z.zip
  have ty:s.TypeIs (.ref z) "zip":=⟨_,hz,rfl⟩
  unfold pyNext
  exact wpAny_bind (wpAny_attempt (wpAny_callSpecial?_slot (name:=Str.ofString "__next__") ty F.slot_zip_next (wpAny_call_entry F.slot_zip_next ty F.entry_zip_next (AaM D Z hx hy fun g T e1 e2 e3 e4=>wpAny_pure (q g T e1 e2 e3 e4)) (F.args_zip_next_1 _))))
theorem Aab {z p o i j a b:Addr} {k:Nat} {xs ys:Array Value} {Q:Option Value→Shared→Prop} (hh:A.handled=none) (D:Qj z p o i j a b) (Z:J2 s.heap z p o i j a b k xs ys) (hx:xs[k]? = none)
    (q:∀ g,(∀ c m,c≠z→c≠o→c≠i→c≠j→s.heap.get? c=some m→g.get? c=some m)→Q none { s with heap:=g }):wpAny (model P w) A (pyNext (.ref z)) Q E s:=by
  obtain ⟨u,v,hz,_⟩:=Z.zip
  have ty:s.TypeIs (.ref z) "zip":=⟨_,hz,rfl⟩
  unfold pyNext
  refine wpAny_bind (wpAny_attempt (wpAny_callSpecial?_slot (name:=Str.ofString "__next__") ty F.slot_zip_next (wpAny_call_entry F.slot_zip_next ty F.entry_zip_next (Acq hh D Z hx fun g e hk ⟨m,he,hc⟩=>?_) (F.args_zip_next_1 _))))
  exact wpAny_bind (wpAny_isInstance (T:="StopIteration") (b:=true) ⟨m,he,hc⟩ isSubtype_stop (wpAny_pure (q _ hk)))
theorem TF {z p o:Addr} {u v:Value} {Q:Value→Shared→Prop} (hz:HF s.heap z p o u v) (q:Q (.ref z) s):wpAny (model P w) A (pyIter (.ref z)) Q E s:=by
  have ty:s.TypeIs (.ref z) "zip":=⟨_,hz,rfl⟩
  refine wpAny_pyIter_slot ty F.slot_zip_iter (wpAny_call_entry F.slot_zip_iter ty F.entry_zip_iter ?_ (F.args_zip_iter_1 _))
  show wpAny _ _ (ret (.ref z)) _ _ _
  exact wpAny_pure ⟨_,rfl,"zip",_,ty,F.slot_zip_next.lookup,q⟩
noncomputable abbrev zA (h:Heap) (a:Addr):Heap:=h.push { cls:=.type "tuple_iterator",data:=.fields #[.ref a,.int 0 0] }
noncomputable abbrev zB (h:Heap) (a b:Addr):Heap:=(zA h a).push { cls:=.type "tuple_iterator",data:=.fields #[.ref b,.int 0 0] }
noncomputable abbrev zC (h:Heap) (a b:Addr):Heap:=(zB h a b).push { cls:=.type "tuple",data:=.seq #[.ref h.objs.size,.ref (zA h a).objs.size] }
noncomputable abbrev zD (h:Heap) (a b:Addr):Heap:=(zC h a b).push { cls:=.type "tuple",data:=.seq #[.none,.none] }
noncomputable abbrev zE (h:Heap) (a b:Addr):Heap:=(zD h a b).push { cls:=.type "zip",data:=.fields #[.none,.bool false,.bool false,.ref (zB h a b).objs.size,.ref (zC h a b).objs.size] }
theorem AcL (a b:Addr) (xs ys:Array Value):Meets (Builtin.«zip.__new__» ⟨[.type "zip",.ref a,.ref b],[]⟩) (fun _ R s=>s.heap.IsTuple a xs∧s.heap.IsTuple b ys∧R (.ok (.ret (.ref (zD s.heap a b).objs.size))) { s with heap:=zE s.heap a b }) :=
  .of_wp fun P w A R s h=>by
    obtain ⟨hp,gs,dr,tk,os⟩:=s;obtain ⟨t1,t2,h⟩:=h
    have sz:=sub_zip
    have m1:Heap.IsTuple (Shared.heap ⟨hp,gs,dr,tk,os⟩) a xs:=t1
    have m2:Heap.IsTuple (Shared.heap ⟨hp.push { cls:=.type "tuple_iterator",data:=.fields #[.ref a,.int 0 0] },gs,dr,tk,os⟩) b ys:=Heap.IsTuple.push t2 _
    wp_walk using wpAny_pyIter_tuple m1,wpAny_pyIter_tuple m2
    exact ⟨_,rfl,h⟩
theorem AjP {n a b:Nat} (la:a < n) (lb:b < n):Qj (n+4) (n+2) (n+3) n (n+1) a b where
  pz:=fun e=>absurd (show (n+2:Nat)=n+4 from e) (by omega)
  oz:=fun e=>absurd (show (n+3:Nat)=n+4 from e) (by omega)
  iz:=fun e=>absurd (show (n:Nat)=n+4 from e) (by omega)
  jz:=fun e=>absurd (show (n+1:Nat)=n+4 from e) (by omega)
  po:=fun e=>absurd (show (n+2:Nat)=n+3 from e) (by omega)
  pi:=fun e=>absurd (show (n+2:Nat)=n from e) (by omega)
  pj:=fun e=>absurd (show (n+2:Nat)=n+1 from e) (by omega)
  oi:=fun e=>absurd (show (n+3:Nat)=n from e) (by omega)
  oj:=fun e=>absurd (show (n+3:Nat)=n+1 from e) (by omega)
  ij:=fun e=>absurd (show (n:Nat)=n+1 from e) (by omega)
  az:=fun e=>absurd (show (a:Nat)=n+4 from e) (by omega)
  ao:=fun e=>absurd (show (a:Nat)=n+3 from e) (by omega)
  ai:=fun e=>absurd (show (a:Nat)=n from e) (by omega)
  aj:=fun e=>absurd (show (a:Nat)=n+1 from e) (by omega)
  bz:=fun e=>absurd (show (b:Nat)=n+4 from e) (by omega)
  bo:=fun e=>absurd (show (b:Nat)=n+3 from e) (by omega)
  bi:=fun e=>absurd (show (b:Nat)=n from e) (by omega)
  bj:=fun e=>absurd (show (b:Nat)=n+1 from e) (by omega)
theorem Zu {a b:Addr} {xs ys:Array Value} {Q:Value→Shared→Prop} (t1:s.heap.IsTuple a xs) (t2:s.heap.IsTuple b ys)
    (q:∀ g z p o i j,Qj z p o i j a b→J2 g z p o i j a b 0 xs ys→(∀ c∈[z,p,o,i,j],s.heap.objs.size≤c)→(∀ c m,s.heap.get? c=some m→g.get? c=some m)→Q (.ref z) { s with heap:=g }) :
    wpAny (model P w) A (call (.type "zip") [.ref a,.ref b]) Q E s:=by
  refine callType_new F.called_zip (by decide) (F.typeCall_zip_2 _ _) (F.newCall_zip_2 _ _) (fun obj=>F.args_object_init_3 obj _ _) F.entry_zip_new (AcL a b xs ys) ⟨t1,t2,?_⟩
  have n1:(zA s.heap a).objs.size=s.heap.objs.size+1:=Heap.size_push ..
  have n2:(zB s.heap a b).objs.size=s.heap.objs.size+2:=by rw [Heap.size_push,n1]
  have n3:(zC s.heap a b).objs.size=s.heap.objs.size+3:=by rw [Heap.size_push,n2]
  have n4:(zD s.heap a b).objs.size=s.heap.objs.size+4:=by rw [Heap.size_push,n3]
  have g5:(zE s.heap a b).get? (zD s.heap a b).objs.size=some _:=Heap.get?_push_size _ rfl
  have g4:(zE s.heap a b).get? (zC s.heap a b).objs.size=some _:=Heap.get?_push_of_some _ (Heap.get?_push_size _ rfl)
  have g3:(zE s.heap a b).get? (zB s.heap a b).objs.size=some _:=Heap.get?_push_of_some _ (Heap.get?_push_of_some _ (Heap.get?_push_size _ rfl))
  have g2:(zE s.heap a b).get? (zA s.heap a).objs.size=some _:=Heap.get?_push_of_some _ (Heap.get?_push_of_some _ (Heap.get?_push_of_some _ (Heap.get?_push_size _ rfl)))
  have g1:(zE s.heap a b).get? s.heap.objs.size=some _:=Heap.get?_push_of_some _ (Heap.get?_push_of_some _ (Heap.get?_push_of_some _ (Heap.get?_push_of_some _ (Heap.get?_push_size _ rfl))))
  have up:∀ c m,s.heap.get? c=some m→(zE s.heap a b).get? c=some m:=fun c m e=>Heap.get?_push_of_some _ (Heap.get?_push_of_some _ (Heap.get?_push_of_some _ (Heap.get?_push_of_some _ (Heap.get?_push_of_some _ e))))
  have la:a < s.heap.objs.size:=by obtain ⟨_,e,_⟩:=t1;exact Heap.lt_size e
  have lb:b < s.heap.objs.size:=by obtain ⟨_,e,_⟩:=t2;exact Heap.lt_size e
  show _∧_
  refine ⟨⟨_,g5,rfl⟩,q _ _ (zB s.heap a b).objs.size (zC s.heap a b).objs.size s.heap.objs.size (zA s.heap a).objs.size ?_ ⟨⟨_,_,g5,.inl rfl⟩,g3,⟨_,_,g4⟩,⟨_,g1,rfl,rfl⟩,⟨_,g2,rfl,rfl⟩,t1.at fun m e=>up _ m e,t2.at fun m e=>up _ m e⟩ ?_ up⟩
  · rw [n1,n2,n3,n4]
    exact AjP la lb
  · intro c hc
    simp only [List.mem_cons,List.not_mem_nil,or_false] at hc
    rw [n1,n2,n3,n4] at hc
    rcases hc with rfl | rfl | rfl | rfl | rfl
    · exact Nat.le_add_right ..
    · exact Nat.le_add_right ..
    · exact Nat.le_add_right ..
    · exact Nat.le_refl _
    · exact Nat.le_add_right ..
end
noncomputable def Itz (K:PySem.W.Frag) (a b:Addr):It :=
  ⟨fun i H=>∃ xs ys x y,SqT K H a xs∧SqT K H b ys∧xs[i]? = some x∧ys[i]? = some y,
   fun i H v H'=>∃ T x y,v=.ref T∧H T=none∧H'=upd H T (.tup [x,y])∧(∀ xs,SqT K H a xs→xs[i]? = some x)∧∀ ys,SqT K H b ys→ys[i]? = some y,
   fun i H=>∃ xs ys,SqT K H a xs∧SqT K H b ys∧xs.length≤i⟩
section
variable {X:Cx} {tg:Expr} {pins:List (Addr × Obj)} {σ:St} {H:Hp} {s:Shared} {g:Heap}
theorem Inv.turnLay {ch:List Addr} {T:Addr} {o:HO} (I:Inv X pins σ H s) (k:∀ b u,b∉ch→s.heap.get? b=some u→g.get? b=some u) (hch:∀ b∈ch,KH X pins H b) (hT:s.heap.objs.size≤T)
    (new:Hl X.prog X.w (upd H T o) g T o):Inv X pins σ (upd H T o) { s with heap:=g }:=by
  have nT:H T=none:=I.hok.fresh hT
  have nit:∀ b u,H b=some u→b∉ch:=fun b u e z=>by rw [(hch b z).1] at e;cases e
  have lt:∀ b u,s.heap.get? b=some u→b≠T:=fun b u e=>Nat.ne_of_lt (Nat.lt_of_lt_of_le (Heap.lt_size e) hT)
  refine I.step (g':=s.gens) (d':=s.drawn) (t':=s.toks) (ch:=ch) (fun b hb=>?_) (fun b u _ _ hc e _=>k b u hc e) (fun b u _ _ hc e _=>⟨u.slots,k b u hc e⟩) (fun b u _ e n=>by rw [Aw (lt b u e)];exact n)
    (fun b u hc e=>⟨u,k b u hc e⟩) (fun b xs e=>by rw [Aw (Bv e nT)];exact e) (fun b u xs e=>by rw [Aw (Bv e nT)];exact e) (fun b ps e=>⟨#[],by rw [Aw (Bv e nT),e];simp⟩) (fun m hm=>?_) (fun b u e=>?_) I.bare
  · obtain ⟨_,f1,_,f3,f4,f5⟩:=hch b hb
    exact ⟨f3,f1,f4,f5⟩
  · obtain ⟨u,es,ep,hu,r⟩:=hm
    exact ⟨u,es,ep,k _ u (fun z=>(hch _ z).2.1 rfl) hu,r⟩
  · by_cases z:b=T
    · subst z
      rw [Bh] at e;cases e
      exact new
    · rw [Aw z] at e
      refine (I.hok b u e).stay (fun c v hc q=>k c v ?_ q) (fun c q=>by rw [Aw (Bv q nT)];exact q) fun c xs q=>by rw [Aw (Bv q nT)];exact q
      rcases hc with z | z
      · rw [z];exact nit b u e
      · exact nit c _ z
theorem Inv.turnAll {ch:List Addr} (I:Inv X pins σ H s) (k:∀ b u,b∉ch→s.heap.get? b=some u→g.get? b=some u) (hch:∀ b∈ch,KH X pins H b):Inv X pins σ H { s with heap:=g }:=by
  have nit:∀ b u,H b=some u→b∉ch:=fun b u e z=>by rw [(hch b z).1] at e;cases e
  refine I.step (g':=s.gens) (d':=s.drawn) (t':=s.toks) (ch:=ch) (fun b hb=>?_) (fun b u _ _ hc e _=>k b u hc e) (fun b u _ _ hc e _=>⟨u.slots,k b u hc e⟩) (fun b u _ e n=>n)
    (fun b u hc e=>⟨u,k b u hc e⟩) (fun b xs e=>e) (fun b u xs e=>e) (fun b ps e=>⟨#[],by rw [e];simp⟩) (fun m hm=>?_) (fun b u e=>?_) I.bare
  · obtain ⟨_,f1,_,f3,f4,f5⟩:=hch b hb
    exact ⟨f3,f1,f4,f5⟩
  · obtain ⟨u,es,ep,hu,r⟩:=hm
    exact ⟨u,es,ep,k _ u (fun z=>(hch _ z).2.1 rfl) hu,r⟩
  · refine (I.hok b u e).stay (fun c v hc q=>k c v ?_ q) (fun c q=>q) fun c xs q=>q
    rcases hc with z | z
    · rw [z];exact nit b u e
    · exact nit c _ z
structure W2 (z p o i j a b:Addr) (k:Nat) (h:Heap):Prop where
  zip:∃ u v,HF h z p o u v∧Afu u
  its:IsPair h p (.ref i) (.ref j)
  row:∃ x y,IsPair h o x y
  i1:h.IsTupleIter i a k
  i2:h.IsTupleIter j b k
theorem W2.on {h:Heap} {z p o i j a b:Addr} {k:Nat} {xs ys:Array Value} (Z:W2 z p o i j a b k h) (t1:h.IsTuple a xs) (t2:h.IsTuple b ys):J2 h z p o i j a b k xs ys:=⟨Z.zip,Z.its,Z.row,Z.i1,Z.i2,t1,t2⟩
theorem J2.tn {h:Heap} {z p o i j a b:Addr} {k:Nat} {xs ys:Array Value} (Z:J2 h z p o i j a b k xs ys):W2 z p o i j a b k h:=⟨Z.zip,Z.its,Z.row,Z.i1,Z.i2⟩
theorem Aaz {P:Program} {w:World} {K:PySem.W.Frag} {x:Str} {px:Pos} {z p o i j a b:Addr} (D:Qj z p o i j a b):Turn P w K (.Name x px) (Itz K a b) [z,p,o,i,j] z (W2 z p o i j a b) where
  mem:=by simp
  obj:=fun n h Z c hc=>by
    obtain ⟨⟨u,v,e1,_⟩,e2,⟨x,y,e3⟩,⟨m4,e4,_,d4⟩,⟨m5,e5,_,d5⟩⟩:=Z
    simp only [List.mem_cons,List.not_mem_nil,or_false] at hc
    rcases hc with rfl | rfl | rfl | rfl | rfl
    · exact ⟨_,e1,fun v q=>by cases (show Data.fields _=Data.cell v from q)⟩
    · exact ⟨_,e2,fun v q=>by cases (show Data.seq _ _=Data.cell v from q)⟩
    · exact ⟨_,e3,fun v q=>by cases (show Data.seq _ _=Data.cell v from q)⟩
    · exact ⟨m4,e4,fun v q=>by rw [d4] at q;cases q⟩
    · exact ⟨m5,e5,fun v q=>by rw [d5] at q;cases q⟩
  keep:=fun n h h' Z k=>by
    obtain ⟨⟨u,v,e1,l⟩,e2,⟨x,y,e3⟩,h4,h5⟩:=Z
    exact ⟨⟨u,v,k z (by simp) _ e1,l⟩,k p (by simp) _ e2,⟨x,y,k o (by simp) _ e3⟩,h4.at fun m e=>k i (by simp) m e,h5.at fun m e=>k j (by simp) m e⟩
  item:=by
    intro X hP hw hK hc n pins s σ H E I hf Z hg
    subst hP hw hK
    obtain ⟨xs,ys,x,y,q1,q2,hx,hy⟩:=hg
    obtain ⟨us,r1,p1,_⟩:=I.tuple q1
    obtain ⟨vs,r2,p2,_⟩:=I.tuple q2
    obtain ⟨u,hu,ru⟩:=r1.get hx
    obtain ⟨v,hv,rv⟩:=r2.get hy
    refine Aa3 D (Z.on (show s.heap.IsTuple a us.toArray from p1) (show s.heap.IsTuple b vs.toArray from p2)) (x:=u) (y:=v) (by simpa using hu) (by simpa using hv) fun g T Z' hT lT kk=>?_
    have nT:H T=none:=I.hok.fresh lT
    have I1:Inv X pins σ (upd H T (.tup [x,y])) { s with heap:=g }:=I.turnLay (ch:=[z,p,o,i,j]) (fun c m nc e=>by
      simp only [List.mem_cons,List.not_mem_nil,or_false,not_or] at nc
      exact kk c m nc.1 nc.2.2.1 nc.2.2.2.1 nc.2.2.2.2 e) hf lT ⟨by show 2≤sizeLine;decide,[u,v],.cons ru (.cons rv .nil),⟨_,hT,rfl,0,rfl⟩⟩
    refine ⟨_,rfl,?_⟩
    show wpAny (model X.prog X.w) X.A (pure ()) _ _ _
    refine wpAny_pure ⟨.ref T,_,I1,rfl,⟨T,x,y,rfl,nT,rfl,fun xs' h'=>by rw [I.tuple_inj h' q1];exact hx,fun ys' h'=>by rw [I.tuple_inj h' q2];exact hy⟩,Z'.tn,fun c hc=>?_⟩
    have e:c≠T:=fun z=>by
      obtain ⟨m,e,_⟩:=(by
        obtain ⟨⟨u,v,e1,_⟩,e2,⟨x,y,e3⟩,⟨m4,e4,_⟩,⟨m5,e5,_⟩⟩:=Z
        simp only [List.mem_cons,List.not_mem_nil,or_false] at hc
        rcases hc with rfl | rfl | rfl | rfl | rfl
        · exact ⟨_,e1,trivial⟩
        · exact ⟨_,e2,trivial⟩
        · exact ⟨_,e3,trivial⟩
        · exact ⟨_,e4,trivial⟩
        · exact ⟨_,e5,trivial⟩:∃ m,s.heap.get? c=some m∧True)
      exact absurd (Heap.lt_size e) (Nat.not_lt.mpr (by rw [z];exact lT))
    rw [Aw e]
    exact (hf c hc).1
  done:=by
    intro X hP hw hK hc n pins s σ H E I hf Z hg
    subst hP hw hK
    obtain ⟨xs,ys,q1,q2,hx⟩:=hg
    obtain ⟨us,r1,p1,_⟩:=I.tuple q1
    obtain ⟨vs,r2,p2,_⟩:=I.tuple q2
    have hl:=r1.length
    exact Aab (I.ok.hd hc) D (Z.on (show s.heap.IsTuple a us.toArray from p1) (show s.heap.IsTuple b vs.toArray from p2)) (by simp;omega) fun g kk=>⟨rfl,I.turnAll (ch:=[z,p,o,i,j]) (fun c m nc e=>by
      simp only [List.mem_cons,List.not_mem_nil,or_false,not_or] at nc
      exact kk c m nc.1 nc.2.2.1 nc.2.2.2.1 nc.2.2.2.2 e) hf⟩
  self:=fun _ _ _ _ _ Z h=>by
    obtain ⟨u,v,e,_⟩:=Z.zip
    exact TF e h
end
end L2
namespace L2
open PySem PySem.Spec PyProof.Rows PySem.SeqAt
section
variable {X:Cx} {tg:Expr}
noncomputable def AkK (K:PySem.W.Frag) (ta:TA):TI:=fun σ H R=>ta σ H fun vs H1=>∃ a b,vs=[.ref a,.ref b]∧(∃ xs,SqT K H1 a xs)∧(∃ ys,SqT K H1 b ys)∧R (Itz K a b) H1
theorem Afc {x:Str} {px:Pos} {a b:Expr} {ta:TA} {p pos:Pos} (hg:Gl X "zip") (hm:X.mg "zip"=none) (ha:PA X [a,b] ta) (hs:starEach [a,b] X.env=[(false,eval a X.env),(false,eval b X.env)]:=by rfl) (hs2:starEach [b] X.env=[(false,eval b X.env)]:=by rfl) :
    PI X (.Name x px) (.Call (.Name "zip" p) [a,b] [] pos) (AkK X.K ta):=by
  intro pins s σ H R I h
  refine Call_ (Ql I hg hm (u:=.type "zip") rfl (PyProof.Rows.callWith_type1 (thn (ha pos pins s σ H _ I h) fun us s1 ⟨vs,H1,I1,r1,q1⟩=>?_) (by rw [hs,hs2]) (by rw [hs2];rfl)))
  obtain ⟨c,d,e,⟨xs,hx⟩,⟨ys,hy⟩,q⟩:=q1
  subst e
  cases r1 with
  | cons r rr =>
    cases rr with
    | cons r' rr =>
      cases rr
      cases r;cases r'
      obtain ⟨us,_,p1,_⟩:=I1.tuple hx
      obtain ⟨ws,_,p2,_⟩:=I1.tuple hy
      refine Zu (show s1.heap.IsTuple c us.toArray from p1) (show s1.heap.IsTuple d ws.toArray from p2) fun g z pp o i j D Z new kk=>?_
      obtain ⟨u,v,e,_⟩:=Z.zip
      refine TF e ⟨z,[z,pp,o,i,j],_,_,H1,rfl,I1.kept (t':=s1.toks) kk,Aaz D,Z.tn,fun b hb=>?_,q⟩
      exact I1.fpOk (new b hb) (I1.hok.fresh (new b hb))
noncomputable def ItN (K:PySem.W.Frag) (M:Hp) (J:It) (items:List Dt):Prop:=∀ H,Same M H →
  (∀ (k:Nat) d,items[k]? = some d→J.go k H∧∀ x H',J.yld k H x H'→Same H H'∧∀ G:List Addr,(∀ a∈G,H a≠none)→Same M (mask G H)→Rp K (mask G H') d x)∧J.stop items.length H
noncomputable def lIN (K:PySem.W.Frag) (ti:DTI):TI:=fun σ H R=>∃ B F O ρ,Rep K B F O H σ ρ∧ti ρ fun items=>∀ J H',Same H H'→ItN K (mask (F ++ O) H') J items→R J H'
structure DIN (X:Cx) (tg iter:Expr) (ti:DTI):Prop where
  mono:∀ {ρ Q Q'},(∀ d,Q d→Q' d)→ti ρ Q→ti ρ Q'
  pi:PI X tg iter (lIN X.K ti)
theorem Zd {K:PySem.W.Frag} {sl:List Nat} {ti:DTI} {dt:DTT} {de:DTE} (mi:∀ {ρ Q Q'},(∀ d,Q d→Q' d)→ti ρ Q→ti ρ Q') (mt:∀ {ρ Q Q'},(∀ d,Q d→Q' d)→dt ρ Q→dt ρ Q') (me:∀ {ρ Q Q'},(∀ d,Q d→Q' d)→de ρ Q→de ρ Q')
    (σ:St) (H:Hp) (Q:VK) (h:lE K (HY sl ti dt de) σ H Q):XM sl (lIN K ti) (lT K dt) (lE K de) σ H Q:=by
  obtain ⟨B,F,O,ρ,R,h⟩:=h
  refine ⟨B,F,O,ρ,R,mi (fun items ⟨h1,h2,W,w0,st,fin⟩ J H1 s1 it=>?_) h⟩
  have R1:=R.same s1
  obtain ⟨vs,ds,ev,ed,rs⟩:=Jp R1 h2
  refine ⟨vs,ev,fun D hD=>?_⟩
  have nD:D∉F ++ O:=fun z=>R1.th D z hD
  refine ⟨fun i m acc H2=>m+i=items.length∧H2 D=some (.lst acc)∧acc.length≤i∧Same H1 H2∧∃ as,RpL K (mask (D :: (F ++ O)) H2) as acc∧W i as,⟨items.length,by omega,Bh,Nat.le_refl _,Same.upd hD,[],RpL.nil,w0⟩,?_⟩
  rintro i m acc H2 ⟨hm,e2,hl,s2,as,ra,w⟩
  have sb:Same (mask (F ++ O) H1) H2:=fun a o e=>s2 a o (CQ e).2
  have sD:Same (mask (F ++ O) H1) (mask (D :: (F ++ O)) H2):=fun a o e=>by
    obtain ⟨q,e⟩:=CQ e
    rw [Bb fun z=>by
      rcases List.mem_cons.mp z with z | z
      · rw [z,hD] at e;cases e
      · exact q z]
    exact s2 a o e
  have th2:∀ a∈D :: (F ++ O),H2 a≠none:=fun a ha q=>by
    rcases List.mem_cons.mp ha with z | z
    · rw [z,e2] at q;cases q
    · have:=R1.th a z
      cases q':H1 a with
      | none=>exact this q'
      | some o=>rw [s2 a o q'] at q;cases q
  obtain ⟨go,stop⟩:=it H2 sb
  by_cases hlt:i < items.length
  · refine .inr ⟨(go i items[i] (by simp [hlt])).1,fun z H3 y=>?_⟩
    obtain ⟨s3,r⟩:=(go i items[i] (by simp [hlt])).2 z H3 y
    have r:=r (D :: (F ++ O)) th2 sD
    have e3:H3 D=some (.lst acc):=s3 _ _ e2
    have th:∀ a∈D :: (F ++ O),H3 a≠none:=fun a ha q=>by
      have:=th2 a ha
      cases q':H2 a with
      | none=>exact this q'
      | some o=>rw [s3 a o q'] at q;cases q
    have R3:=RG th r ((rs.mono sD).mono s3.mask)
    have ei:some (En.is items[i]) :: ds.map (fun d=>some (En.is d))=inner sl ρ items[i]:=by unfold inner;rw [ed]
    rw [ei] at R3
    refine ⟨_,_,_,_,R3,mt (fun b q H4 s4=>?_) (st i _ as (by simp [hlt]) w)⟩
    cases b with
    | false =>
      refine ⟨m - 1,by omega,by omega,s4 _ _ e3,by omega,(s2.trans s3).trans s4,as,(ra.mono s3.mask).mono s4.mask,q⟩
    | true =>
      refine ⟨_,_,_,_,R3.same s4,me (fun e q v5 H5 s5 r5=>?_) q⟩
      have e5:H5 D=some (.lst acc):=s5 _ _ (s4 _ _ e3)
      have hz:acc.length < sizeLine:=by omega
      have s6:Same (mask (D :: (F ++ O)) H5) (mask (D :: (F ++ O)) (upd H5 D (.lst (acc ++ [v5])))):=fun a o q=>by
        obtain ⟨n,q⟩:=CQ q
        rw [Bb n,Aw fun z=>n (by rw [z];exact List.mem_cons_self)];exact q
      have em:mask (D :: (F ++ O) ++ []) H5=mask (D :: (F ++ O)) H5:=by rw [List.append_nil]
      rw [em] at r5
      refine ⟨e5,hz,m - 1,by omega,by omega,Bh,by simp;omega,fun a o q=>?_,as ++ [e],((((ra.mono s3.mask).mono s4.mask).mono s5.mask).append (RpL.cons r5 RpL.nil)).mono s6,q⟩
      rw [Aw (Bv q hD)]
      exact s5 _ _ (s4 _ _ (s3 _ _ (s2 a o q)))
  · have e:i=items.length:=by omega
    subst e
    refine .inl ⟨stop,fin as (by rw [←ra.len];exact hl) w (.ref D) H2 (s1.trans s2) (JM ⟨D,acc,rfl,(by rw [Bb nD];exact e2),ra.mono (Gp fun a h=>List.mem_cons_of_mem _ h)⟩)⟩
end
section
variable {X:Cx} {elt iter:Expr} {x:Str} {N:List Str} {sl:List Nat} {scope:Scope} {px pos:Pos}
theorem Zr {ti:DTI} {de:DTE} {y:Str} {py spos:Pos} (i:Nat) (hN:X.N.Nodup) (S:Ea X scope x N sl) (hc:X.calm=true) (hi:DIN X (.Name x px) iter ti) (he:∀ cl C s₀ H₀ ex,DE (Bl X scope (x :: N) cl C s₀ H₀ ex) elt de)
    (hyi:X.N[i]? = some y:=by rfl) (hy:X.env.scope.names.lookup y=some .local:=by rfl) (hsw:swapsWith (.ListComp elt [⟨.Name x px,iter,[],0⟩] scope pos) (some (.Name y py)) spos.line X.env=pure true:=by rfl) (hs:∀ x,foldedSetIterable iter X.env x=pure x:=by intro _;rfl) :
    DS X (.Assign [.Name y py] (.ListComp elt [⟨.Name x px,iter,[],0⟩] scope pos) spos) (Yh i sl ti LQ de) where
  mono:=fun hd h=>JL (ti:=ti) hi.mono (fun d q=>hd.nx _ q) h
  ps:=(XS (tt:=lT X.K LQ) (te:=lE X.K de) S hc hN hyi hy hi.pi (fun cl C s₀ H₀ ex=>Tn.pts) (fun cl C s₀ H₀ ex=>(he cl C s₀ H₀ ex).pe) hsw hs).imp fun D σ H ⟨B,F,O,ρ,R,h⟩ =>
    Zd (ti:=ti) (dt:=LQ) (de:=de) hi.mono (fun hq h=>hq _ h) (he [] 0 X.s₀ X.H₀ []).mono σ H _ ⟨B,F,O,ρ,R,JL (ti:=ti) hi.mono (fun d q v H' s r=>q O _ H' ((R.same s).set i r)) h⟩
noncomputable def Aen (tl:DTA):DTI:=fun ρ Q=>tl ρ fun ds=>∃ xs ys,ds=[.tup xs,.tup ys]∧xs.length=ys.length∧Q ((xs.zip ys).map fun p=>.tup [p.1,p.2])
theorem AfU {a b:Expr} {p:Pos} {tl:DTA} (hg:Gl X "zip") (hm:X.mg "zip"=none) (ha:DA X [a,b] tl) (hs:starEach [a,b] X.env=[(false,eval a X.env),(false,eval b X.env)]:=by rfl) (hs2:starEach [b] X.env=[(false,eval b X.env)]:=by rfl) :
    DIN X (.Name x px) (.Call (.Name "zip" p) [a,b] [] pos) (Aen tl) where
  mono:=fun hq h=>ha.mono (fun ds ⟨xs,ys,e,l,h⟩=>⟨xs,ys,e,l,hq _ h⟩) h
  pi:=(Afc hg hm ha.pa hs hs2).imp fun σ H R ⟨B,F,O,ρ,RR,h⟩=>⟨B,F,O,ρ,RR,ha.mono (fun ds ⟨xs,ys,e,l,q⟩ vs H1 s1 r1=>by
    subst e
    obtain ⟨v1,w1,rfl,ra,r1⟩:=Ax.mp r1
    obtain ⟨v2,w2,rfl,rb,r1⟩:=Ax.mp r1
    obtain rfl:=BR.mp r1
    obtain ⟨c,us,rfl,hs1,l1⟩:=Ck.mp ra
    obtain ⟨d,ws,rfl,hs2,l2⟩:=Ck.mp rb
    refine ⟨c,d,rfl,⟨us,Ba.seqT hs1⟩,⟨ws,Ba.seqT hs2⟩,q _ H1 s1 fun H2 s2=>⟨fun k dd e=>?_,us,ws,s2.seqT hs1,s2.seqT hs2,?_⟩⟩
    · rw [List.getElem?_map] at e
      cases e':(xs.zip ys)[k]? with
      | none=>rw [e'] at e;cases e
      | some pr =>
        rw [e'] at e;cases e
        obtain ⟨e1,e2⟩:=List.getElem?_zip_eq_some.mp e'
        obtain ⟨u,hu,ru⟩:=l1.get e1
        obtain ⟨v,hv,rv⟩:=l2.get e2
        refine ⟨⟨us,ws,u,v,s2.seqT hs1,s2.seqT hs2,hu,hv⟩,?_⟩
        rintro _ H3 ⟨T,y1,y2,rfl,nT,rfl,f1,f2⟩
        have g1:=f1 us (s2.seqT hs1)
        have g2:=f2 ws (s2.seqT hs2)
        rw [hu] at g1;cases g1
        rw [hv] at g2;cases g2
        refine ⟨Same.upd nT,fun G hG sM=>?_⟩
        have nG:T∉G:=fun z=>hG T z nT
        have sm:Same (mask G H2) (mask G (upd H2 T (.tup [u,v]))):=(Same.upd nT).mask
        exact Ck.mpr ⟨T,[u,v],rfl,.inl (.inl (by rw [Bb nG,Bh])),RpL.cons ((ru.mono sM).mono sm) (RpL.cons ((rv.mono sM).mono sm) RpL.nil)⟩
    · rw [List.length_map,List.length_zip,l1.len]
      omega) h⟩
noncomputable def XR (tl:DTA):DTE:=fun ρ Q=>tl ρ fun ds=>∃ ks,ds=[.lst ks]∧Q (.tup ks)
theorem Rf {a:Expr} {tl:DTA} {p:Pos} (hm:X.mg "tuple"=none) (ha:DA X [a] tl) (hg:Gl X "tuple":=by rfl) (he:starEach [a] X.env=(false,eval a X.env) :: starEach [] X.env:=by rfl) (hpl:(backTo pos (starEach [] X.env)).any (·.1)=false:=by rfl) :
    DE X (.Call (.Name "tuple" p) [a] [] pos) (XR tl) where
  mono:=fun hq h=>ha.mono (fun ds ⟨ks,e,q⟩=>⟨ks,e,hq _ q⟩) h
  pe:=(YS Qu hg hm rfl ha.pa (he:=he) (hpl:=hpl)).imp fun σ H Q ⟨B,F,O,ρ,R,h⟩=>⟨B,F,O,ρ,R,ha.mono (fun ds ⟨ks,e,q⟩ vs H1 s1 r1=>by
    subst e
    obtain ⟨v1,w1,rfl,ra,r1⟩:=Ax.mp r1
    obtain rfl:=BR.mp r1
    obtain ⟨c,us,rfl,hs,hl⟩:=DP ra
    refine ⟨c,us,rfl,.inl ⟨Ba.seq hs,fun l hn=>?_⟩⟩
    have nl:l∉F ++ O:=fun z=>(R.same s1).th l z hn
    exact q _ _ (s1.trans (Same.upd hn)) (Ck.mpr ⟨l,us,rfl,.inl (.inl (Ln nl)),hl.mono (Same.upd hn).mask⟩)) h⟩
end
end L2
namespace L2
open PySem PySem.Spec PyProof.Rows
section
variable {prog:Program} {w:World} {A:Around}
end
variable {X:Cx}
end L2
namespace L2
open PySem PySem.Spec PyProof.Rows PySem.SeqAt
section
variable {P:Program} {w:World}
theorem Rh:∀ {ks:List Int} {us:List Value},Vals (ks.map V.int) us→ItemsAre (GF P w) (ks.map Sum.inl) us
  | [],_,r=>by cases r;exact .nil
  | _ :: ks,_,r=>by
    cases r with
    | cons h t =>
      obtain ⟨t',rfl⟩:=h
      exact .cons (T8 P w _ t') (Rh t)
theorem Z1 (ks:List Int):(ks.map (Sum.inl:Int→Key)).map kV=ks.map V.int:=by rw [List.map_map];rfl
theorem Yd:∀ {a b:List Int},a.map (Sum.inl:Int→Key)=b.map Sum.inl→a=b
  | [],[],_=>rfl
  | [],_ :: _,e=>by cases e
  | _ :: _,[],e=>by cases e
  | x :: xs,y :: ys,e=>by
    obtain ⟨h1,h2⟩:=List.cons.inj e
    rw [Sum.inl.inj h1,Yd h2]
theorem YW {P':Program} {w':World} {x:List Key × Addr × Value} {k:List Int} (h:x.1=k.map Sum.inl):entryOfKey (tupleKind (GF P w)) x=entryOfKey (tupleKind (GF P' w')) x:=by
  show DictEntry.mk (reduceHash (Builtin.Tuple.tupleHashOf (x.1.map (Agv w)))) _ _=DictEntry.mk (reduceHash (Builtin.Tuple.tupleHashOf (x.1.map (Agv w')))) _ _
  rw [h,List.map_map,List.map_map]
  rfl
end
section
variable {X:Cx} {pins:List (Addr × Obj)} {σ:St} {H:Hp} {s:Shared} {a b:Addr} {ks:List (List Int)} {xs:List (List Key × Addr × Value)} {A:Around} {E:Value→Shared→Prop} {k:List Int}
theorem RJ (I:Inv X pins σ H s) (h:SqT X.K H b (k.map V.int)):(tupleKind (GF X.prog X.w)).is s.heap (k.map Sum.inl) b:=by
  obtain ⟨its,r,⟨o,h1,h2,n,h3⟩,_⟩:=I.tuple h
  exact ⟨o,its.toArray,n,h1,h2,h3,by simpa using Rh r⟩
theorem U9 (I:Inv X pins σ H s) (Ha:H a=some (.ext (tabAt a xs))) (tk:Vi X.K H ks xs):(a == sysModules)=false∧s.heap.DictOfH (tupleKind (GF X.prog X.w)) a xs:=by
  obtain ⟨⟨h0,P,w,o,es,ep,h1,h2,h3,h4,h5⟩,_⟩:=I.hok a _ Ha
  refine ⟨h0,o,es,ep,h1,h2,h3,h4.trans (List.map_congr_left fun x hx=>?_),fun x hx=>?_,h5⟩
  · have m:x.1∈ks.map (·.map Sum.inl):=by rw [←tk.1];exact List.mem_map.mpr ⟨x,hx,rfl⟩
    obtain ⟨k,_,e⟩:=List.mem_map.mp m
    exact YW e.symm
  have m:x.1∈ks.map (·.map Sum.inl):=by rw [←tk.1];exact List.mem_map.mpr ⟨x,hx,rfl⟩
  obtain ⟨k,_,e⟩:=List.mem_map.mp m
  have:=tk.2 x hx
  rw [←e,Z1] at this
  rw [←e]
  exact RJ I this
theorem Xi (e:xs.map (·.1)=ks.map (·.map Sum.inl)):(atKey xs (k.map Sum.inl)).isSome=decide (k∈ks):=by
  by_cases h:k∈ks
  · rw [decide_eq_true h]
    have m:k.map Sum.inl∈xs.map (·.1):=by rw [e];exact List.mem_map.mpr ⟨k,h,rfl⟩
    obtain ⟨x,hx,ex⟩:=List.mem_map.mp m
    unfold atKey
    rw [Option.isSome_map,List.find?_isSome]
    exact ⟨x,hx,decide_eq_true ex⟩
  · rw [decide_eq_false h]
    unfold atKey
    rw [Option.isSome_map]
    cases q:xs.find? fun x=>decide (x.1=k.map Sum.inl) with
    | none=>rfl
    | some x =>
      have h1:=List.mem_of_find?_eq_some q
      have h2:decide (x.1=k.map Sum.inl)=true:=List.find?_some (p:=fun x:List Key × Addr × Value=>decide (x.1=k.map Sum.inl)) q
      have h2:=of_decide_eq_true h2
      have m:x.1∈ks.map (·.map Sum.inl):=by rw [←e];exact List.mem_map.mpr ⟨x,h1,rfl⟩
      obtain ⟨k',hk,e'⟩:=List.mem_map.mp m
      rw [h2] at e'
      exact absurd (by rw [←Yd e'];exact hk) h
noncomputable def Af9 (K:PySem.W.Frag):R2:=fun y x H Q=>∃ a b ks xs k,x=.ref a∧y=.ref b∧H a=some (.ext (tabAt a xs))∧Vi K H ks xs∧SqT K H b (k.map V.int)∧Q (.bl (!decide (k∈ks))) H
theorem Ud (hu:X.A.units+1 < cLine):OpR X (compareOp .NotIn) (Af9 X.K):=by
  intro pins s σ H y x v u Q I ry rx h
  obtain ⟨a,b,ks,xs,k,rfl,rfl,Ha,tk,hb,q⟩:=h
  cases rx
  cases ry
  obtain ⟨h0,dd⟩:=U9 I Ha tk
  refine wpAny_notIn_heap (tupleKind_room_in1 hu) (RJ I hb) h0 dd ?_
  rw [Xi tk.1]
  exact ⟨.bl (!decide (k∈ks)),H,I.tok _,rfl,q⟩
noncomputable def Ju (k:List Int) (ks:List (List Int)):List (List Int):=if k∈ks then ks else ks ++ [k]
theorem AaI {v:Value} (e:xs.map (·.1)=ks.map (·.map Sum.inl)):(storedH xs (k.map Sum.inl) b v).map (·.1)=(Ju k ks).map (·.map Sum.inl):=by
  unfold storedH Ju
  rw [Xi e]
  by_cases h:k∈ks
  · rw [decide_eq_true h,if_pos rfl,if_pos h,List.map_map,←e]
    refine List.map_congr_left fun x _=>?_
    show (putAt _ v x).1=x.1
    unfold putAt
    split <;> rfl
  · rw [decide_eq_false h,if_neg (by simp),if_neg h,List.map_append,List.map_append,e]
    rfl
theorem AcS {v:Value} {x:List Key × Addr × Value} {kk:List Key} (h:x∈storedH xs kk b v):(∃ y∈xs,y.1=x.1∧y.2.1=x.2.1)∨(x.1=kk∧x.2.1=b):=by
  unfold storedH at h
  split at h
  · obtain ⟨y,hy,rfl⟩:=List.mem_map.mp h
    refine .inl ⟨y,hy,?_⟩
    unfold putAt
    split <;> exact ⟨rfl,rfl⟩
  · rcases List.mem_append.mp h with h | h
    · exact .inl ⟨x,h,rfl,rfl⟩
    · rw [List.mem_singleton.mp h]
      exact .inr ⟨rfl,rfl⟩
noncomputable def Adi (K:PySem.W.Frag):V→V→V→Hp→(Hp→Prop)→Prop:=fun x y v H Q=>∃ a b t ks xs k,x=.ref a∧y=.ref b∧v=.bl t∧H a=some (.ext (tabAt a xs))∧Vi K H ks xs∧ks.length≤sizeLine∧SqT K H b (k.map V.int)∧∀ xs',(xs'.map (·.1)=(Ju k ks).map (·.map Sum.inl))→(∀ x∈xs',(∃ y∈xs,y.1=x.1∧y.2.1=x.2.1)∨(x.1=k.map Sum.inl∧x.2.1=b))→Q (upd H a (.ext (tabAt a xs')))
theorem Ob {a:Addr} {xs:List (List Key × Addr × Value)} (h1 h2:Heap) (x:tabAt a xs h1) (k:∀ o,h1.get? a=some o→h2.get? a=some o):tabAt a xs h2:=let ⟨h0,P,w,o,es,ep,e,r⟩:=x;⟨h0,P,w,o,es,ep,k o e,r⟩
theorem Ada (hu:X.A.units+1 < cLine):Ai5 X (Adi X.K):=by
  intro pins s σ H x y v ov iv u Q I rx ry rv h
  obtain ⟨a,b,t,ks,xs,k,rfl,rfl,rfl,Ha,tk,hz,hb,q⟩:=h
  cases rx
  cases ry
  obtain ⟨h0,dd⟩:=U9 I Ha tk
  have lx:xs.length≤sizeLine:=by
    have:=congrArg List.length tk.1
    rw [List.length_map,List.length_map] at this
    omega
  refine wpAny_setItem_heap (hsz:=lx) (tupleKind_room_in1 hu) (RJ I hb) dd fun h' dd' hs=>⟨_,?_,q _ (AaI (b:=b) (v:=u) tk.1) (fun x hx=>AcS hx)⟩
  obtain ⟨o,es,ep,e1,e2,e3,e4,_,e5⟩:=dd'
  have th:∃ o,h'.get? a=some o:=⟨o,e1⟩
  exact I.write (x:=a) (e:=a) (by rw [Ha];exact True.intro) (.inl rfl) (fun c u hc z=>(hs.2 c hc).trans z) th ⟨⟨h0,_,_,o,es,ep,e1,e2,e3,e4,e5⟩,th,Ob⟩
noncomputable def Adu:TE:=fun _ H Q=>∀ p,H p=none→Q (.ref p) (upd H p (.ext (tabAt p [])))
theorem YK {pos:Pos}:PE X (.Dict [] [] pos) Adu:=fun pins s σ H Q I h=>by
  have big:sysModules < s.heap.objs.size:=Nat.lt_trans (by decide) (show mainGlobals < s.heap.objs.size from (I.mod.glob.keeps I.bk).lt)
  have at':(s.heap.push { cls:=.type "dict",data:=.dict #[] }).get? s.heap.objs.size=some { cls:=.type "dict",data:=.dict #[] }:=Heap.get?_push_size _ rfl
  refine wpAny_Dict_empty ⟨.ref s.heap.objs.size,_,I.laid (a:=s.heap.objs.size) (o:=.ext (tabAt s.heap.objs.size [])) (t':=s.toks) (fun _ _ q=>Heap.get?_push_of_some _ q) (Nat.le_refl _) ⟨⟨beq_eq_false_iff_ne.mpr (Ne.symm (Nat.ne_of_lt big)),X.prog,X.w,_,#[],0,at',⟨rfl,rfl,rfl⟩,rfl,rfl,List.nodup_nil⟩,⟨_,at'⟩,Ob⟩,rfl,h _ (I.hok.fresh (Nat.le_refl _))⟩
end
section
variable {K:PySem.W.Frag} {B:Hp} {F O:List Addr} {H:Hp} {σ:St} {ρ:BZ}
theorem Rep.newTab (r:Rep K B F O H σ ρ) (i:Nat) {p:Addr} (hp:H p=none):Rep K B F (p :: O) (upd H p (.ext (tabAt p []))) (σ.set i (some (.ref p))) (ρ.set i (some (.tab []))):=by
  have hl:=r.len
  have nF:p∉F:=fun z=>r.th p (List.mem_append_left _ z) hp
  have nO:p∉O:=fun z=>r.th p (List.mem_append_right _ z) hp
  have em:=Ve (F:=F) (O:=O) (o:=.ext (tabAt p [])) hp
  have back:∀ (m:Nat) (x:En),(∀ ks,x≠.tab ks)→(ρ.set i (some (.tab [])))[m]? = some (some x)→m≠i∧ρ[m]? = some (some x):=fun m x nx q=>by
    have hm:m≠i:=fun z=>by
      subst z
      by_cases hk:m < ρ.length
      · rw [List.getElem?_set_self hk] at q;cases q;exact nx _ rfl
      · rw [List.getElem?_eq_none (by simpa using hk)] at q;cases q
    rw [List.getElem?_set_ne (Ne.symm hm)] at q;exact ⟨hm,q⟩
  refine ⟨by simpa using hl,r.base.trans (Same.upd hp),fun a h=>?_,fun a h e=>?_,fun j d q=>?_,fun j es q=>?_,fun j k es es' a h1 h2 h3 h4=>?_,fun j ks q=>?_,fun j k es es' a h1 h2 h3 h4=>?_⟩
  · rcases List.mem_cons.mp h with rfl | h
    · cases q:B a with
      | none=>rfl
      | some o=>rw [r.base a o q] at hp;cases hp
    · exact r.fr a h
  · by_cases z:a=p
    · rw [z,Bh] at e;cases e
    · rw [Aw z] at e
      refine r.th a ?_ e
      rcases List.mem_append.mp h with h | h
      · exact List.mem_append_left _ h
      · exact List.mem_append_right _ ((List.mem_cons.mp h).resolve_left z)
  · obtain ⟨hj,q⟩:=back j _ (fun _ z=>by cases z) q
    rw [List.getElem?_set_ne (Ne.symm hj),em];exact r.is j d q
  · obtain ⟨hj,q⟩:=back j _ (fun _ z=>by cases z) q
    rw [List.getElem?_set_ne (Ne.symm hj)]
    obtain ⟨a,ys,h1,h2,h3,h4,h5⟩:=r.own j es q
    exact ⟨a,ys,h1,List.mem_cons_of_mem _ h2,h3,by rw [Aw (a:=p) (fun z=>nO (by rw [←z];exact h2))];exact h4,by rw [em];exact h5⟩
  · obtain ⟨n1,q1⟩:=back j _ (fun _ z=>by cases z) h1
    obtain ⟨n2,q2⟩:=back k _ (fun _ z=>by cases z) h2
    rw [List.getElem?_set_ne (Ne.symm n1)] at h3
    rw [List.getElem?_set_ne (Ne.symm n2)] at h4
    exact r.inj j k es es' a q1 q2 h3 h4
  · by_cases hj:j=i
    · subst hj
      by_cases hk:j < ρ.length
      · rw [List.getElem?_set_self hk] at q;cases q
        exact ⟨p,[],List.getElem?_set_self (by omega),List.mem_cons_self,nF,Bh,rfl,fun x hx=>(nomatch hx)⟩
      · rw [List.getElem?_eq_none (by simpa using hk)] at q;cases q
    · rw [List.getElem?_set_ne (Ne.symm hj)] at q ⊢
      obtain ⟨a,ys,h1,h2,h3,h4,h5⟩:=r.tab j ks q
      exact ⟨a,ys,h1,List.mem_cons_of_mem _ h2,h3,by rw [Aw (a:=p) (fun z=>nO (by rw [←z];exact h2))];exact h4,by rw [em];exact h5⟩
  · have other:∀ (m:Nat) es,m≠i→(ρ.set i (some (.tab [])))[m]? = some (some (.tab es))→(σ.set i (some (.ref p)))[m]? = some (some (.ref p))→False:=fun m es hm q1 q2=>by
      rw [List.getElem?_set_ne (Ne.symm hm)] at q1 q2
      obtain ⟨b,_,e1,e2,_⟩:=r.tab m es q1
      rw [e1] at q2
      cases q2
      exact nO e2
    have self:∀ (m:Nat) es,m=i→(ρ.set i (some (.tab [])))[m]? = some (some (.tab es))→(σ.set i (some (.ref p)))[m]? = some (some (.ref a))→a=p:=fun m es hm q1 q2=>by
      subst hm
      rw [List.getElem?_set_self (by
        have:=(List.getElem?_eq_some_iff.mp q1).1
        simp at this;omega)] at q2
      cases q2;rfl
    by_cases hj:j=i
    · by_cases hk:k=i
      · rw [hj,hk]
      · have:=self j es hj h1 h3
        subst this
        exact (other k es' hk h2 h4).elim
    · by_cases hk:k=i
      · have:=self k es' hk h2 h4
        subst this
        exact (other j es hj h1 h3).elim
      · rw [List.getElem?_set_ne (Ne.symm hj)] at h1 h3
        rw [List.getElem?_set_ne (Ne.symm hk)] at h2 h4
        exact r.tinj j k es es' a h1 h2 h3 h4
theorem Rep.putTab (r:Rep K B F O H σ ρ) {i:Nat} {a:Addr} {ks ls:List (List Int)} {xs ys:List (List Key × Addr × Value)} (hi:ρ[i]? = some (some (.tab ks))) (hs:σ[i]? = some (some (.ref a))) (ha:a∈O) (hH:H a=some (.ext (tabAt a xs))) (h:Vi K (mask (F ++ O) H) ls ys) :
    Rep K B F O (upd H a (.ext (tabAt a ys))) σ (ρ.set i (some (.tab ls))):=by
  have em:mask (F ++ O) (upd H a (.ext (tabAt a ys)))=mask (F ++ O) H:=Ip (List.mem_append_right _ ha)
  have hk:i < ρ.length:=(List.getElem?_eq_some_iff.mp hi).1
  have back:∀ (m:Nat) (x:En),(∀ ks,x≠.tab ks)→(ρ.set i (some (.tab ls)))[m]? = some (some x)→ρ[m]? = some (some x):=fun m x nx q=>by
    have hm:m≠i:=fun z=>by subst z;rw [List.getElem?_set_self hk] at q;cases q;exact nx _ rfl
    rw [List.getElem?_set_ne (Ne.symm hm)] at q;exact q
  refine ⟨by simpa using r.len,fun b o e=>?_,r.fr,fun b hb e=>?_,fun j d q=>?_,fun j zs q=>?_,fun j k es' es'' b h1 h2 h3 h4=>?_,fun j zs q=>?_,fun j k es' es'' b h1 h2 h3 h4=>?_⟩
  · rw [Aw fun z=>by rw [z,r.fr a ha] at e;cases e];exact r.base b o e
  · by_cases z:b=a
    · rw [z,Bh] at e;cases e
    · rw [Aw z] at e;exact r.th b hb e
  · rw [em];exact r.is j d (back j _ (fun _ z=>by cases z) q)
  · obtain ⟨b,ws,e1,e2,e3,e4,e5⟩:=r.own j zs (back j _ (fun _ z=>by cases z) q)
    have nb:b≠a:=fun z=>by rw [z,hH] at e4;cases e4
    exact ⟨b,ws,e1,e2,e3,by rw [Aw nb];exact e4,by rw [em];exact e5⟩
  · exact r.inj j k _ _ b (back j _ (fun _ z=>by cases z) h1) (back k _ (fun _ z=>by cases z) h2) h3 h4
  · by_cases hj:j=i
    · subst hj
      rw [List.getElem?_set_self hk] at q;cases q
      obtain ⟨b,_,e1,e2,e3,_⟩:=r.tab j ks hi
      rw [hs] at e1;cases e1
      exact ⟨a,ys,hs,ha,e3,Bh,by rw [em];exact h⟩
    · rw [List.getElem?_set_ne (Ne.symm hj)] at q
      obtain ⟨b,ws,e1,e2,e3,e4,e5⟩:=r.tab j zs q
      have nb:b≠a:=fun z=>by subst z;exact hj (r.tinj j i zs ks b q hi e1 hs)
      exact ⟨b,ws,e1,e2,e3,by rw [Aw nb];exact e4,by rw [em];exact e5⟩
  · have bk:∀ (m:Nat) es,(ρ.set i (some (.tab ls)))[m]? = some (some (.tab es))→∃ es',ρ[m]? = some (some (.tab es')):=fun m es q=>by
      by_cases hm:m=i
      · subst hm;exact ⟨ks,hi⟩
      · rw [List.getElem?_set_ne (Ne.symm hm)] at q;exact ⟨es,q⟩
    obtain ⟨_,q1⟩:=bk j es' h1
    obtain ⟨_,q2⟩:=bk k es'' h2
    exact r.tinj j k _ _ b q1 q2 h3 h4
end
section
variable {X:Cx} {e:Expr} {te:DTE} {pos:Pos}
noncomputable def tabOf (ρ:BZ) (j:Nat) (k:List (List Int)→Prop):Prop:=match ρ[j]? with
  | some (some (.tab ks))=>k ks
  | _=>False
theorem tabOf.mono {ρ:BZ} {j:Nat} {k k':List (List Int)→Prop} (hk:∀ ks,k ks→k' ks) (h:tabOf ρ j k):tabOf ρ j k':=by
  unfold tabOf at h ⊢
  split at h
  · exact hk _ h
  · exact h.elim
theorem tabOf.get {ρ:BZ} {j:Nat} {k:List (List Int)→Prop} (h:tabOf ρ j k):∃ ks,ρ[j]? = some (some (.tab ks))∧k ks:=by
  unfold tabOf at h
  split at h
  · rename_i ks e;exact ⟨ks,e,h⟩
  · exact h.elim
noncomputable def Ahn (i:Nat):DTS:=fun D ρ=>D.nx (ρ.set i (some (.tab [])))
theorem AeT (i:Nat) {x:Str} {pos' lp:Pos} (hN:X.N.Nodup) (hi:X.N[i]? = some x:=by rfl) (hx:Loc X.env.scope x:=by first | exact Or.inl rfl | exact Or.inr rfl) (hs:swapsWith (.Dict [] [] lp) (some (.Name x pos')) pos.line X.env=pure false:=by rfl)
    (hf:X.fn x=true∨X.env.scope.names.lookup x=some .local:=by first | exact .inl rfl | exact .inr rfl | assumption):DS X (.Assign [.Name x pos'] (.Dict [] [] lp) pos) (Ahn i) where
  mono:=fun hd h=>hd.nx _ h
  ps:=(V8 hN hi hx YK hs hf).imp fun D σ H ⟨B,F,O,ρ,R,h⟩ p hp=>h (p :: O) _ _ (R.newTab i hp)
noncomputable def Te (j:Nat) (te:DTE):DTE:=fun ρ Q=>te ρ fun d=>∃ k,d=Cv k∧tabOf ρ j fun ks=>Q (.bl (!decide (k∈ks)))
theorem N7 {K:PySem.W.Frag} {H:Hp} {k:List Int} {v:V} (r:Rp K H (Cv k) v):∃ b,v=.ref b∧SqT K H b (k.map V.int):=by
  obtain ⟨b,ys,rfl,ht,hy⟩:=Ck.mp r
  obtain rfl:=Lj hy
  exact ⟨b,rfl,ht⟩
theorem Zn (j:Nat) {x:Str} {px:Pos} (hu:X.A.units+1 < cLine) (he:DE X e te) (hN:X.N[j]? = some x:=by rfl) (hv:Vis X.env.scope x:=by first | exact Or.inl rfl | exact Or.inr (Or.inl rfl) | exact Or.inr (Or.inr rfl)) (hd:(x == ("__debug__":Str))=false:=by decide)
    (hcd:(x == ("__classdict__":Str))=false:=by decide) (hm:behindInMarks .NotIn (.Name x px)=false:=by rfl):DE X (.Compare e [.NotIn] [.Name x px] pos) (Te j te) where
  mono:=fun hq h=>he.mono (fun d ⟨k,e,h⟩=>⟨k,e,h.mono fun ks h=>hq _ h⟩) h
  pe:=(Xg (Ud hu) he.pe (Hy hN hv hd hcd) hm).imp fun σ H Q ⟨B,F,O,ρ,R,h⟩=>by
    refine ⟨B,F,O,ρ,R,he.mono (fun d ⟨k,ed,h⟩ v H1 s1 r1=>?_) h⟩
    obtain ⟨ks,e1,h⟩:=h.get
    obtain ⟨a,xs,h1,h2,h3,h4,h5⟩:=(R.same s1).tab j ks e1
    subst ed
    obtain ⟨b,rfl,hb⟩:=N7 r1
    exact ⟨_,h1,a,b,ks,xs,k,rfl,rfl,h4,h5.mono Ba,Ba.seqT hb,h _ H1 s1 (Cz.mpr rfl)⟩
theorem un1 {A:Around} (h:A.units+64 < cLine):A.units+1 < cLine:=by omega
theorem Aal (j:Nat) {x:Str} {px:Pos} (hu:X.A.units+1 < cLine) (he:DE X e te) (hN:X.N[j]? = some x:=by rfl) (hv:Vis X.env.scope x:=by first | exact Or.inl rfl | exact Or.inr (Or.inl rfl) | exact Or.inr (Or.inr rfl)) (hd:(x == ("__debug__":Str))=false:=by decide)
    (hcd:(x == ("__classdict__":Str))=false:=by decide) (hm:behindInMarks .NotIn (.Name x px)=false:=by rfl):DT X (.Compare e [.NotIn] [.Name x px] pos) (Mw (Te j te)) where
  mono:=Mi (t:=Te j te) (Zn (pos:=pos) (px:=px) j hu he hN hv hd hcd hm).mono
  pt:=(X6 (Ud hu) he.pe (Hy hN hv hd hcd) hm).imp fun σ H Q ⟨B,F,O,ρ,R,h⟩=>by
    refine ⟨B,F,O,ρ,R,he.mono (fun d ⟨k,ed,h⟩ v H1 s1 r1=>?_) h⟩
    obtain ⟨ks,e1,h⟩:=h.get
    obtain ⟨a,xs,h1,h2,h3,h4,h5⟩:=(R.same s1).tab j ks e1
    subst ed
    obtain ⟨b,rfl,hb⟩:=N7 r1
    exact ⟨_,h1,a,b,ks,xs,k,rfl,rfl,h4,h5.mono Ba,Ba.seqT hb,_,rfl,h H1 s1⟩
noncomputable def Xl (j:Nat) (tv te:DTE):DTS:=fun D ρ=>tv ρ fun v=>(∃ t,v=.bl t)∧tabOf ρ j fun ks=>te ρ fun d=>∃ k,d=Cv k∧ks.length≤sizeLine∧D.nx (ρ.set j (some (.tab (Ju k ks))))
theorem Yx (j:Nat) {x:Str} {v:Expr} {tv:DTE} {px sp:Pos} (hu:X.A.units+1 < cLine) (hvv:DE X v tv) (he:DE X e te) (hN:X.N[j]? = some x:=by rfl) (hv:Vis X.env.scope x:=by first | exact Or.inl rfl | exact Or.inr (Or.inl rfl) | exact Or.inr (Or.inr rfl)) (hd:(x == ("__debug__":Str))=false:=by decide)
    (hcd:(x == ("__classdict__":Str))=false:=by decide) (hs:swapsWithSole [.Subscript (.Name x px) e sp] v pos.line X.env=pure false:=by rfl) (hw:swappedStores [.Subscript (.Name x px) e sp] v X.env=pure none:=by rfl)
    (h1:(assignEach [.Subscript (.Name x px) e sp] X.env).map (·.2)=[assign (.Subscript (.Name x px) e sp) X.env]:=by rfl)
    (hag:∀ v,assign (.Subscript (.Name x px) e sp) X.env v=(holding [v] (eval (.Name x px) X.env) >>= fun ov=>holding [v,ov] (eval e X.env) >>= fun iv=>standAt sp >>= fun _=>holding [v,ov,iv] (setItem ov iv v) >>= fun _=>release [v,ov,iv] []):=by intro _;rfl):DS X (.Assign [.Subscript (.Name x px) e sp] v pos) (Xl j tv te) where
  mono:=fun hd h=>hvv.mono (fun v ⟨hv,h⟩=>⟨hv,h.mono fun ks h=>he.mono (fun d ⟨k,e,z,h⟩=>⟨k,e,z,hd.nx _ h⟩) h⟩) h
  ps:=(AaA hvv.pe (AfV (Hy hN hv hd hcd) he.pe (Ada hu) hag) hs hw h1).imp fun D σ H ⟨B,F,O,ρ,R,h⟩=>⟨B,F,O,ρ,R,hvv.mono (fun d ⟨hv,h⟩ v H1 s1 r1=>by
    obtain ⟨t,rfl⟩:=hv
    have R1:=R.same s1
    obtain ⟨ks,e1,h⟩:=h.get
    obtain ⟨a0,_,ha0,_⟩:=R1.tab j ks e1
    refine ⟨_,ha0,B,F,O,ρ,R1,he.mono (fun d ⟨k,ed,hz,h⟩ w H2 s2 r2=>?_) h⟩
    obtain ⟨a,xs,h1,h2,h3,h4,h5⟩:=(R1.same s2).tab j ks e1
    rw [ha0] at h1
    cases h1
    subst ed
    obtain ⟨b,rfl,hb⟩:=N7 r2
    refine ⟨a0,b,t,ks,xs,k,rfl,rfl,Cz.mp r1,h4,h5.mono Ba,hz,Ba.seqT hb,fun xs' k1 k2=>h O σ _ ((R1.same s2).putTab e1 ha0 h2 h4 ⟨k1,fun x hx=>?_⟩)⟩
    rcases k2 x hx with ⟨y,hy,y1,y2⟩ | ⟨y1,y2⟩
    · rw [←y1,←y2]
      exact h5.2 y hy
    · rw [y1,y2,Z1]
      exact hb) h⟩
end
end L2
namespace L2
open PySem PySem.Spec PyProof.Rows
variable {X:Cx} {a b:Expr} {ta tb:DTE} {pos:Pos}
noncomputable def Ad4 (K:PySem.W.Frag):R2:=fun x y H Q=>∃ b ns p vs,∃ nss:Nat→List Int,x=.ref b∧y=.ref p∧SqL K H p vs∧SqT K H b (List.map V.int ns)∧(∀ (i:Nat) (v:V),vs[i]? = some v→∃ a,v=.ref a∧SqT K H a ((nss i).map V.int)) ∧
  ∀ k:Bool,(k=true↔∃ i,i < vs.length∧nss i=ns)→Q (.bl (!k)) H
theorem AcP (hu:X.A.units+64 < cLine):OpR X (compareOp .NotIn) (Ad4 X.K):=by
  classical
  intro pins s σ H x y v u Q I rx ry h
  obtain ⟨b,ns,p,vs,nss,rfl,rfl,hl,hb,each,q⟩:=h
  cases rx
  cases ry
  obtain ⟨its,rv,pl,hz⟩:=I.list hl
  have hlen:its.length=vs.length:=rv.length.symm
  have fl:∀ ns:List Int,(Cv ns).flat 8=true:=fun ns=>K4 ns
  have rowAt':∀ (i:Nat) (y:Value),its[i]? = some y→∃ a,y=.ref a∧SqT X.K H a ((nss i).map V.int):=fun i y e=>by
    obtain ⟨v,e1,r2⟩:=Vals.at rv i y e
    obtain ⟨a,rfl,ht⟩:=each i v e1
    cases r2
    exact ⟨a,rfl,ht⟩
  have uniq:∀ (i i':Nat) (y:Value),its[i]? = some y→its[i']? = some y→nss i=nss i':=fun i i' y e e'=>by
    obtain ⟨a,rfl,h1⟩:=rowAt' i y e
    obtain ⟨a',ea,h2⟩:=rowAt' i' _ e'
    cases ea
    obtain ⟨i1,v1,t1,_⟩:=I.tuple h1
    obtain ⟨i2,v2,t2,_⟩:=I.tuple h2
    have es:=Vf t1 t2
    have n1:IntsAre i1.toArray.toList (nss i):=intsAre_of v1
    have n2:IntsAre i2.toArray.toList (nss i'):=intsAre_of v2
    rw [←es] at n2
    rw [←n1.numsOf,←n2.numsOf]
  refine SeqAt.notIn_listAt (fun y=>decide (∃ i,its[i]? = some y∧nss i=ns)) pl.isList (fun y hy=>?_) ?_
  · obtain ⟨i,hi,e⟩:=List.getElem_of_mem (show y∈its by simpa using hy)
    have e1:its[i]? = some y:=by rw [←e];exact List.getElem?_eq_getElem hi
    obtain ⟨a,rfl,ht⟩:=rowAt' i y e1
    obtain ⟨ca,da⟩:=Eb _ 8 (fl (nss i))
    obtain ⟨cb,db⟩:=Eb _ 8 (fl ns)
    obtain ⟨as,q1⟩:=Fz I ca (RL ht) (rfl:RelV (.ref a) (.ref a))
    obtain ⟨bs,q2⟩:=Fz I cb (RL hb) (rfl:RelV (.ref b) (.ref b))
    have:=SeqAt.eqAt_reads _ _ X.A.in1 s _ _ as bs q1 q2 ca cb (by have:=AdJ hu;omega)
    rw [M6 _ _ ca cb] at this
    have ee:(Cv (nss i)).eq (Cv ns)=decide (∃ i,its[i]? = some (Value.ref a)∧nss i=ns):=by
      show Dt.eqs _ _=_
      rw [N5]
      refine decide_eq_decide.mpr ⟨fun z=>⟨i,e1,z⟩,?_⟩
      rintro ⟨i',e2,e3⟩
      exact (uniq i i' _ e1 e2).trans e3
    rw [ee] at this
    exact this
  · refine ⟨.bl _,H,I,rfl,q _ ?_⟩
    rw [Array.any_eq_true]
    constructor
    · rintro ⟨i,hi,e⟩
      obtain ⟨j,e1,e2⟩:=of_decide_eq_true e
      have:=(List.getElem?_eq_some_iff.mp e1).1
      exact ⟨j,by omega,e2⟩
    · rintro ⟨i,hi,e⟩
      have hi':i < its.toArray.size:=by rw [List.size_toArray];omega
      refine ⟨i,hi',decide_eq_true ⟨i,?_,e⟩⟩
      rw [List.getElem_toArray]
      exact List.getElem?_eq_getElem _
noncomputable def Aaw:D2:=fun a b Q=>∃ (ns:List Int) (nss:List (List Int)),a=Cv ns∧b=.lst (nss.map Cv)∧Q (.bl (!decide (ns∈nss)))
theorem Aa0 {K:PySem.W.Frag}:HN K (Ad4 K) Aaw:=⟨fun hq ⟨i,ns,e1,e2,h⟩=>⟨i,ns,e1,e2,hq _ h⟩,fun O H a b x y Q _ ra rb ⟨ns,nss,e1,e2,h⟩=>by
  subst e1 e2
  obtain ⟨c,rfl,hc⟩:=N7 ra
  obtain ⟨p,vs,rfl,hs,hl⟩:=DP rb
  obtain ⟨ll,each⟩:=W3 hl
  refine ⟨c,ns,p,vs,fun i=>nss.getD i [],rfl,rfl,Ba.seq hs,Ba.seqT hc,fun i v e=>?_,fun k hk=>?_⟩
  · obtain ⟨a,ea,ht⟩:=each i v e
    exact ⟨a,ea,Ba.seqT ht⟩
  · have:k=decide (ns∈nss):=by
      rw [Bool.eq_iff_iff,hk,decide_eq_true_eq]
      constructor
      · rintro ⟨i,hi,e⟩
        have hi':i < nss.length:=by omega
        rw [←e]
        show nss.getD i []∈nss
        have:nss.getD i []=nss[i]:=by simp [List.getD,hi']
        rw [this]
        exact List.getElem_mem hi'
      · intro m
        obtain ⟨i,hi,e⟩:=List.getElem_of_mem m
        exact ⟨i,by omega,by simp [List.getD,hi,e]⟩
    rw [this]
    exact h _ H (Same.refl H) (Cz.mpr rfl)⟩
theorem Xa (hu:X.A.units+64 < cLine) (ha:DE X a ta) (hb:DE X b tb) (hm:behindInMarks .NotIn b=false:=by with_unfolding_all rfl):DT X (.Compare a [.NotIn] [b] pos) (Mw (dOp Aaw ta tb)):=Kg (AcP hu) Aa0 ha hb hm
end L2
namespace My
open PySem L2
noncomputable abbrev SM:DSp:=Aeu
noncomputable abbrev I4:=Int × Int × Int × Int
noncomputable abbrev I2:=Int × Int
noncomputable abbrev t4 (p:I4):Dt:=T4 p.1 p.2.1 p.2.2.1 p.2.2.2
noncomputable abbrev t2 (p:I2):Dt:=T2 p.1 p.2
noncomputable def B4 (n:Nat) (p:I4):Prop:=Bt n p.1∧Bt n p.2.1∧Bt n p.2.2.1∧Bt n p.2.2.2
noncomputable def B2 (n:Nat) (p:I2):Prop:=Bt n p.1∧Bt n p.2
noncomputable def det (p:I4):Int:=p.1*p.2.2.2 - p.2.1*p.2.2.1
noncomputable def Hq (t:I4) (p:I2):I2:=(t.1*p.1+t.2.1*p.2,t.2.2.1*p.1+t.2.2.2*p.2)
noncomputable def Ao (a b:I4):I4:=(a.1*b.1+a.2.1*b.2.2.1,a.1*b.2.1+a.2.1*b.2.2.2,a.2.2.1*b.1+a.2.2.2*b.2.2.1,a.2.2.1*b.2.1+a.2.2.2*b.2.2.2)
noncomputable def Ar (t:I4):I4:=(t.2.2.2,-t.2.1,-t.2.2.1,t.1)
theorem B4.le {n m:Nat} {t:I4} (h:B4 n t) (l:n≤m):B4 m t:=⟨h.1.le l,h.2.1.le l,h.2.2.1.le l,h.2.2.2.le l⟩
theorem B4.back {n:Nat} {t:I4} (h:B4 n t):B4 n (Ar t):=⟨h.2.2.2,h.2.1.neg,h.2.2.1.neg,h.1⟩
theorem B2.led {n m:Nat} {t:I4} {p:I2} (h:B4 n t) (q:B2 m p):B2 (n+m+1) (Hq t p) :=
  ⟨((h.1.mul q.1).add (h.2.1.mul q.2)).le (by omega),((h.2.2.1.mul q.1).add (h.2.2.2.mul q.2)).le (by omega)⟩
theorem B4.then {n m:Nat} {t u:I4} (h:B4 n t) (q:B4 m u):B4 (n+m+1) (Ao t u) :=
  ⟨((h.1.mul q.1).add (h.2.1.mul q.2.2.1)).le (by omega),((h.1.mul q.2.1).add (h.2.1.mul q.2.2.2)).le (by omega),((h.2.2.1.mul q.1).add (h.2.2.2.mul q.2.2.1)).le (by omega),((h.2.2.1.mul q.2.1).add (h.2.2.2.mul q.2.2.2)).le (by omega)⟩
theorem CV {t:I4}:det (Ar t)=det t:=by obtain ⟨a,b,c,d⟩:=t;simp only [det,Ar];grind
theorem Cj {t u:I4}:det (Ao t u)=det t*det u:=by obtain ⟨a,b,c,d⟩:=t;obtain ⟨e,f,g,h⟩:=u;simp only [det,Ao];grind
theorem JG {t:I4} (h:det t=1):Ao t (Ar t)=(1,0,0,1):=by
  obtain ⟨a,b,c,d⟩:=t
  simp only [det,Ao,Ar,Prod.mk.injEq] at *
  refine ⟨?_,?_,?_,?_⟩ <;> grind
theorem Rb {t:I4} (h:det t=1):Ao (Ar t) t=(1,0,0,1):=by
  obtain ⟨a,b,c,d⟩:=t
  simp only [det,Ao,Ar,Prod.mk.injEq] at *
  refine ⟨?_,?_,?_,?_⟩ <;> grind
noncomputable abbrev I3:=Int × Int × Int
noncomputable abbrev t3 (p:I3):Dt:=T3 p.1 p.2.1 p.2.2
noncomputable def B3 (n:Nat) (p:I3):Prop:=Bt n p.1∧Bt n p.2.1∧Bt n p.2.2
theorem B3.le {n m:Nat} {t:I3} (h:B3 n t) (l:n≤m):B3 m t:=⟨h.1.le l,h.2.1.le l,h.2.2.le l⟩
noncomputable def meas (f:I3):Int:=f.2.1*f.2.1 - 4*f.1*f.2.2
noncomputable def val (f:I3) (p:I2):Int:=f.1*p.1*p.1+f.2.1*p.1*p.2+f.2.2*p.2*p.2
noncomputable def mid (f:I3) (l r:I2):Int:=2*f.1*l.1*r.1+f.2.1*(l.1*r.2+r.1*l.2)+2*f.2.2*l.2*r.2
noncomputable def mov (f:I3) (t:I4):I3:=(val f (t.1,t.2.2.1),mid f (t.1,t.2.2.1) (t.2.1,t.2.2.2),val f (t.2.1,t.2.2.2))
theorem Akd {f:I3} {t:I4} {p:I2}:val (mov f t) p=val f (Hq t p):=by
  obtain ⟨a,b,c⟩:=f;obtain ⟨e,g,h,i⟩:=t;obtain ⟨x,y⟩:=p
  simp only [val,mov,mid,Hq];grind
theorem Bu {f:I3} {t:I4} (h:det t=1):meas (mov f t)=meas f:=by
  obtain ⟨a,b,c⟩:=f;obtain ⟨e,g,i,j⟩:=t
  simp only [det] at h
  have e1:meas (mov (a,b,c) (e,g,i,j))=(e*j - g*i)*(e*j - g*i)*meas (a,b,c):=by simp only [meas,mov,val,mid];grind
  rw [e1,h];simp
theorem Bg {f:I3} {t u:I4}:mov (mov f t) u=mov f (Ao t u):=by
  obtain ⟨a,b,c⟩:=f;obtain ⟨e,g,i,j⟩:=t;obtain ⟨k,l,m,n⟩:=u
  simp only [mov,val,mid,Ao,Prod.mk.injEq]
  refine ⟨?_,?_,?_⟩ <;> grind
theorem Bp {f:I3}:mov f (1,0,0,1)=f:=by
  obtain ⟨a,b,c⟩:=f
  simp only [mov,val,mid,Prod.mk.injEq]
  refine ⟨?_,?_,?_⟩ <;> grind
theorem AgK {s t:I3}:Dt.eq (t3 s) (t3 t)=decide (s=t):=by
  obtain ⟨a,b,c⟩:=s
  obtain ⟨e,f,g⟩:=t
  simp only [Aau,ZV,AaN,OD,Prod.mk.injEq,Bool.and_true]
  simp only [Bool.decide_and]
theorem B3.mov {f:I3} {t:I4} {n m:Nat} (hf:B3 n f) (ht:B4 m t):B3 (n+m+m+5) (mov f t):=by
  obtain ⟨a,b,c⟩:=f;obtain ⟨e,g,i,j⟩:=t
  obtain ⟨ha,hb,hc⟩:=hf
  obtain ⟨he,hg,hi,hj⟩:=ht
  have h2:Bt 2 2:=Bt.of_abs (by decide)
  refine ⟨?_,?_,?_⟩
  · exact ((((ha.mul he).mul he).add ((hb.mul he).mul hi)).add ((hc.mul hi).mul hi)).le (by omega)
  · exact (((((h2.mul ha).mul he).mul hg).add (hb.mul ((he.mul hj).add (hg.mul hi)))).add (((h2.mul hc).mul hi).mul hj)).le (by omega)
  · exact ((((ha.mul hg).mul hg).add ((hb.mul hg).mul hj)).add ((hc.mul hj).mul hj)).le (by omega)
noncomputable def Sq (n r:Int):Prop:=0≤r∧r*r≤n∧n < (r+1)*(r+1)
theorem Sq.uniq {n r s:Int} (a:Sq n r) (b:Sq n s):r=s:=by
  obtain ⟨a0,a1,a2⟩:=a
  obtain ⟨b0,b1,b2⟩:=b
  rcases Int.lt_trichotomy r s with h | h | h
  · have:=Int.mul_le_mul (show r+1≤s by omega) (show r+1≤s by omega) (by omega) b0
    omega
  · exact h
  · have:=Int.mul_le_mul (show s+1≤r by omega) (show s+1≤r by omega) (by omega) a0
    omega
theorem Q8 {n g:Int} (hn:0≤n) (hg:0 < g):n < ((g+n / g) / 2+1)*((g+n / g) / 2+1):=by
  have h1:n < g*(n / g)+g:=Int.lt_mul_ediv_self_add hg
  have h0:0≤n / g:=Int.ediv_nonneg hn (by omega)
  generalize n / g=q at *
  have hb:g+q≤2*((g+q) / 2)+1:=by omega
  have hb0:0≤(g+q) / 2:=by omega
  generalize (g+q) / 2=b at *
  have z1:0≤(g - q - 1)*(g - q - 1):=by
    rcases Int.le_total 0 (g - q - 1) with h | h
    · exact Int.mul_nonneg h h
    · exact Int.mul_nonneg_of_nonpos_of_nonpos h h
  have z2:(g+q+1)*(g+q+1)=(g - q - 1)*(g - q - 1)+4*(g*q+g):=by grind
  have z3:(g+q+1)*(g+q+1)≤(2*(b+1))*(2*(b+1)):=Int.mul_le_mul (by omega) (by omega) (by omega) (by omega)
  have z4:(2*(b+1))*(2*(b+1))=4*((b+1)*(b+1)):=by grind
  omega
theorem WW {n g:Int} (hg:0 < g) (h:g≤(g+n / g) / 2):g*g≤n:=by
  have h1:g*(n / g)≤n:=Int.mul_ediv_self_le (by omega)
  have h2:g≤n / g:=by omega
  have:=Int.mul_le_mul_of_nonneg_left h2 (show 0≤g by omega)
  omega
theorem Vk {n g:Int} (hg:0 < g) (h:n < g*g):(g+n / g) / 2 < g:=by
  have h2:n / g < g:=Int.ediv_lt_of_lt_mul hg (by rw [Int.mul_comm] at h;exact h)
  omega
theorem VR {n g:Int} (hn:1≤n) (hg:0 < g):0 < (g+n / g) / 2:=by
  have h0:0≤n / g:=Int.ediv_nonneg (by omega) (by omega)
  rcases Int.lt_or_le g 2 with h | h
  · have:g=1:=by omega
    subst this
    rw [Int.ediv_one];omega
  · omega
theorem Ug {n:Int} (hn:0≤n):n < (1*2 ^ ((((Builtin.Int.intBits n:Nat):Int)+1).fdiv 2).toNat+1)*(1*2 ^ ((((Builtin.Int.intBits n:Nat):Int)+1).fdiv 2).toNat+1):=by
  have h1:n.natAbs < 2 ^ Builtin.Int.intBits n:=intBits_le_iff.mp (Nat.le_refl _)
  generalize Builtin.Int.intBits n=b at *
  have e:((((b:Nat):Int)+1).fdiv 2).toNat=(b+1) / 2:=by
    rw [Int.fdiv_eq_ediv_of_nonneg _ (by decide)];omega
  rw [e]
  generalize hk:(b+1) / 2=k
  have h2:2 ^ b≤2 ^ k*2 ^ k:=by rw [←Nat.pow_add];exact Nat.pow_le_pow_right (by decide) (by omega)
  have h3:n < ((2 ^ k*2 ^ k:Nat):Int):=by omega
  have h4:((2 ^ k*2 ^ k:Nat):Int)=(2 ^ k:Int)*2 ^ k:=by push_cast;rfl
  rw [h4] at h3
  have h5:(0:Int)≤2 ^ k:=Int.pow_nonneg (by decide)
  generalize (2 ^ k:Int)=z at *
  have:(1*z+1)*(1*z+1)=z*z+2*z+1:=by grind
  omega
theorem Ng {n:Int} (h:Bt 4000 n):Ads 1 ((((Builtin.Int.intBits n:Nat):Int)+1).fdiv 2)∧Bt 2001 (1*2 ^ ((((Builtin.Int.intBits n:Nat):Int)+1).fdiv 2).toNat)∧0 < (1*2 ^ ((((Builtin.Int.intBits n:Nat):Int)+1).fdiv 2).toNat:Int):=by
  have hb:Builtin.Int.intBits n≤4000:=intBits_le_iff.mpr h
  generalize Builtin.Int.intBits n=b at *
  rw [Int.fdiv_eq_ediv_of_nonneg _ (by decide)]
  refine ⟨⟨by omega,by omega,by decide⟩,?_,?_⟩
  · have e:(((b:Int)+1) / 2).toNat≤2000:=by omega
    generalize (((b:Int)+1) / 2).toNat=k at *
    unfold Bt
    rw [Int.one_mul,Int.natAbs_pow]
    exact Nat.pow_lt_pow_right (by decide) (by omega)
  · rw [Int.one_mul]
    exact Int.pow_pos (by decide)
theorem Tt {n g:Int} (hg:0 < g):(g+n.fdiv g).fdiv 2=(g+n / g) / 2:=by
  rw [Int.fdiv_eq_ediv_of_nonneg _ (by decide),Int.fdiv_eq_ediv_of_nonneg _ (by omega)]
noncomputable def Ia (n:Int):Prop:=∃ r:Int,r*r=n
theorem AaP {n r:Int} (h:Sq n r):Ia n↔r*r=n:=by
  refine ⟨fun ⟨s,e⟩=>?_,fun e=>⟨r,e⟩⟩
  have hs:Sq n (s.natAbs:Int):=by
    have e2:(s.natAbs:Int)*(s.natAbs:Int)=n:=(Int.natAbs_mul_self' s).trans e
    refine ⟨by omega,by omega,?_⟩
    have:((s.natAbs:Int)+1)*((s.natAbs:Int)+1)=(s.natAbs:Int)*(s.natAbs:Int)+2*(s.natAbs:Int)+1:=by grind
    omega
  rw [h.uniq hs]
  exact (Int.natAbs_mul_self' s).trans e
theorem KY {n:Int} (h:n < 0):¬ Ia n:=fun ⟨r,e⟩=>by
  have:0≤r*r:=by
    rcases Int.le_total 0 r with h | h
    · exact Int.mul_nonneg h h
    · exact Int.mul_nonneg_of_nonpos_of_nonpos h h
  omega
noncomputable abbrev JV:DSp:=spec (fun n:Int=>[.int n]) (fun n=>0≤n∧Bt 4000 n) fun n d=>∃ r,d=.int r∧Sq n r∧Bt 2001 r
noncomputable abbrev Iu:DSp:=spec (fun n:Int=>[.int n]) (fun n=>Bt 4000 n) fun n d=>∃ b:Bool,d=.bl b∧(b=true↔Ia n)
theorem Dv (a b:Int):a.fmod b=a - b*a.fdiv b:=Int.fmod_def a b
theorem Je {a b:Int} (h:b≠0):(a.fmod b).natAbs < b.natAbs:=by
  rcases Int.lt_or_lt_of_ne h with h | h
  · have e:a.fmod b=-((-a).fmod (-b)):=by rw [Dv,Dv,Int.neg_fdiv_neg];grind
    have h1:=Int.fmod_nonneg_of_pos (-a) (show 0 < -b by omega)
    have h2:=Int.fmod_lt_of_pos (-a) (show 0 < -b by omega)
    omega
  · have h1:=Int.fmod_nonneg_of_pos a h
    have h2:=Int.fmod_lt_of_pos a h
    omega
theorem K3 (a b:Int):Int.gcd b (a.fmod b)=Int.gcd a b:=by
  rw [Dv]
  have:a - b*a.fdiv b=a+b*(-(a.fdiv b)):=by grind
  rw [this,Int.gcd_comm]
  first
    | rw [Int.gcd_add_mul_left_left]
    | simp
theorem Kc {n:Nat} {a b:Int} (ha:Bt n a) (hb:Bt n b):Bt n ((Int.gcd a b:Nat):Int):=by
  unfold Bt at *
  rw [Int.natAbs_natCast]
  by_cases h:a=0
  · subst h;rw [Int.gcd_zero_left];exact hb
  · have:=Int.gcd_le_natAbs_left b h
    omega
noncomputable def g3 (f:I3):Nat:=Int.gcd ((Int.gcd f.1 f.2.1:Nat):Int) f.2.2
theorem AcO {f:I3} (h:g3 f=0):f=(0,0,0):=by
  obtain ⟨a,b,c⟩:=f
  have h1:=Int.gcd_eq_zero_iff.mp h
  have h2:=Int.gcd_eq_zero_iff.mp (show Int.gcd a b=0 by have:=h1.1;simp only at this;omega)
  have h3:c=0:=h1.2
  rw [h2.1,h2.2,h3]
theorem V5 (f:I3):(g3 f:Int)∣f.1∧(g3 f:Int)∣f.2.1∧(g3 f:Int)∣f.2.2:=by
  have h1:(g3 f:Int)∣((Int.gcd f.1 f.2.1:Nat):Int):=Int.gcd_dvd_left _ _
  exact ⟨Int.dvd_trans h1 (Int.gcd_dvd_left _ _),Int.dvd_trans h1 (Int.gcd_dvd_right _ _),Int.gcd_dvd_right _ _⟩
inductive Aba (f:I3):Dt→Prop
  | flat:Ia (meas f)→Aba f (.str "flat")
  | saddle:¬ Ia (meas f)→0 < meas f→Aba f (.str "saddle")
  | bowl:¬ Ia (meas f)→¬ 0 < meas f→0 < f.1→Aba f (.str "bowl")
  | dome:¬ Ia (meas f)→¬ 0 < meas f→¬ 0 < f.1→Aba f (.str "dome")
noncomputable def Pt (x y:Int):Prop:=¬ (x=0∧y=0)
structure DQ (f:I3):Prop where
  pos:0 < f.1
  lo:-f.1≤f.2.1
  hi:f.2.1≤f.1
  ac:f.1≤f.2.2
  edge:f.2.1=-f.1∨f.1=f.2.2→0≤f.2.1
theorem sq_pos {x:Int} (h:x≠0):1≤x*x:=by
  rcases Int.lt_or_lt_of_ne h with h | h
  · have:=Int.mul_le_mul_of_nonneg_left (show 1≤-x by omega) (show 0≤-x by omega)
    have e:(-x)*(-x)=x*x:=by grind
    omega
  · have:=Int.mul_le_mul_of_nonneg_left (show 1≤x by omega) (show 0≤x by omega)
    omega
theorem Yc {a b c x y:Int} (ha:0 < a) (h1:-a≤b) (h2:b≤a) (hc:a≤c) (hx:x≠0) (hy:y≠0):c≤val (a,b,c) (x,y):=by
  have key:∀ X Y B:Int,1≤X→1≤Y→0≤B→B≤a→a+c - B≤a*(X*X) - B*(X*Y)+c*(Y*Y):=fun X Y B hX hY hB0 hB=>by
    have sX:1≤X*X:=sq_pos (by omega)
    have sY:1≤Y*Y:=sq_pos (by omega)
    rcases Int.le_total Y X with h | h
    · have z1:X*Y≤X*X:=Int.mul_le_mul_of_nonneg_left h (by omega)
      have z2:B*(X*Y)≤B*(X*X):=Int.mul_le_mul_of_nonneg_left z1 hB0
      have z3:(a - B)*1≤(a - B)*(X*X):=Int.mul_le_mul_of_nonneg_left sX (by omega)
      have z4:c*1≤c*(Y*Y):=Int.mul_le_mul_of_nonneg_left sY (by omega)
      have z5:(a - B)*(X*X)=a*(X*X) - B*(X*X):=by grind
      omega
    · have z1:X*Y≤Y*Y:=Int.mul_le_mul_of_nonneg_right h (by omega)
      have z2:B*(X*Y)≤B*(Y*Y):=Int.mul_le_mul_of_nonneg_left z1 hB0
      have z3:(c - B)*1≤(c - B)*(Y*Y):=Int.mul_le_mul_of_nonneg_left sY (by omega)
      have z4:a*1≤a*(X*X):=Int.mul_le_mul_of_nonneg_left sX (by omega)
      have z5:(c - B)*(Y*Y)=c*(Y*Y) - B*(Y*Y):=by grind
      omega
  have hX:1≤(x.natAbs:Int):=by omega
  have hY:1≤(y.natAbs:Int):=by omega
  have k:=key x.natAbs y.natAbs b.natAbs hX hY (by omega) (by omega)
  have e1:(x.natAbs:Int)*x.natAbs=x*x:=Int.natAbs_mul_self' x
  have e2:(y.natAbs:Int)*y.natAbs=y*y:=Int.natAbs_mul_self' y
  have e3:-((b.natAbs:Int)*((x.natAbs:Int)*y.natAbs))≤b*(x*y):=by
    have:((b.natAbs:Int)*((x.natAbs:Int)*y.natAbs))=((b*(x*y)).natAbs:Int):=by rw [Int.natAbs_mul,Int.natAbs_mul];push_cast;rfl
    rw [this];omega
  rw [e1,e2] at k
  have e4:val (a,b,c) (x,y)=a*(x*x)+b*(x*y)+c*(y*y):=by simp only [val];grind
  rw [e4]
  omega
theorem KD {a b c x:Int}:val (a,b,c) (x,0)=a*(x*x):=by simp only [val];grind
theorem Vv {a b c y:Int}:val (a,b,c) (0,y)=c*(y*y):=by simp only [val];grind
theorem DQ.min {f:I3} (L:DQ f) {x y:Int} (h:Pt x y):f.1≤val f (x,y):=by
  obtain ⟨a,b,c⟩:=f
  obtain ⟨h0,h1,h2,h3,_⟩:=L
  simp only at h0 h1 h2 h3 ⊢
  by_cases hy:y=0
  · subst hy
    have hx:x≠0:=fun z=>h ⟨z,rfl⟩
    rw [KD]
    have:=Int.mul_le_mul_of_nonneg_left (sq_pos hx) (show 0≤a by omega)
    omega
  · by_cases hx:x=0
    · subst hx
      rw [Vv]
      have:=Int.mul_le_mul_of_nonneg_left (sq_pos hy) (show 0≤c by omega)
      omega
    · have:=Yc h0 h1 h2 h3 hx hy
      omega
theorem DQ.low {f:I3} (L:DQ f) {x y:Int} (h:val f (x,y) < f.2.2):y=0:=by
  obtain ⟨a,b,c⟩:=f
  obtain ⟨h0,h1,h2,h3,_⟩:=L
  simp only at h0 h1 h2 h3 h ⊢
  by_cases hy:y=0
  · exact hy
  · exfalso
    by_cases hx:x=0
    · subst hx
      rw [Vv] at h
      have:=Int.mul_le_mul_of_nonneg_left (sq_pos hy) (show 0≤c by omega)
      omega
    · have:=Yc h0 h1 h2 h3 hx hy
      omega
theorem AaT {t:I4} (h:det t=1):Pt t.1 t.2.2.1:=fun ⟨h1,h2⟩=>by
  obtain ⟨p,q,r,s⟩:=t
  simp only [det] at h h1 h2
  rw [h1,h2] at h
  simp at h
theorem Bq {f:I3} {t:I4} (h:det t=1):mov (mov f t) (Ar t)=f:=by rw [Bg,JG h,Bp]
theorem YQ {x:Int} (h:x*x=1):x=1∨x=-1:=by
  rcases Int.lt_or_le x 0 with z | z
  · have:(-x)*(-x)=1:=by grind
    rcases Int.lt_or_le (-x) 2 with w | w
    · exact .inr (by omega)
    · have:=Int.mul_le_mul w w (by decide) (by omega)
      omega
  · rcases Int.lt_or_le x 2 with w | w
    · rcases Int.lt_or_le x 1 with v | v
      · have:x=0:=by omega
        rw [this] at h;simp at h
      · exact .inl (by omega)
    · have:=Int.mul_le_mul w w (by decide) z
      omega
theorem DQ.fix {f:I3} {t:I4} (L:DQ f) (M:DQ (mov f t)) (h:det t=1) (ha:(mov f t).1=f.1) (hc:f.1 < f.2.2):t=(1,0,0,1)∨t=(-1,0,0,-1):=by
  obtain ⟨a,b,c⟩:=f
  obtain ⟨p,q,r,s⟩:=t
  have e1:(mov (a,b,c) (p,q,r,s)).1=val (a,b,c) (p,r):=rfl
  have hr:r=0:=L.low (x:=p) (by rw [←e1,ha];exact hc)
  subst hr
  rw [e1,KD] at ha
  have h0:0 < a:=L.pos
  simp only at ha
  have hpp:p*p=1:=by
    have:a*(p*p)=a*1:=by rw [ha];omega
    exact Int.eq_of_mul_eq_mul_left (by omega) this
  have hps:p*s=1:=by simp only [det] at h;omega
  have hb:(mov (a,b,c) (p,q,0,s)).2.1=2*(a*(p*q))+b:=by
    show 2*a*p*q+b*(p*s+q*0)+2*c*0*s=_
    rw [hps];grind
  have m1:-a≤2*(a*(p*q))+b:=by
    have:=M.lo
    rw [hb,e1,KD,hpp] at this
    omega
  have m2:2*(a*(p*q))+b≤a:=by
    have:=M.hi
    rw [hb,e1,KD,hpp] at this
    omega
  have m3:2*(a*(p*q))+b=-a→0≤2*(a*(p*q))+b:=fun z=>by
    have:=M.edge (.inl (by rw [hb,e1,KD,hpp];omega))
    rw [hb] at this
    exact this
  have l1:-a≤b:=L.lo
  have l2:b≤a:=L.hi
  have l3:b=-a→0≤b:=fun z=>L.edge (.inl z)
  have hq:p*q=0:=by
    generalize p*q=k at *
    rcases Int.lt_trichotomy k 0 with z | z | z
    · have:=Int.mul_le_mul_of_nonneg_left (show k≤-1 by omega) (show 0≤a by omega)
      omega
    · exact z
    · have:=Int.mul_le_mul_of_nonneg_left (show 1≤k by omega) (show 0≤a by omega)
      omega
  rcases YQ hpp with rfl | rfl
  · have h1:q=0:=by omega
    have h2:s=1:=by omega
    rw [h1,h2];exact .inl rfl
  · have h1:q=0:=by omega
    have h2:s=-1:=by omega
    rw [h1,h2];exact .inr rfl
theorem DQ.one {f:I3} {t:I4} (L:DQ f) (M:DQ (mov f t)) (h:det t=1):mov f t=f:=by
  have d1:f.1≤(mov f t).1:=by
    have e1:(mov f t).1=val f (t.1,t.2.2.1):=rfl
    rw [e1];exact L.min (AaT h)
  have hk:det (Ar t)=1:=CV.trans h
  have d2:(mov f t).1≤f.1:=by
    have:=M.min (AaT hk)
    have e1:(mov (mov f t) (Ar t)).1=val (mov f t) ((Ar t).1,(Ar t).2.2.1):=rfl
    rw [←e1,Bq h] at this
    exact this
  have ha:(mov f t).1=f.1:=by omega
  have hm:=Bu (f:=f) h
  by_cases hc:f.1 < f.2.2
  · rcases L.fix M h ha hc with e | e
    · rw [e,Bp]
    · rw [e]
      obtain ⟨a,b,c⟩:=f
      simp only [mov,val,mid,Prod.mk.injEq]
      refine ⟨?_,?_,?_⟩ <;> grind
  · by_cases hc':(mov f t).1 < (mov f t).2.2
    · exfalso
      have L':DQ (mov (mov f t) (Ar t)):=by rw [Bq h];exact L
      have ha':(mov (mov f t) (Ar t)).1=(mov f t).1:=by rw [Bq h];exact ha.symm
      rcases M.fix L' hk ha' hc' with e | e
      · have:f=mov f t:=by
          have z:=Bq (f:=f) h
          rw [e,Bp] at z
          exact z.symm
        rw [←this] at hc'
        exact hc hc'
      · have:f=mov f t:=by
          have z:=Bq (f:=f) h
          rw [e] at z
          have z2:mov (mov f t) (-1,0,0,-1)=mov f t:=by
            obtain ⟨a,b,c⟩:=mov f t
            simp only [mov,val,mid,Prod.mk.injEq]
            refine ⟨?_,?_,?_⟩ <;> grind
          rw [z2] at z
          exact z.symm
        rw [←this] at hc'
        exact hc hc'
    · have l3:=L.ac
      have m3:=M.ac
      have l5:=L.edge (.inr (by omega))
      have m5:=M.edge (.inr (by omega))
      have l0:=L.pos
      have e2:f.2.2=f.1:=by omega
      have e3:(mov f t).2.2=f.1:=by omega
      generalize mov f t=g at *
      obtain ⟨a,b,c⟩:=f
      obtain ⟨a',b',c'⟩:=g
      simp only at *
      subst ha e2 e3
      simp only [meas] at hm
      have hbb:b'*b'=b*b:=by omega
      have:b'=b:=by
        rcases Int.lt_trichotomy b' b with z | z | z
        · have z1:b'*b'≤b'*b:=Int.mul_le_mul_of_nonneg_left (by omega) m5
          have z2:b'*b < b*b:=Int.mul_lt_mul_of_pos_right z (by omega)
          omega
        · exact z
        · have z1:b*b≤b*b':=Int.mul_le_mul_of_nonneg_left (by omega) l5
          have z2:b*b' < b'*b':=Int.mul_lt_mul_of_pos_right z (by omega)
          omega
      rw [this]
theorem AaE (ns:List Int) (lo hi:Option Int):∃ cs:List Int,cutD (ns.map Dt.int) lo hi=cs.map Dt.int∧cs.length≤ns.length:=by
  refine ⟨(ns.drop (HT.sIx (ns.map Dt.int).length 0 lo)).take (HT.sIx (ns.map Dt.int).length (ns.map Dt.int).length hi - HT.sIx (ns.map Dt.int).length 0 lo),by unfold cutD;rw [List.map_take,List.map_drop],?_⟩
  rw [List.length_take,List.length_drop];omega
theorem Aga {ds:List Dt} {k:Int} (h0:0≤k) (h1:k < ds.length):∃ d,ixD k (.lst ds)=some d∧ixL k ds=some d∧ds[k.toNat]? = some d:=by
  obtain ⟨j,rfl⟩:=Int.eq_ofNat_of_zero_le h0
  have hj:j < ds.length:=by omega
  have e:ds[j]? = some ds[j]:=by simp [hj]
  exact ⟨_,e,e,e⟩
theorem Er (x:Int) {m:Int} (h:0 < m):0≤x.fmod m∧x.fmod m < m:=⟨Int.fmod_nonneg_of_pos x h,Int.fmod_lt_of_pos x h⟩
theorem sq_nonneg (x:Int):0≤x*x:=by
  rcases Int.le_total 0 x with h | h
  · exact Int.mul_nonneg h h
  · exact Int.mul_nonneg_of_nonpos_of_nonpos h h
end My
namespace My
open PySem L2
noncomputable def Bm (f:I3):Prop:=0 < f.1∧meas f < 0
noncomputable def stands (f:I3):Bool:=decide (-f.1≤f.2.1∧f.2.1≤f.1∧f.1≤f.2.2) && (decide (0≤f.2.1) || (decide (f.2.1≠-f.1) && decide (f.1≠f.2.2)))
theorem Bc {f:I3} (h:0 < f.1) (s:stands f=true):DQ f:=by
  simp only [stands,Bool.and_eq_true,Bool.or_eq_true,decide_eq_true_eq] at s
  obtain ⟨⟨h1,h2,h3⟩,h4⟩:=s
  exact ⟨h,h1,h2,h3,fun z=>by rcases h4 with h4 | ⟨h4,h5⟩;exact h4;rcases z with z | z;exact absurd z h4;exact absurd z h5⟩
theorem DQ.stands {f:I3} (L:DQ f):stands f=true:=by
  simp only [My.stands,Bool.and_eq_true,Bool.or_eq_true,decide_eq_true_eq]
  refine ⟨⟨L.lo,L.hi,L.ac⟩,?_⟩
  by_cases h:0≤f.2.1
  · exact .inl h
  · exact .inr ⟨fun z=>h (L.edge (.inl z)),fun z=>h (L.edge (.inr z))⟩
theorem DQ.bowl {f:I3} (L:DQ f):Bm f:=by
  obtain ⟨a,b,c⟩:=f
  refine ⟨L.pos,?_⟩
  have h0:0 < a:=L.pos
  have h1:-a≤b:=L.lo
  have h2:b≤a:=L.hi
  have h3:a≤c:=L.ac
  have h4:b*b≤a*a:=by
    have e1:(b.natAbs:Int)*b.natAbs=b*b:=Int.natAbs_mul_self' b
    have:=Int.mul_le_mul (show (b.natAbs:Int)≤a by omega) (show (b.natAbs:Int)≤a by omega) (by omega) (by omega)
    omega
  have h5:a*a≤a*c:=Int.mul_le_mul_of_nonneg_left h3 (by omega)
  have h6:1≤a*a:=sq_pos (by omega)
  show b*b - 4*a*c < 0
  have e:4*a*c=4*(a*c):=by grind
  omega
theorem DQ.bt {f:I3} {n:Nat} (L:DQ f) (h:Bt n (meas f)):B3 n f:=by
  obtain ⟨a,b,c⟩:=f
  have h0:0 < a:=L.pos
  have h1:-a≤b:=L.lo
  have h2:b≤a:=L.hi
  have h3:a≤c:=L.ac
  have h4:b*b≤a*a:=by
    have e1:(b.natAbs:Int)*b.natAbs=b*b:=Int.natAbs_mul_self' b
    have:=Int.mul_le_mul (show (b.natAbs:Int)≤a by omega) (show (b.natAbs:Int)≤a by omega) (by omega) (by omega)
    omega
  have h5:a*a≤a*c:=Int.mul_le_mul_of_nonneg_left h3 (by omega)
  have h6:1*c≤a*c:=Int.mul_le_mul_of_nonneg_right (by omega) (by omega)
  have hm:meas (a,b,c)=b*b - 4*(a*c):=by simp only [meas];grind
  have hc:Bt n c:=by unfold Bt at *;rw [hm] at h;omega
  refine ⟨?_,?_,hc⟩
  · show Bt n a
    unfold Bt at *;omega
  · show Bt n b
    unfold Bt at *;omega
noncomputable def oft (f:I3):Int:=(f.1 - f.2.1).fdiv (2*f.1)
noncomputable def DN (f:I3):I4:=if oft f≠0 then (1,oft f,0,1) else (0,-1,1,0)
theorem Rx {f:I3}:det (DN f)=1:=by
  unfold DN
  split <;> simp [det]
theorem U5 {a b c k:Int}:mov (a,b,c) (1,k,0,1)=(a,b+2*a*k,a*k*k+b*k+c):=by
  simp only [mov,val,mid,Prod.mk.injEq]
  refine ⟨?_,?_,?_⟩ <;> grind
theorem T7 {a b c:Int}:mov (a,b,c) (0,-1,1,0)=(c,-b,a):=by
  simp only [mov,val,mid,Prod.mk.injEq]
  refine ⟨?_,?_,?_⟩ <;> grind
theorem JC {a b:Int} (h:0 < a):-a < b+2*a*((a - b).fdiv (2*a))∧b+2*a*((a - b).fdiv (2*a))≤a:=by
  rw [Int.fdiv_eq_ediv_of_nonneg _ (by omega)]
  have h1:=Int.lt_mul_ediv_self_add (x:=a - b) (show 0 < 2*a by omega)
  have h2:=Int.mul_ediv_self_le (x:=a - b) (k:=2*a) (by omega)
  omega
theorem T5 {a b:Int} (h:0 < a) (z:(a - b).fdiv (2*a)=0):-a < b∧b≤a:=by
  have:=JC (b:=b) h
  rw [z] at this
  omega
noncomputable def msr (f:I3):Nat:=4*f.1.toNat+(if -f.1 < f.2.1∧f.2.1≤f.1 then 0 else 2)+(if f.2.1 < 0 then 1 else 0)
theorem Tz {f:I3} (h:Bm f):0 < f.2.2:=by
  obtain ⟨a,b,c⟩:=f
  obtain ⟨h0,h1⟩:=h
  simp only [meas] at h0 h1 ⊢
  rcases Int.lt_or_le 0 c with h | h
  · exact h
  · exfalso
    have h2:0≤b*b:=sq_nonneg b
    have h3:a*c≤a*0:=Int.mul_le_mul_of_nonneg_left h (by omega)
    have e:4*a*c=4*(a*c):=by grind
    omega
theorem OJ {f:I3} {t:I4} (h:Bm f) (d:det t=1):Bm (mov f t):=by
  have hm:=Bu (f:=f) d
  refine ⟨?_,by rw [hm];exact h.2⟩
  obtain ⟨a,b,c⟩:=f
  obtain ⟨p,q,r,s⟩:=t
  obtain ⟨h0,h1⟩:=h
  show 0 < val (a,b,c) (p,r)
  simp only [meas] at h0 h1
  have e:4*(a*val (a,b,c) (p,r))=(2*a*p+b*r)*(2*a*p+b*r) - (b*b - 4*a*c)*(r*r):=by simp only [val];grind
  have z1:=sq_nonneg (2*a*p+b*r)
  have z2:0≤(4*a*c - b*b)*(r*r):=Int.mul_nonneg (by omega) (sq_nonneg r)
  have e2:(4*a*c - b*b)*(r*r)=-((b*b - 4*a*c)*(r*r)):=by grind
  rcases Int.lt_or_le 0 (val (a,b,c) (p,r)) with h | h
  · exact h
  · exfalso
    have z3:a*val (a,b,c) (p,r)≤a*0:=Int.mul_le_mul_of_nonneg_left h (by omega)
    have hr:r*r=0:=by
      by_cases hr:r=0
      · rw [hr];rfl
      · exfalso
        have:=Int.mul_le_mul (show 1≤4*a*c - b*b by omega) (sq_pos hr) (by omega) (by omega)
        omega
    have hr0:r=0:=by
      by_cases hr0:r=0
      · exact hr0
      · have:=sq_pos hr0;omega
    subst hr0
    have hp:p≠0:=fun hp=>by subst hp;simp [det] at d
    have hp1:=sq_pos hp
    have e3:val (a,b,c) (p,0)=a*(p*p):=KD
    rw [e3] at h
    have:=Int.mul_le_mul_of_nonneg_left hp1 (show 0≤a by omega)
    omega
theorem Yo {f:I3} (h:Bm f) (s:stands f=false):msr (mov f (DN f)) < msr f:=by
  obtain ⟨a,b,c⟩:=f
  have ha:0 < a:=h.1
  have hc:0 < c:=Tz h
  unfold DN
  by_cases ho:oft (a,b,c)=0
  · rw [if_neg (by simpa using ho),T7]
    have ⟨h1,h2⟩:-a < b∧b≤a:=T5 ha ho
    have hs:c < a∨(a=c∧b < 0):=by
      simp only [stands,Bool.and_eq_false_iff,Bool.or_eq_false_iff,decide_eq_false_iff_not] at s
      omega
    unfold msr
    simp only
    rw [if_pos (show -a < b∧b≤a from ⟨h1,h2⟩)]
    rcases hs with hs | ⟨hs,hb⟩
    · split <;> split <;> split <;> omega
    · subst hs
      rw [if_pos (show -a < -b∧-b≤a by omega),if_pos hb,if_neg (by omega)]
      omega
  · rw [if_pos ho,U5]
    have ⟨h1,h2⟩:=JC (b:=b) ha
    have hn:¬ (-a < b∧b≤a):=fun z=>ho (by
      show (a - b).fdiv (2*a)=0
      rw [Int.fdiv_eq_ediv_of_nonneg _ (by omega)]
      exact Int.ediv_eq_zero_of_lt (by omega) (by omega))
    unfold msr
    simp only
    show 4*a.toNat+(if -a < b+2*a*((a - b).fdiv (2*a))∧b+2*a*((a - b).fdiv (2*a))≤a then 0 else 2)+(if b+2*a*((a - b).fdiv (2*a)) < 0 then 1 else 0) < _
    rw [if_pos ⟨h1,h2⟩,if_neg hn]
    split <;> split <;> omega
theorem AaC {f:I3} {n:Nat} (h:Bm f) (s:stands f=false) (b1:Bt n f.1) (b2:Bt n f.2.1):Bt n (mov f (DN f)).1∧Bt n (mov f (DN f)).2.1:=by
  obtain ⟨a,b,c⟩:=f
  have ha:0 < a:=h.1
  have hc:0 < c:=Tz h
  have b1:Bt n a:=b1
  have b2:Bt n b:=b2
  unfold DN
  by_cases ho:oft (a,b,c)=0
  · rw [if_neg (by simpa using ho),T7]
    have ⟨h1,h2⟩:-a < b∧b≤a:=T5 ha ho
    have hs:c≤a:=by
      simp only [stands,Bool.and_eq_false_iff,Bool.or_eq_false_iff,decide_eq_false_iff_not] at s
      omega
    refine ⟨?_,b2.neg⟩
    show Bt n c
    unfold Bt at *;omega
  · rw [if_pos ho,U5]
    have ⟨h1,h2⟩:=JC (b:=b) ha
    refine ⟨b1,?_⟩
    show Bt n (b+2*a*((a - b).fdiv (2*a)))
    unfold Bt at *;omega
theorem AdI {f:I3} {n m:Nat} (h:Bm f) (b1:Bt n f.1) (b2:Bt n f.2.1) (hm:Bt m (meas f)):B3 (n+n+m+1) f:=by
  obtain ⟨a,b,c⟩:=f
  have ha:0 < a:=h.1
  have hc:0 < c:=Tz h
  refine ⟨b1.le (by omega),b2.le (by omega),?_⟩
  have z:=(b2.mul b2).sub hm
  have e:b*b - meas (a,b,c)=4*(a*c):=by simp only [meas];grind
  have z1:1*c≤a*c:=Int.mul_le_mul_of_nonneg_right (by omega) (by omega)
  have z':Bt (max (n+n) m+1) (4*(a*c)):=by rw [←e];exact z
  have z2:Bt (max (n+n) m+1) c:=by unfold Bt at *;omega
  exact z2.le (by omega)
theorem AdO {n:Nat} {x:Int} (h:x*x < 2 ^ (2*n)):Bt n x:=by
  unfold Bt
  rcases Nat.lt_or_ge x.natAbs (2 ^ n) with z | z
  · exact z
  · exfalso
    have:=Nat.mul_le_mul z z
    rw [←Nat.pow_add,show n+n=2*n by omega] at this
    have e1:(x.natAbs:Int)*x.natAbs=x*x:=Int.natAbs_mul_self' x
    have:((2 ^ (2*n):Nat):Int)≤(x.natAbs:Int)*x.natAbs:=by exact_mod_cast this
    rw [e1] at this
    push_cast at this
    omega
theorem U0 {f:I3} {n m k:Nat} {x y:Int} (h:Bm f) (hb:B3 n f) (hv:Bt m (val f (x,y))) (hk:n+m+2≤2*k):B2 k (x,y):=by
  obtain ⟨a,b,c⟩:=f
  have ha:0 < a:=h.1
  have hc:0 < c:=Tz h
  have hm:b*b - 4*a*c < 0:=h.2
  obtain ⟨h1,h2,h3⟩:=hb
  have h4:Bt 3 4:=Bt.of_abs (by decide)
  have e1:4*(a*val (a,b,c) (x,y))=(2*a*x+b*y)*(2*a*x+b*y)+(4*a*c - b*b)*(y*y):=by simp only [val];grind
  have e2:4*(c*val (a,b,c) (x,y))=(2*c*y+b*x)*(2*c*y+b*x)+(4*a*c - b*b)*(x*x):=by simp only [val];grind
  have k1:y*y≤4*(a*val (a,b,c) (x,y)):=by
    have z1:=sq_nonneg (2*a*x+b*y)
    have z2:=Int.mul_le_mul_of_nonneg_right (show 1≤4*a*c - b*b by omega) (sq_nonneg y)
    omega
  have k2:x*x≤4*(c*val (a,b,c) (x,y)):=by
    have z1:=sq_nonneg (2*c*y+b*x)
    have z2:=Int.mul_le_mul_of_nonneg_right (show 1≤4*a*c - b*b by omega) (sq_nonneg x)
    omega
  have up:∀ {z w:Int},Bt n z→w≤4*(z*val (a,b,c) (x,y))→w < 2 ^ (2*k):=fun {z w} hz hw=>by
    have h5:=hz.mul hv
    have h6:Bt (n+m) (z*val (a,b,c) (x,y)):=h5
    have h7:(4:Int)*2 ^ (n+m)≤2 ^ (2*k):=by
      have:(4:Int)*2 ^ (n+m)=2 ^ (n+m+2):=by rw [show n+m+2=(n+m)+1+1 from rfl,Int.pow_succ,Int.pow_succ];omega
      rw [this]
      have:=Nat.pow_le_pow_right (show 0 < 2 by decide) hk
      exact_mod_cast this
    unfold Bt at h6
    have h8:z*val (a,b,c) (x,y) < 2 ^ (n+m):=by
      have:((z*val (a,b,c) (x,y)).natAbs:Int) < ((2 ^ (n+m):Nat):Int):=by exact_mod_cast h6
      push_cast at this
      omega
    omega
  exact ⟨AdO (up h3 k2),AdO (up h1 k1)⟩
theorem AdH {f:I3} {t:I4} {n m k:Nat} (h:Bm f) (hb:B3 n f) (hg:B3 m (mov f t)) (hk:n+m+2≤2*k):B4 k t:=by
  have p1:=U0 (x:=t.1) (y:=t.2.2.1) h hb hg.1 hk
  have p2:=U0 (x:=t.2.1) (y:=t.2.2.2) h hb hg.2.2 hk
  exact ⟨p1.1,p2.1,p1.2,p2.2⟩
theorem PK {f:I3} (h:oft f=0):DN f=(0,-1,1,0):=by unfold DN;rw [if_neg (by simpa using h)]
theorem PJ {f:I3} (h:¬ oft f=0):DN f=(1,oft f,0,1):=by unfold DN;rw [if_pos h]
theorem Zt {f:I3} {n:Nat} (h:0 < f.1) (b1:Bt n f.1) (b2:Bt n f.2.1):B4 (n+1) (DN f):=by
  obtain ⟨a,b,c⟩:=f
  have h:0 < a:=h
  have b1:Bt n a:=b1
  have b2:Bt n b:=b2
  have one:Bt (n+1) 1:=Bt.one.le (by omega)
  by_cases ho:oft (a,b,c)=0
  · rw [PK ho]
    exact ⟨Bt.zero.le (by omega),one.neg,one,Bt.zero.le (by omega)⟩
  · rw [PJ ho]
    refine ⟨one,?_,Bt.zero.le (by omega),one⟩
    have ⟨h1,h2⟩:=JC (b:=b) h
    show Bt (n+1) ((a - b).fdiv (2*a))
    generalize (a - b).fdiv (2*a)=k at *
    have e:2*a*k=2*(a*k):=by grind
    have z:(k.natAbs:Int)≤((a*k).natAbs:Int):=by
      rw [Int.natAbs_mul]
      have:=Nat.mul_le_mul_right k.natAbs (show 1≤a.natAbs by omega)
      omega
    unfold Bt at *
    rw [Nat.pow_succ]
    omega
end My
namespace My
open PySem L2
structure Sad (f:I3):Prop where
  no:¬ Ia (meas f)
  pos:0 < meas f
  most:meas f≤4000
noncomputable def Level (f:I3) (far:Int):Prop:=(0 < f.2.1∧f.2.1≤far)∧far - f.2.1 < 2*(if f.1 < 0 then -f.1 else f.1)∧2*(if f.1 < 0 then -f.1 else f.1)≤far+f.2.1
instance {f:I3} {far:Int}:Decidable (Level f far):=by unfold Level;infer_instance
theorem Sad.mov {f:I3} {t:I4} (h:Sad f) (d:det t=1):Sad (mov f t):=by
  have e:=Bu (f:=f) d
  exact ⟨by rw [e];exact h.no,by rw [e];exact h.pos,by rw [e];exact h.most⟩
end My
namespace My
open PySem L2
noncomputable abbrev ab (x:Int):Int:=if x < 0 then -x else x
theorem Ay (x:Int):(0≤x∧ab x=x)∨(x < 0∧ab x=-x):=by
  rcases Int.lt_or_le x 0 with h | h
  · exact .inr ⟨h,if_pos h⟩
  · exact .inl ⟨h,if_neg (by omega)⟩
theorem BW (x:Int):0≤ab x:=by rcases Ay x with ⟨h,e⟩ | ⟨h,e⟩ <;> omega
theorem Aiv {n:Nat} {x:Int} (h:Bt n x):Bt n (ab x):=by
  rcases Ay x with ⟨_,e⟩ | ⟨_,e⟩ <;> rw [e]
  · exact h
  · exact h.neg
theorem Xk {n:Nat} {x y:Int} (h:Bt n y) (l:ab x≤ab y):Bt n x:=by
  unfold Bt at *
  rcases Ay x with ⟨_,e⟩ | ⟨_,e⟩ <;> rcases Ay y with ⟨_,e'⟩ | ⟨_,e'⟩ <;> omega
theorem Rn {n:Nat} {x k:Int} (l:ab x≤k) (hk:k < 2 ^ n):Bt n x:=by
  rcases Ay x with ⟨_,e⟩ | ⟨_,e⟩ <;> exact Bt.of (by omega) (by omega)
noncomputable def dB (f:I3) (top:Int):Int:=top - (top+f.2.1).fmod (2*ab f.2.2)
noncomputable def kB (f:I3) (top:Int):Int:=(f.2.1+dB f top).fdiv (2*f.2.2)
noncomputable def Cy (f:I3) (top:Int):I4:=(0,-1,1,kB f top)
theorem CZ {f:I3} {top:Int}:det (Cy f top)=1:=by simp [det,Cy]
theorem Lw {f:I3} {top:Int} (h:f.2.2≠0):top - 2*ab f.2.2 < dB f top∧dB f top≤top:=by
  have hc:0 < 2*ab f.2.2:=by rcases Ay f.2.2 with ⟨_,e⟩ | ⟨_,e⟩ <;> omega
  have:=Er (top+f.2.1) hc
  unfold dB
  omega
theorem Hv {f:I3} {top:Int} (h:f.2.2≠0):2*f.2.2*kB f top=f.2.1+dB f top:=by
  unfold kB dB
  have e:=Int.fmod_def (top+f.2.1) (2*ab f.2.2)
  generalize (top+f.2.1).fdiv (2*ab f.2.2)=q at *
  have e1:f.2.1+(top - (top+f.2.1).fmod (2*ab f.2.2))=2*ab f.2.2*q:=by omega
  rw [e1]
  rcases Ay f.2.2 with ⟨_,e2⟩ | ⟨_,e2⟩
  · rw [e2,Int.mul_fdiv_cancel_left _ (by omega)]
  · have e3:2*ab f.2.2*q=2*f.2.2*(-q):=by rw [e2];grind
    rw [e3,Int.mul_fdiv_cancel_left _ (by omega)]
theorem NT {f:I3} {top:Int} (h:f.2.2≠0):∃ e,mov f (Cy f top)=(f.2.2,dB f top,e):=by
  have hk:=Hv (top:=top) h
  obtain ⟨a,b,c⟩:=f
  refine ⟨(mov (a,b,c) (Cy (a,b,c) top)).2.2,?_⟩
  have e1:(mov (a,b,c) (Cy (a,b,c) top)).1=c:=by simp only [mov,val,Cy];grind
  have e2:(mov (a,b,c) (Cy (a,b,c) top)).2.1=dB (a,b,c) top:=by
    simp only [mov,mid,Cy]
    simp only at hk
    generalize kB (a,b,c) top=k at *
    have:2*a*0 * -1+b*(0*k + -1*1)+2*c*1*k=2*c*k - b:=by grind
    omega
  ext1
  · exact e1
  · ext1
    · exact e2
    · rfl
theorem VF {D far:Int} (r:Sq D far) (n:¬ Ia D):far*far < D:=by
  rcases Int.lt_or_le (far*far) D with h | h
  · exact h
  · exact absurd ⟨far,by have:=r.2.1;omega⟩ n
theorem Mx {D far:Int} (r:Sq D far) (m:D≤4000):far≤63:=by
  rcases Int.lt_or_le far 64 with h | h
  · omega
  · have:=Int.mul_le_mul h h (by decide) r.1
    have:=r.2.1
    omega
theorem Ij {f:I3} (S:Sad f):f.2.2≠0:=fun h=>S.no ⟨f.2.1,by
  obtain ⟨a,b,c⟩:=f
  simp only at h
  subst h
  simp only [meas]
  omega⟩
theorem Rg {f:I3} (S:Sad f):f.1≠0:=fun h=>S.no ⟨f.2.1,by
  obtain ⟨a,b,c⟩:=f
  simp only at h
  subst h
  simp only [meas]
  omega⟩
theorem Qi (x y:Int):ab x*ab y=ab (x*y):=by
  rcases Ay x with ⟨h1,e1⟩ | ⟨h1,e1⟩ <;> rcases Ay y with ⟨h2,e2⟩ | ⟨h2,e2⟩ <;> rw [e1,e2]
  · have:=Int.mul_nonneg h1 h2
    exact (if_neg (by omega)).symm
  · have:=Int.mul_nonneg h1 (show 0≤-y by omega)
    have e:x * -y=-(x*y):=by grind
    by_cases h:x*y < 0
    · rw [ab,if_pos h,e]
    · rw [ab,if_neg h];omega
  · have:=Int.mul_nonneg (show 0≤-x by omega) h2
    have e:-x*y=-(x*y):=by grind
    by_cases h:x*y < 0
    · rw [ab,if_pos h,e]
    · rw [ab,if_neg h];omega
  · have:=Int.mul_nonneg (show 0≤-x by omega) (show 0≤-y by omega)
    have e:-x * -y=x*y:=by grind
    rw [ab,if_neg (by omega),e]
theorem Jm {x k:Int} (h:ab x≤k):x*x≤k*k:=by
  have e:x*x=ab x*ab x:=by
    rcases Ay x with ⟨_,e⟩ | ⟨_,e⟩ <;> rw [e]
    grind
  rw [e]
  have:=BW x
  exact Int.mul_le_mul h h this (by omega)
theorem last_eq {c d e D:Int} (h:meas (c,d,e)=D):4*(ab c*ab e)=ab (d*d - D):=by
  have:d*d - D=4*(c*e):=by rw [←h];simp only [meas];grind
  rw [this,Qi]
  rcases Ay (c*e) with ⟨h1,e1⟩ | ⟨h1,e1⟩
  · rw [e1,ab,if_neg (by omega)]
  · rw [e1,ab,if_pos (by omega)];omega
theorem AbH {c d e D far:Int} (r:Sq D far) (D0:0 < D) (h:meas (c,d,e)=D) (hc:far < ab c) (h1:-ab c < d) (h2:d≤ab c):4*ab e≤ab c:=by
  have k:=last_eq h
  have hd:d*d≤ab c*ab c:=by
    refine Jm ?_
    rcases Ay d with ⟨_,e1⟩ | ⟨_,e1⟩ <;> omega
  have hD:D≤ab c*ab c:=by
    have:=Int.mul_le_mul (show far+1≤ab c by omega) (show far+1≤ab c by omega) (by have:=r.1;omega) (BW c)
    have:=r.2.2
    omega
  have h0:=sq_nonneg d
  have:ab (d*d - D)≤ab c*ab c:=by
    rcases Ay (d*d - D) with ⟨_,e1⟩ | ⟨_,e1⟩ <;> omega
  have hc0:0 < ab c:=by have:=r.1;omega
  rcases Int.lt_or_le (ab c) (4*ab e) with z | z
  · exfalso
    have:=Int.mul_lt_mul_of_pos_left z hc0
    have e2:ab c*(4*ab e)=4*(ab c*ab e):=by grind
    omega
  · exact z
theorem AaG {c d e D far:Int} (r:Sq D far) (n:¬ Ia D) (h:meas (c,d,e)=D) (hc:ab c≤far) (hc2:far < 2*ab c) (h1:far - 2*ab c < d) (h2:d≤far):2*ab e≤far:=by
  have k:=last_eq h
  have hf:=VF r n
  have hd:d*d≤far*far:=by
    refine Jm ?_
    rcases Ay d with ⟨_,e1⟩ | ⟨_,e1⟩ <;> omega
  have h0:=sq_nonneg d
  have hD:=r.2.2
  have:ab (d*d - D) < (far+1)*(far+1):=by
    rcases Ay (d*d - D) with ⟨_,e1⟩ | ⟨_,e1⟩ <;> omega
  rcases Int.lt_or_le far (2*ab e) with z | z
  · exfalso
    have:=Int.mul_le_mul (show far+1≤2*ab c by omega) (show far+1≤2*ab e by omega) (by have:=r.1;omega) (by have:=BW c;omega)
    have e2:2*ab c*(2*ab e)=4*(ab c*ab e):=by grind
    omega
  · exact z
theorem XH {c d e far:Int} (hc:2*ab c≤far) (h1:far - 2*ab c < d) (h2:d≤far):Level (c,d,e) far:=by
  refine ⟨⟨?_,h2⟩,?_,?_⟩
  · show 0 < d;omega
  · show far - d < 2*ab c;omega
  · show 2*ab c≤far+d;omega
theorem V6 {c d e D far:Int} (r:Sq D far) (hm:D≤4000) (D0:0 < D) (h:meas (c,d,e)=D) (c0:c≠0) (hd:ab d≤far):ab e≤1000:=by
  have k:=last_eq h
  have h2:d*d≤far*far:=Jm hd
  have h0:=sq_nonneg d
  have h3:=r.2.1
  have:ab (d*d - D)≤4000:=by
    rcases Ay (d*d - D) with ⟨_,e1⟩ | ⟨_,e1⟩ <;> omega
  have hc:1≤ab c:=by rcases Ay c with ⟨_,e1⟩ | ⟨_,e1⟩ <;> omega
  have:=Int.mul_le_mul_of_nonneg_right hc (BW e)
  omega
theorem Ir {f:I3} {far:Int} (r:Sq (meas f) far) (n:¬ Ia (meas f)) (L:Level f far):far - f.2.1 < 2*ab f.2.2∧2*ab f.2.2≤far+f.2.1:=by
  obtain ⟨a,b,c⟩:=f
  obtain ⟨⟨l1,l2⟩,l3,l4⟩:=L
  have l1:0 < b:=l1
  have l2:b≤far:=l2
  have l3:far - b < 2*ab a:=l3
  have l4:2*ab a≤far+b:=l4
  show far - b < 2*ab c∧2*ab c≤far+b
  have hf:=VF r n
  have hD:=r.2.2
  have k:4*(ab a*ab c)=ab (b*b - meas (a,b,c)):=last_eq (c:=a) (d:=b) (e:=c) rfl
  generalize meas (a,b,c)=D at *
  have hb:b*b≤far*far:=Int.mul_le_mul l2 l2 (by omega) (by omega)
  have k2:(2*ab a)*(2*ab c)=D - b*b:=by
    have e1:(2*ab a)*(2*ab c)=4*(ab a*ab c):=by grind
    rcases Ay (b*b - D) with ⟨_,e⟩ | ⟨_,e⟩ <;> omega
  generalize 2*ab a=A at *
  have hC0:0≤2*ab c:=by have:=BW c;omega
  generalize 2*ab c=C at *
  constructor
  · rcases Int.lt_or_le (far - b) C with z | z
    · exact z
    · exfalso
      have z1:A*C≤(far+b)*(far - b):=Int.mul_le_mul l4 z hC0 (by omega)
      have e1:(far+b)*(far - b)=far*far - b*b:=by grind
      omega
  · rcases Int.lt_or_le (far+b) C with z | z
    · exfalso
      have z1:(far - b+1)*(far+b+1)≤A*C:=Int.mul_le_mul (by omega) (by omega) (by omega) (by omega)
      have e1:(far - b+1)*(far+b+1)=(far+1)*(far+1) - b*b:=by grind
      omega
    · exact z
theorem VJ {f:I3} {far:Int} (S:Sad f) (r:Sq (meas f) far) (L:Level f far):Level (mov f (Cy f far)) far:=by
  have hc:=Ij S
  obtain ⟨e,he⟩:=NT (top:=far) hc
  rw [he]
  have ⟨d1,d2⟩:=Lw (top:=far) hc
  have ⟨c1,c2⟩:=Ir r S.no L
  obtain ⟨⟨l1,l2⟩,_,_⟩:=L
  have hk:=Hv (top:=far) hc
  have d3:far - 2*ab f.2.2 < dB f far:=d1
  by_cases hC:2*ab f.2.2≤far
  · exact XH hC d1 d2
  ·
    have hd:dB f far=2*ab f.2.2 - f.2.1:=by
      have e1:f.2.1+dB f far=2*(f.2.2*kB f far):=by rw [←hk];grind
      have hx:ab (f.2.2*kB f far)=ab f.2.2*ab (kB f far):=(Qi _ _).symm
      have hpos:0 < f.2.2*kB f far:=by omega
      have hx2:f.2.2*kB f far=ab f.2.2*ab (kB f far):=by rw [←hx,ab,if_neg (by omega)]
      have hk0:0 < ab (kB f far):=by
        rcases Int.lt_or_le 0 (ab (kB f far)) with z | z
        · exact z
        · have:ab (kB f far)=0:=by have:=BW (kB f far);omega
          rw [this] at hx2
          omega
      have hk1:ab (kB f far)=1:=by
        rcases Int.lt_or_le (ab (kB f far)) 2 with z | z
        · omega
        · exfalso
          have:=Int.mul_le_mul_of_nonneg_left z (BW f.2.2)
          omega
      rw [hk1] at hx2
      omega
    refine ⟨⟨?_,d2⟩,?_,?_⟩
    · show 0 < dB f far;omega
    · show far - dB f far < 2*ab f.2.2;omega
    · show 2*ab f.2.2≤far+dB f far;omega
theorem UL {f:I3} {far:Int} (S:Sad f) (r:Sq (meas f) far) (L:Level f far):B3 7 f:=by
  have ⟨c1,c2⟩:=Ir r S.no L
  have h6:=Mx r S.most
  obtain ⟨⟨l1,l2⟩,l3,l4⟩:=L
  have l4:2*ab f.1≤far+f.2.1:=l4
  exact ⟨Rn (k:=63) (by omega) (by decide),Bt.of (by omega) (by omega),Rn (k:=63) (by omega) (by decide)⟩
end My
namespace My
open PySem L2
noncomputable abbrev bl (x:Int):Nat:=Builtin.Int.intBits x
theorem Xv {x:Int}:Bt (bl x) x:=intBits_le_iff.mp (Nat.le_refl _)
theorem W9 {n:Nat} {x:Int} (h:Bt n x):bl x≤n:=intBits_le_iff.mpr h
theorem WD {x:Int} (h:x≠0):1≤bl x:=by
  rcases Nat.lt_or_ge 0 (bl x) with z | z
  · exact z
  · have:=Xv (x:=x)
    unfold Bt at this
    rw [show bl x=0 by omega] at this
    omega
theorem Aa6 {x:Int} (h:x≠0):2 ^ (bl x - 1)≤x.natAbs:=by
  rcases Nat.lt_or_ge x.natAbs (2 ^ (bl x - 1)) with z | z
  · have:=W9 (n:=bl x - 1) z
    have:=WD h
    omega
  · exact z
theorem YC {x y:Int} (h:4*ab x≤ab y) (hy:y≠0):bl x+2≤bl y∨x=0:=by
  by_cases hx:x=0
  · exact .inr hx
  · refine .inl ?_
    have h1:=Aa6 hx
    have h2:=Xv (x:=y)
    unfold Bt at h2
    have p:=WD hx
    rcases Nat.lt_or_ge (bl y) (bl x+2) with z | z
    · exfalso
      have h3:2 ^ bl y≤2 ^ (bl x - 1+2):=Nat.pow_le_pow_right (by decide) (by omega)
      rw [Nat.pow_add] at h3
      have h4:4*x.natAbs≤y.natAbs:=by
        rcases Ay x with ⟨_,e⟩ | ⟨_,e⟩ <;> rcases Ay y with ⟨_,e'⟩ | ⟨_,e'⟩ <;> omega
      omega
    · exact z
theorem Uq {b c d k:Int} {x:Nat} (hc:c≠0) (hb:Bt x b) (hx:bl c≤x) (hd:ab d≤ab c) (hk:2*c*k=b+d):Bt (x+1 - bl c) k:=by
  have h1:=Aa6 hc
  have h2:=Xv (x:=c)
  have hp:=WD hc
  unfold Bt at *
  have e1:2*(c.natAbs*k.natAbs)=(b+d).natAbs:=by
    rw [←hk,Int.mul_assoc,Int.natAbs_mul,Int.natAbs_mul];rfl
  have e2:(b+d).natAbs < 2 ^ x+2 ^ bl c:=by
    rcases Ay d with ⟨_,e⟩ | ⟨_,e⟩ <;> rcases Ay c with ⟨_,e'⟩ | ⟨_,e'⟩ <;> omega
  have e3:2 ^ bl c≤2 ^ x:=Nat.pow_le_pow_right (by decide) hx
  rcases Nat.lt_or_ge k.natAbs (2 ^ (x+1 - bl c)) with z | z
  · exact z
  · exfalso
    have:=Nat.mul_le_mul h1 z
    rw [←Nat.pow_add,show bl c - 1+(x+1 - bl c)=x by omega] at this
    omega
theorem O1 {f:I3} {top:Int} {m:Nat} (h:Bt m (kB f top)) (hm:1≤m):B4 m (Cy f top):=⟨Bt.zero.le (by omega),(Bt.one.le hm).neg,Bt.one.le hm,h⟩
noncomputable def QJ (n:Nat) (far:Int) (f0:I3) (t:I4):Prop :=
  det t=1∧B3 n (mov f0 t) ∧
  (if far < ab (mov f0 t).2.2 then ∃ β x,B4 β t∧Bt x (mov f0 t).2.1∧bl (mov f0 t).2.2≤x∧β+x+bl (mov f0 t).2.2≤2*n+1
   else if Level (mov f0 t) far then B4 (5*n+30) t else if far < 2*ab (mov f0 t).2.2 then B4 (3*n+10) t else B4 (4*n+20) t)
noncomputable def eM (far:Int) (f:I3):Nat:=if far < ab f.2.2 then (ab f.2.2).toNat+3 else if Level f far then 0 else if far < 2*ab f.2.2 then 2 else 1
theorem QJ.b4 {n:Nat} {far:Int} {f0:I3} {t:I4} (h:QJ n far f0 t):B4 (5*n+30) t:=by
  obtain ⟨_,_,h⟩:=h
  split at h
  · obtain ⟨β,x,hb,_,_,_⟩:=h
    exact hb.le (by omega)
  · split at h
    · exact h
    · split at h
      · exact h.le (by omega)
      · exact h.le (by omega)
theorem QJ.start {n:Nat} {far:Int} {f:I3} (hn:1≤n) (hf:B3 n f):QJ n far f (1,0,0,1):=by
  have one:B4 1 (1,0,0,1):=⟨Bt.one,Bt.zero.le (by omega),Bt.zero.le (by omega),Bt.one⟩
  unfold QJ
  rw [Bp]
  refine ⟨rfl,hf,?_⟩
  split
  · exact ⟨1,n,one,hf.2.1,W9 hf.2.2,by have:=W9 hf.2.2;omega⟩
  · split
    · exact one.le (by omega)
    · split
      · exact one.le (by omega)
      · exact one.le (by omega)
theorem Yr {n:Nat} {far:Int} {f0:I3} {t:I4} (hn:12≤n) (S:Sad f0) (r:Sq (meas f0) far) (I:QJ n far f0 t) (nl:¬ Level (mov f0 t) far) :
    QJ n far f0 (Ao t (Cy (mov f0 t) (if far > ab (mov f0 t).2.2 then far else ab (mov f0 t).2.2))) ∧
    eM far (mov f0 (Ao t (Cy (mov f0 t) (if far > ab (mov f0 t).2.2 then far else ab (mov f0 t).2.2)))) < eM far (mov f0 t) ∧
    B4 (n+3) (Cy (mov f0 t) (if far > ab (mov f0 t).2.2 then far else ab (mov f0 t).2.2)):=by
  have hb4:=I.b4
  obtain ⟨hd,hb,hI⟩:=I
  have Sf:=S.mov hd
  have hm:=Bu (f:=f0) hd
  have rf:Sq (meas (mov f0 t)) far:=by rw [hm];exact r
  have f63:=Mx rf Sf.most
  have far0:=r.1
  simp only [QJ,←Bg]
  rw [Cj,hd,CZ]
  generalize hf:mov f0 t=f at *
  have hc:=Ij Sf
  have c1:1≤ab f.2.2:=by rcases Ay f.2.2 with ⟨_,e1⟩ | ⟨_,e1⟩ <;> omega
  by_cases h1:far < ab f.2.2
  ·
    rw [if_pos h1] at hI
    obtain ⟨β,x,hβ,hx,hlx,hsum⟩:=hI
    rw [if_neg (show ¬ far > ab f.2.2 by omega)]
    have ⟨d1,d2⟩:=Lw (top:=ab f.2.2) hc
    have hk:=Hv (top:=ab f.2.2) hc
    obtain ⟨e,he⟩:=NT (top:=ab f.2.2) hc
    have hme:meas (f.2.2,dB f (ab f.2.2),e)=meas f:=by rw [←he,Bu CZ]
    have hdc:ab (dB f (ab f.2.2))≤ab f.2.2:=by rcases Ay (dB f (ab f.2.2)) with ⟨_,e1⟩ | ⟨_,e1⟩ <;> omega
    have h4:=AbH rf Sf.pos hme h1 (by omega) d2
    have kbt:=Uq hc hx hlx hdc hk
    have k1:1≤x+1 - bl f.2.2:=by omega
    have hbeh:=O1 kbt k1
    have hxn:bl f.2.2≤n:=W9 hb.2.2
    have hS':=Sf.mov (t:=Cy f (ab f.2.2)) CZ
    rw [he] at hS'
    have he0:e≠0:=Ij hS'
    have hfour:=(YC h4 hc).resolve_right he0
    have hβ':=B4.then hβ hbeh
    rw [he]
    refine ⟨⟨rfl,⟨hb.2.2,Xk hb.2.2 hdc,Xk hb.2.2 (show ab e≤ab f.2.2 by have:=BW e;omega)⟩,?_⟩,?_,?_⟩
    · show if far < ab e then _ else _
      split
      · refine ⟨_,bl f.2.2,hβ',?_,?_,?_⟩
        · exact Xk Xv hdc
        · show bl e≤bl f.2.2;omega
        · show _+bl f.2.2+bl e≤_;omega
      · split
        · exact hβ'.le (by omega)
        · split
          · exact hβ'.le (by omega)
          · exact hβ'.le (by omega)
    · unfold eM
      rw [if_pos h1]
      show (if far < ab e then (ab e).toNat+3 else _) < _
      split
      · have:=BW e;omega
      · split
        · omega
        · split <;> omega
    ·
      have:Bt (n+1 - bl f.2.2) (kB f (ab f.2.2)):=Uq hc hb.2.1 hxn hdc hk
      exact (O1 this (by omega)).le (by omega)
  · rw [if_neg h1,if_neg nl] at hI
    have etop:(if far > ab f.2.2 then far else ab f.2.2)=far:=by split <;> omega
    rw [etop]
    have ⟨d1,d2⟩:=Lw (top:=far) hc
    have hk:=Hv (top:=far) hc
    obtain ⟨e,he⟩:=NT (top:=far) hc
    have hme:meas (f.2.2,dB f far,e)=meas f:=by rw [←he,Bu CZ]
    have hdf:ab (dB f far)≤far:=by rcases Ay (dB f far) with ⟨_,e1⟩ | ⟨_,e1⟩ <;> omega
    have hel:=V6 rf Sf.most Sf.pos hme hc hdf
    have kb:Bt (n+2) (kB f far):=by
      have e1:2*(ab f.2.2*ab (kB f far))=ab (f.2.1+dB f far):=by
        rw [←hk,Qi]
        have:2*f.2.2*kB f far=2*(f.2.2*kB f far):=by grind
        rw [this]
        rcases Ay (f.2.2*kB f far) with ⟨h1,e1⟩ | ⟨h1,e1⟩
        · rw [e1,ab,if_neg (by omega)]
        · rw [e1,ab,if_pos (by omega)];omega
      have e2:=Int.mul_le_mul_of_nonneg_right c1 (BW (kB f far))
      have e3:Bt (n+1) (f.2.1+dB f far):=by
        have:=(hb.2.1).add (show Bt 7 (dB f far) from Rn (k:=63) (by omega) (by decide))
        exact this.le (by omega)
      refine Bt.le (n:=n+1) (Xk e3 ?_) (by omega)
      have:=BW (kB f far)
      omega
    have hbeh:=O1 kb (by omega)
    rw [he]
    have hB:B3 n (f.2.2,dB f far,e):=⟨hb.2.2,Bt.le (n:=7) (Rn (k:=63) (show ab (dB f far)≤63 by omega) (by decide)) (by omega),Bt.le (n:=12) (Rn (x:=e) hel (by decide)) (by omega)⟩
    by_cases h2:far < 2*ab f.2.2
    · rw [if_pos h2] at hI
      have hβ':=B4.then hI hbeh
      have hh:=AaG rf Sf.no hme (by omega) h2 (by omega) d2
      have h3:¬ far < ab e:=by have:=BW e;omega
      refine ⟨⟨rfl,hB,?_⟩,?_,hbeh.le (by omega)⟩
      · show if far < ab e then _ else _
        rw [if_neg h3]
        split
        · exact hβ'.le (by omega)
        · rw [if_neg (show ¬ far < 2*ab (f.2.2,dB f far,e).2.2 by show ¬ far < 2*ab e;omega)]
          exact hβ'.le (by omega)
      · unfold eM
        rw [if_neg h1,if_neg nl,if_pos h2]
        show (if far < ab e then _ else _) < 2
        rw [if_neg h3]
        split
        · omega
        · rw [if_neg (show ¬ far < 2*ab (f.2.2,dB f far,e).2.2 by show ¬ far < 2*ab e;omega)]
          omega
    · rw [if_neg h2] at hI
      have hβ':=B4.then hI hbeh
      have hL:Level (f.2.2,dB f far,e) far:=XH (by omega) d1 d2
      have h3:¬ far < ab e:=by
        have:=(Ir (f:=(f.2.2,dB f far,e)) (by rw [hme];exact rf) (by rw [hme];exact Sf.no) hL).2
        simp only at this
        omega
      refine ⟨⟨rfl,hB,?_⟩,?_,hbeh.le (by omega)⟩
      · show if far < ab e then _ else _
        rw [if_neg h3,if_pos hL]
        exact hβ'.le (by omega)
      · unfold eM
        rw [if_neg h1,if_neg nl,if_neg h2]
        show (if far < ab e then _ else _) < 1
        rw [if_neg h3,if_pos hL]
        omega
end My
namespace My
open PySem L2
noncomputable def Riv (f:I3):Prop:=(0 < f.1∧f.2.2 < 0)∧¬ Ia (meas f)
noncomputable abbrev tR:I4:=(1,1,0,1)
noncomputable abbrev tL:I4:=(1,0,1,1)
noncomputable def sm (f:I3):Int:=f.1+f.2.1+f.2.2
theorem ZR {a b c:Int}:mov (a,b,c) tR=(a,b+2*a,a+b+c):=by
  simp only [mov,val,mid,Prod.mk.injEq]
  refine ⟨?_,?_,?_⟩ <;> grind
theorem Aas {a b c:Int}:mov (a,b,c) tL=(a+b+c,b+2*c,c):=by
  simp only [mov,val,mid,Prod.mk.injEq]
  refine ⟨?_,?_,?_⟩ <;> grind
theorem Aek {f:I3} (n:¬ Ia (meas f)):sm f≠0:=fun h=>n ⟨f.1 - f.2.2,by
  obtain ⟨a,b,c⟩:=f
  simp only [sm,meas] at *
  have:b=-(a+c):=by omega
  subst this
  grind⟩
noncomputable def stT (f:I3):I4:=if sm f < 0 then tR else tL
noncomputable def nx (f:I3):I3:=mov f (stT f)
theorem Af1 {f:I3}:det (stT f)=1:=by unfold stT;split <;> rfl
theorem Riv.next {f:I3} (h:Riv f):Riv (nx f):=by
  have hm:=Bu (f:=f) (Af1 (f:=f))
  refine ⟨?_,by unfold nx;rw [hm];exact h.2⟩
  have hs:=Aek h.2
  obtain ⟨a,b,c⟩:=f
  obtain ⟨⟨h1,h2⟩,_⟩:=h
  by_cases h:sm (a,b,c) < 0
  · have e:nx (a,b,c)=(a,b+2*a,a+b+c):=by unfold nx;rw [show stT (a,b,c)=tR from if_pos h];exact ZR
    rw [e];exact ⟨h1,h⟩
  · have e:nx (a,b,c)=(a+b+c,b+2*c,c):=by unfold nx;rw [show stT (a,b,c)=tL from if_neg h];exact Aas
    rw [e]
    refine ⟨?_,h2⟩
    simp only [sm] at h hs ⊢
    omega
structure NN (t:I4):Prop where
  p:1≤t.1
  q:0≤t.2.1
  r:0≤t.2.2.1
  s:1≤t.2.2.2
  d:det t=1
noncomputable def sz (t:I4):Nat:=(t.1+t.2.1+t.2.2.1+t.2.2.2).toNat
theorem NN.split {t:I4} (h:NN t):t=(1,0,0,1)∨(∃ u,NN u∧t=Ao tR u∧sz u < sz t)∨(∃ u,NN u∧t=Ao tL u∧sz u < sz t):=by
  obtain ⟨p,q,r,s⟩:=t
  obtain ⟨hp,hq,hr,hs,hd⟩:=h
  simp only [det] at *
  by_cases c1:r≤p∧s≤q
  · refine .inr (.inl ⟨(p - r,q - s,r,s),⟨?_,by simp only;omega,hr,hs,?_⟩,?_,?_⟩)
    · show 1≤p - r
      have e:(p - r)*s - (q - s)*r=1:=by grind
      have z:=Int.mul_nonneg (show 0≤q - s by omega) hr
      rcases Int.lt_or_le (p - r) 1 with w | w
      · have:(p - r)*s≤0*s:=Int.mul_le_mul_of_nonneg_right (by omega) (by omega)
        omega
      · exact w
    · show (p - r)*s - (q - s)*r=1
      grind
    · simp only [Ao,Prod.mk.injEq]
      refine ⟨?_,?_,?_,?_⟩ <;> omega
    · simp only [sz];omega
  · by_cases c2:p≤r∧q≤s
    · refine .inr (.inr ⟨(p,q,r - p,s - q),⟨hp,hq,by simp only;omega,?_,?_⟩,?_,?_⟩)
      · show 1≤s - q
        have e:p*(s - q) - q*(r - p)=1:=by grind
        have z:=Int.mul_nonneg hq (show 0≤r - p by omega)
        rcases Int.lt_or_le (s - q) 1 with w | w
        · have:p*(s - q)≤p*0:=Int.mul_le_mul_of_nonneg_left (by omega) (by omega)
          omega
        · exact w
      · show p*(s - q) - q*(r - p)=1
        grind
      · simp only [Ao,Prod.mk.injEq]
        refine ⟨?_,?_,?_,?_⟩ <;> omega
      · simp only [sz];omega
    · rcases Int.lt_or_le r p with w | w
      ·
        have w2:q < s:=by omega
        have z:=Int.mul_le_mul (show r+1≤p by omega) (show q+1≤s by omega) (by omega) (by omega)
        have e:(r+1)*(q+1)=r*q+r+q+1:=by grind
        have e2:r*q=q*r:=Int.mul_comm r q
        have r0:r=0:=by omega
        have q0:q=0:=by omega
        subst r0 q0
        left
        have hps:p*s=1:=by omega
        have p1:p=1:=by
          rcases Int.lt_or_le p 2 with v | v
          · omega
          · have:=Int.mul_le_mul v hs (by decide) (by omega)
            omega
        subst p1
        have:s=1:=by omega
        rw [this]
      ·
        have w2:s < q:=by omega
        have w3:p < r:=by
          rcases Int.lt_or_le p r with v | v
          · exact v
          · have:p=r:=by omega
            subst this
            exfalso
            have e:p*s - q*p=p*(s - q):=by grind
            have:=Int.mul_le_mul_of_nonneg_left (show s - q≤-1 by omega) (show 0≤p by omega)
            omega
        exfalso
        have z:=Int.mul_le_mul (show p≤r - 1 by omega) (show s≤q - 1 by omega) (by omega) (by omega)
        have e:(r - 1)*(q - 1)=q*r - r - q+1:=by grind
        omega
noncomputable def wd:Nat→I3→I4
  | 0,_=>(1,0,0,1)
  | n+1,f=>Ao (stT f) (wd n (nx f))
noncomputable def nxs:Nat→I3→I3
  | 0,f=>f
  | n+1,f=>nxs n (nx f)
theorem Ib {t:I4}:Ao (1,0,0,1) t=t:=by
  obtain ⟨p,q,r,s⟩:=t
  simp only [Ao,Prod.mk.injEq]
  refine ⟨?_,?_,?_,?_⟩ <;> omega
theorem G6 {t:I4}:Ao t (1,0,0,1)=t:=by
  obtain ⟨p,q,r,s⟩:=t
  simp only [Ao,Prod.mk.injEq]
  refine ⟨?_,?_,?_,?_⟩ <;> omega
theorem then_assoc {t u v:I4}:Ao (Ao t u) v=Ao t (Ao u v):=by
  obtain ⟨a,b,c,d⟩:=t;obtain ⟨e,f,g,h⟩:=u;obtain ⟨i,j,k,l⟩:=v
  simp only [Ao,Prod.mk.injEq]
  refine ⟨?_,?_,?_,?_⟩ <;> grind
theorem KC:∀ (n:Nat) (f:I3),mov f (wd n f)=nxs n f
  | 0,f=>Bp
  | n+1,f=>by rw [wd,←Bg];exact KC n (nx f)
theorem XF {a b c x y:Int} (ha:0 < a) (hb:0 < b) (hc:0 < c) (hx:0≤x) (hy:0≤y):0≤val (a,b,c) (x,y):=by
  have e:val (a,b,c) (x,y)=a*(x*x)+b*(x*y)+c*(y*y):=by simp only [val];grind
  have h1:=Int.mul_nonneg (show 0≤a by omega) (Int.mul_nonneg hx hx)
  have h2:=Int.mul_nonneg (show 0≤b by omega) (Int.mul_nonneg hx hy)
  have h3:=Int.mul_nonneg (show 0≤c by omega) (Int.mul_nonneg hy hy)
  omega
theorem neg_val {a b c x y:Int} (ha:a < 0) (hb:b < 0) (hc:c < 0) (hx:0≤x) (hy:0≤y):val (a,b,c) (x,y)≤0:=by
  have:=XF (a:=-a) (b:=-b) (c:=-c) (by omega) (by omega) (by omega) hx hy
  have e:val (-a,-b,-c) (x,y)=-val (a,b,c) (x,y):=by simp only [val];grind
  omega
theorem along:∀ (m:Nat) (f:I3) (t:I4),sz t≤m→Riv f→NN t→Riv (mov f t)→∃ n,t=wd n f:=by
  intro m
  induction m with
  | zero =>
    intro f t hs _ hN _
    exfalso
    have:=hN.p;have:=hN.q;have:=hN.r;have:=hN.s
    unfold sz at hs
    omega
  | succ m ih =>
    intro f t hs hf hN hg
    rcases hN.split with e | ⟨u,hu,e,hl⟩ | ⟨u,hu,e,hl⟩
    · exact ⟨0,e⟩
    · have hsm:sm f < 0:=by
        have hne:=Aek hf.2
        rcases Int.lt_or_le (sm f) 0 with z | z
        · exact z
        · exfalso
          rw [e,←Bg] at hg
          obtain ⟨a,b,c⟩:=f
          obtain ⟨p,q,r,s⟩:=u
          rw [ZR] at hg
          have h1:(mov (a,b+2*a,a+b+c) (p,q,r,s)).2.2 < 0:=hg.1.2
          have h2:0 < a:=hf.1.1
          have h3:c < 0:=hf.1.2
          simp only [sm] at hne z
          have h4:0≤val (a,b+2*a,a+b+c) (q,s):=XF h2 (by omega) (by omega) hu.q (by have:=hu.s;simp only at this;omega)
          have h5:(mov (a,b+2*a,a+b+c) (p,q,r,s)).2.2=val (a,b+2*a,a+b+c) (q,s):=rfl
          omega
      have hst:stT f=tR:=by unfold stT;rw [if_pos hsm]
      have hnx:nx f=mov f tR:=by unfold nx;rw [hst]
      have hr:=hf.next
      obtain ⟨n,en⟩:=ih (nx f) u (by omega) hr hu (by rw [hnx,Bg,←e];exact hg)
      exact ⟨n+1,by rw [wd,hst,←en];exact e⟩
    · have hsm:¬ sm f < 0:=by
        intro z
        rw [e,←Bg] at hg
        obtain ⟨a,b,c⟩:=f
        obtain ⟨p,q,r,s⟩:=u
        rw [Aas] at hg
        have h1:0 < (mov (a+b+c,b+2*c,c) (p,q,r,s)).1:=hg.1.1
        have h2:0 < a:=hf.1.1
        have h3:c < 0:=hf.1.2
        simp only [sm] at z
        have h4:val (a+b+c,b+2*c,c) (p,r)≤0:=neg_val (by omega) (by omega) h3 (by have:=hu.p;simp only at this;omega) hu.r
        have h5:(mov (a+b+c,b+2*c,c) (p,q,r,s)).1=val (a+b+c,b+2*c,c) (p,r):=rfl
        omega
      have hst:stT f=tL:=by unfold stT;rw [if_neg hsm]
      have hnx:nx f=mov f tL:=by unfold nx;rw [hst]
      have hr:=hf.next
      obtain ⟨n,en⟩:=ih (nx f) u (by omega) hr hu (by rw [hnx,Bg,←e];exact hg)
      exact ⟨n+1,by rw [wd,hst,←en];exact e⟩
noncomputable def Hi (t:I4):I4:=(-t.1,-t.2.1,-t.2.2.1,-t.2.2.2)
theorem NP {f:I3} {t:I4}:mov f (Hi t)=mov f t:=by
  obtain ⟨a,b,c⟩:=f;obtain ⟨p,q,r,s⟩:=t
  simp only [mov,val,mid,Hi,Prod.mk.injEq]
  refine ⟨?_,?_,?_⟩ <;> grind
theorem neg_neg {t:I4}:Hi (Hi t)=t:=by
  obtain ⟨p,q,r,s⟩:=t
  simp only [Hi,Prod.mk.injEq]
  refine ⟨?_,?_,?_,?_⟩ <;> omega
theorem Acf {t:I4}:det (Hi t)=det t:=by
  obtain ⟨p,q,r,s⟩:=t
  simp only [det,Hi];grind
theorem Vp {t:I4}:Ar (Hi t)=Hi (Ar t):=by
  obtain ⟨p,q,r,s⟩:=t
  simp only [Ar,Hi]
theorem signs {f:I3} {t:I4} (hf:Riv f) (hd:det t=1) (hg:Riv (mov f t)) (hp:0≤t.1):NN t∨NN (Ar t):=by
  obtain ⟨a,b,c⟩:=f
  obtain ⟨p,q,r,s⟩:=t
  have ha:0 < a:=hf.1.1
  have hc:c < 0:=hf.1.2
  have hu:0 < val (a,b,c) (p,r):=hg.1.1
  have hv:val (a,b,c) (q,s) < 0:=hg.1.2
  have hp:0≤p:=hp
  have p0:p≠0:=fun e=>by
    subst e
    rw [Vv] at hu
    have:=Int.mul_nonneg (show 0≤-c by omega) (sq_nonneg r)
    have e:-c*(r*r)=-(c*(r*r)):=by grind
    omega
  have s0:s≠0:=fun e=>by
    subst e
    rw [KD] at hv
    have:=Int.mul_nonneg (show 0≤a by omega) (sq_nonneg q)
    omega
  have hd':p*s - q*r=1:=hd
  have key:val (a,b,c) (p,r)*(q*s) - val (a,b,c) (q,s)*(p*r)=(p*s - q*r)*(a*(p*q) - c*(r*s)):=by simp only [val];grind
  have hs:0 < s:=by
    rcases Int.lt_or_le 0 s with z | z
    · exact z
    · exfalso
      have z:s≤-1:=by omega
      have h1:p*s≤1 * -1:=by
        have:=Int.mul_le_mul_of_nonneg_left z (show 0≤p by omega)
        omega
      have hqr:q*r≤-2:=by omega
      rw [hd',Int.one_mul] at key
      rcases Int.lt_or_le q 0 with hq | hq
      · have hr:0 < r:=by
          rcases Int.lt_or_le 0 r with w | w
          · exact w
          · have:=Int.mul_nonneg_of_nonpos_of_nonpos (show q≤0 by omega) w
            omega
        have k1:=Int.mul_pos hu (Int.mul_pos_of_neg_of_neg hq (show s < 0 by omega))
        have k2:=Int.mul_neg_of_neg_of_pos hv (Int.mul_pos (show 0 < p by omega) hr)
        have k3:=Int.mul_neg_of_pos_of_neg ha (Int.mul_neg_of_pos_of_neg (show 0 < p by omega) hq)
        have k4:=Int.mul_pos_of_neg_of_neg hc (Int.mul_neg_of_pos_of_neg hr (show s < 0 by omega))
        omega
      · have hq':0 < q:=by
          rcases Int.lt_or_le 0 q with w | w
          · exact w
          · have:q=0:=by omega
            subst this
            omega
        have hr:r < 0:=by
          rcases Int.lt_or_le r 0 with w | w
          · exact w
          · have:=Int.mul_nonneg hq w
            omega
        have k1:=Int.mul_neg_of_pos_of_neg hu (Int.mul_neg_of_pos_of_neg hq' (show s < 0 by omega))
        have k2:=Int.mul_pos_of_neg_of_neg hv (Int.mul_neg_of_pos_of_neg (show 0 < p by omega) hr)
        have k3:=Int.mul_pos ha (Int.mul_pos (show 0 < p by omega) hq')
        have k4:=Int.mul_neg_of_neg_of_pos hc (Int.mul_pos_of_neg_of_neg hr (show s < 0 by omega))
        omega
  have hps:=Int.mul_le_mul (show 1≤p by omega) (show 1≤s by omega) (by decide) (by omega)
  by_cases hq:0≤q∧0≤r
  · exact .inl ⟨by simp only;omega,hq.1,hq.2,by simp only;omega,hd⟩
  · right
    have hqr:q≤0∧r≤0:=by
      rcases Int.lt_trichotomy q 0 with w | w | w
      · refine ⟨by omega,?_⟩
        rcases Int.lt_or_le 0 r with v | v
        · have:=Int.mul_neg_of_neg_of_pos w v;omega
        · exact v
      · omega
      · exfalso
        have:r < 0:=by omega
        have:=Int.mul_neg_of_pos_of_neg w this
        omega
    exact ⟨by simp only [Ar];omega,by simp only [Ar];omega,by simp only [Ar];omega,by simp only [Ar];omega,CV.trans hd⟩
theorem Ah6 {f:I3} {t:I4} (hf:Riv f) (hd:det t=1) (hg:Riv (mov f t)) :
    (∃ n,t=wd n f∨t=Hi (wd n f))∨(∃ n,Ar t=wd n (mov f t)∨Ar t=Hi (wd n (mov f t))):=by
  have core:∀ t:I4,det t=1→Riv (mov f t)→0≤t.1→(∃ n,t=wd n f)∨(∃ n,Ar t=wd n (mov f t)):=fun t hd hg hp=>by
    rcases signs hf hd hg hp with h | h
    · exact .inl (along _ f t (Nat.le_refl _) hf h hg)
    · exact .inr (along _ (mov f t) (Ar t) (Nat.le_refl _) hg h (by rw [Bq hd];exact hf))
  rcases Int.le_total 0 t.1 with hp | hp
  · rcases core t hd hg hp with ⟨n,h⟩ | ⟨n,h⟩
    · exact .inl ⟨n,.inl h⟩
    · exact .inr ⟨n,.inl h⟩
  · rcases core (Hi t) (Acf.trans hd) (by rw [NP];exact hg) (by show 0≤-t.1;omega) with ⟨n,h⟩ | ⟨n,h⟩
    · exact .inl ⟨n,.inr (by rw [←h,neg_neg])⟩
    · rw [NP,Vp] at h
      exact .inr ⟨n,.inr (by rw [←h,neg_neg])⟩
end My
namespace My
open PySem L2
structure Lv (far:Int) (f:I3):Prop where
  S:Sad f
  r:Sq (meas f) far
  L:Level f far
noncomputable abbrev aft (far:Int) (f:I3):I3:=mov f (Cy f far)
theorem Lv.next {far:Int} {f:I3} (h:Lv far f):Lv far (aft far f) :=
  ⟨h.S.mov CZ,by rw [Bu CZ];exact h.r,VJ h.S h.r h.L⟩
theorem Lv.ac {far:Int} {f:I3} (h:Lv far f):f.1*f.2.2 < 0:=by
  have hf:=VF h.r h.S.no
  obtain ⟨⟨l1,l2⟩,_,_⟩:=h.L
  obtain ⟨a,b,c⟩:=f
  have l1:0 < b:=l1
  have l2:b≤far:=l2
  have hb:b*b≤far*far:=Int.mul_le_mul l2 l2 (by omega) (by omega)
  have e:meas (a,b,c)=b*b - 4*(a*c):=by simp only [meas];grind
  show a*c < 0
  omega
theorem Lv.neg {far:Int} {f:I3} (h:Lv far f) (ha:0 < f.1):f.2.2 < 0:=by
  rcases Int.lt_or_le f.2.2 0 with z | z
  · exact z
  · have:=h.ac
    have:=Int.mul_nonneg (show 0≤f.1 by omega) z
    omega
theorem Lv.pos {far:Int} {f:I3} (h:Lv far f) (ha:f.1 < 0):0 < f.2.2:=by
  rcases Int.lt_or_le 0 f.2.2 with z | z
  · exact z
  · have:=h.ac
    have:=Int.mul_nonneg_of_nonpos_of_nonpos (show f.1≤0 by omega) z
    omega
theorem GJ {far:Int} {f:I3} (h:Lv far f):(aft far f).1=f.2.2∧(aft far f).2.1=dB f far∧(aft far f).2.2=f.1 - f.2.1*kB f far+f.2.2*(kB f far*kB f far):=by
  obtain ⟨e,he⟩:=NT (top:=far) (Ij h.S)
  refine ⟨by show (mov f (Cy f far)).1=_;rw [he],by show (mov f (Cy f far)).2.1=_;rw [he],?_⟩
  show val f (-1,kB f far)=_
  simp only [val];grind
theorem Lv.riv {far:Int} {f:I3} (h:Lv far f) (ha:0 < f.1):Riv f:=⟨⟨ha,h.neg ha⟩,h.S.no⟩
theorem X3 {far:Int} {f g:I3} (hf:Lv far f) (hg:Lv far g) (hm:meas f=meas g) (h:aft far f=aft far g):f=g:=by
  have ⟨f1,f2,_⟩:=GJ hf
  have ⟨g1,g2,_⟩:=GJ hg
  have hc:f.2.2=g.2.2:=by rw [←f1,h,g1]
  have hd:dB f far=dB g far:=by rw [←f2,h,g2]
  have kf:=Hv (top:=far) (Ij hf.S)
  have kg:=Hv (top:=far) (Ij hg.S)
  have cf:=(Ir hf.r hf.S.no hf.L).1
  have cg:=(Ir hg.r hg.S.no hg.L).1
  have lf:=hf.L.1.2
  have lg:=hg.L.1.2
  have c0:=Ij hf.S
  obtain ⟨a,b,c⟩:=f
  obtain ⟨a',b',c'⟩:=g
  simp only at hc hd kf kg cf cg lf lg c0
  subst hc
  rw [←hd] at kg
  have hb:b=b':=by
    have e:b - b'=2*(c*(kB (a,b,c) far - kB (a',b',c) far)):=by
      have:2*(c*(kB (a,b,c) far - kB (a',b',c) far))=2*c*kB (a,b,c) far - 2*c*kB (a',b',c) far:=by grind
      omega
    generalize kB (a,b,c) far - kB (a',b',c) far=k at *
    have hx:ab (c*k)=ab c*ab k:=(Qi c k).symm
    have hk:ab k=0:=by
      rcases Int.lt_or_le (ab k) 1 with z | z
      · have:=BW k;omega
      · exfalso
        have:=Int.mul_le_mul_of_nonneg_left z (BW c)
        rcases Ay (c*k) with ⟨_,e1⟩ | ⟨_,e1⟩ <;> omega
    rw [hk] at hx
    have:c*k=0:=by rcases Ay (c*k) with ⟨_,e1⟩ | ⟨_,e1⟩ <;> omega
    omega
  subst hb
  have e1:4*c*a=4*c*a':=by
    simp only [meas] at hm
    have x1:4*a*c=4*c*a:=by grind
    have x2:4*a'*c=4*c*a':=by grind
    omega
  have:a=a':=Int.eq_of_mul_eq_mul_left (show 4*c≠0 by omega) e1
  rw [this]
theorem Aif:∀ (k:Nat) (a b c:Int),(∀ j:Nat,1≤j→j≤k→0 < a+b*j+c*(j*j))→wd k (a,b,c)=(1,0,(k:Int),1)
  | 0,_,_,_,_=>rfl
  | k+1,a,b,c,h=>by
    have h1:=h 1 (by omega) (by omega)
    have hs:¬ sm (a,b,c) < 0:=by simp only [sm];simp at h1;omega
    have e:nx (a,b,c)=(a+b+c,b+2*c,c):=by unfold nx;rw [show stT (a,b,c)=tL from if_neg hs];exact Aas
    rw [wd,e,show stT (a,b,c)=tL from if_neg hs,Aif k _ _ _ fun j j1 jk=>?_]
    · simp only [Ao,Prod.mk.injEq]
      refine ⟨by omega,by omega,by push_cast;omega,by omega⟩
    · have:=h (j+1) (by omega) (by omega)
      have e2:a+b+c+(b+2*c)*(j:Int)+c*((j:Int)*j)=a+b*((j+1:Nat):Int)+c*(((j+1:Nat):Int)*((j+1:Nat):Int)):=by push_cast;grind
      rw [e2];exact this
theorem Aie:∀ (k:Nat) (a b c:Int),(∀ j:Nat,1≤j→j≤k→a*(j*j)+b*j+c < 0)→wd k (a,b,c)=(1,(k:Int),0,1)
  | 0,_,_,_,_=>rfl
  | k+1,a,b,c,h=>by
    have h1:=h 1 (by omega) (by omega)
    have hs:sm (a,b,c) < 0:=by simp only [sm];simp at h1;omega
    have e:nx (a,b,c)=(a,b+2*a,a+b+c):=by unfold nx;rw [show stT (a,b,c)=tR from if_pos hs];exact ZR
    rw [wd,e,show stT (a,b,c)=tR from if_pos hs,Aie k _ _ _ fun j j1 jk=>?_]
    · simp only [Ao,Prod.mk.injEq]
      refine ⟨by omega,by push_cast;omega,by omega,by omega⟩
    · have:=h (j+1) (by omega) (by omega)
      have e2:a*((j:Int)*j)+(b+2*a)*(j:Int)+(a+b+c)=a*(((j+1:Nat):Int)*((j+1:Nat):Int))+b*((j+1:Nat):Int)+c:=by push_cast;grind
      rw [e2];exact this
theorem Wy:∀ (m n:Nat) (f:I3),wd (m+n) f=Ao (wd m f) (wd n (nxs m f))
  | 0,n,f=>by rw [Nat.zero_add];exact Ib.symm
  | m+1,n,f=>by
    rw [show m+1+n=(m+n)+1 by omega,wd,Wy m n (nx f),wd,then_assoc];rfl
theorem Tw:∀ (m n:Nat) (f:I3),nxs (m+n) f=nxs n (nxs m f)
  | 0,n,f=>by rw [Nat.zero_add];rfl
  | m+1,n,f=>by rw [show m+1+n=(m+n)+1 by omega];exact Tw m n (nx f)
theorem Ah5 {a b c k j:Int} (hc:c≤0) (h0:0 < a) (hk:0 < a+b*k+c*(k*k)) (j0:0≤j) (jk:j≤k) (k0:0 < k):0 < a+b*j+c*(j*j):=by
  have e:k*(a+b*j+c*(j*j))=(k - j)*a+j*(a+b*k+c*(k*k))+(-c)*(j*(k - j)*k):=by grind
  have h1:=Int.mul_nonneg (show 0≤k - j by omega) (show 0≤a by omega)
  have h2:=Int.mul_nonneg j0 (show 0≤a+b*k+c*(k*k) by omega)
  have h3:=Int.mul_nonneg (show 0≤-c by omega) (Int.mul_nonneg (Int.mul_nonneg j0 (show 0≤k - j by omega)) (show 0≤k by omega))
  have h4:0 < (k - j)*a+j*(a+b*k+c*(k*k)):=by
    by_cases z:j=k
    · subst z
      have:=Int.mul_pos k0 hk
      omega
    · have:=Int.mul_pos (show 0 < k - j by omega) h0
      omega
  rcases Int.lt_or_le 0 (a+b*j+c*(j*j)) with z | z
  · exact z
  · have:=Int.mul_le_mul_of_nonneg_left z (show 0≤k by omega)
    omega
theorem Lv.k_sign {far:Int} {f:I3} (h:Lv far f):(0 < f.1→kB f far < 0)∧(f.1 < 0→0 < kB f far):=by
  have hk:=Hv (top:=far) (Ij h.S)
  have hd:0 < dB f far:=by
    have:=h.next.L.1.1
    rw [(GJ h).2.1] at this
    exact this
  have hb:=h.L.1.1
  constructor
  · intro ha
    have hc:=h.neg ha
    rcases Int.lt_or_le (kB f far) 0 with z | z
    · exact z
    · have:=Int.mul_nonneg (show 0≤-(2*f.2.2) by omega) z
      have e:-(2*f.2.2)*kB f far=-(2*f.2.2*kB f far):=by grind
      omega
  · intro ha
    have hc:=h.pos ha
    rcases Int.lt_or_le 0 (kB f far) with z | z
    · exact z
    · have:=Int.mul_nonneg (show 0≤2*f.2.2 by omega) (show 0≤-kB f far by omega)
      have e:2*f.2.2 * -kB f far=-(2*f.2.2*kB f far):=by grind
      omega
theorem Yn {far:Int} {f:I3} (h:Lv far f) (ha:0 < f.1) :
    ∃ N:Nat,2≤N∧nxs N f=aft far (aft far f)∧wd N f=Hi (Ao (Cy f far) (Cy (aft far f) far))∧∀ j,0 < j→j < N→¬ Lv far (nxs j f):=by
  have h':=h.next
  have h'':=h'.next
  have hc:=h.neg ha
  have ⟨g1,g2,g3⟩:=GJ h
  have a':(aft far f).1 < 0:=by rw [g1];exact hc
  have he:=h'.pos a'
  have ⟨q1,q2,q3⟩:=GJ h'
  have a'':0 < (aft far (aft far f)).1:=by rw [q1];exact he
  have he'':=h''.neg a''
  have kn:=h.k_sign.1 ha
  have kp:=h'.k_sign.2 a'
  have hk1:=Hv (top:=far) (Ij h.S)
  have hk2:=Hv (top:=far) (Ij h'.S)
  have lb:=h.L.1.2
  have ld':=h''.L.1.2
  rw [q2] at ld'
  rw [g2] at hk2
  rw [q3,g1,g2] at he''
  rw [g3] at he
  have hbeh1:Cy f far=(0,-1,1,kB f far):=rfl
  have hbeh2:Cy (aft far f) far=(0,-1,1,kB (aft far f) far):=rfl
  rw [hbeh1,hbeh2]
  have e22:(aft far f).2.2=f.1 - f.2.1*kB f far+f.2.2*(kB f far*kB f far):=g3
  generalize hF:aft far (aft far f)=F at *
  generalize hd':dB (aft far f) far=d' at *
  generalize hk2':kB (aft far f) far=k2 at *
  have hform:nxs 0 f=f:=rfl
  generalize hg:aft far f=g at *
  generalize hd:dB f far=d at *
  generalize hk1':kB f far=k1 at *
  obtain ⟨a,b,c⟩:=f
  have ha:0 < a:=ha
  have hc:c < 0:=hc
  have lb:b≤far:=lb
  have he:0 < a - b*k1+c*(k1*k1):=he
  have hk1:2*c*k1=b+d:=hk1
  have he'':c - d*k2+g.2.2*(k2*k2) < 0:=he''
  have e22:g.2.2=a - b*k1+c*(k1*k1):=e22
  rw [e22] at he'' hk2
  obtain ⟨n1,hn1⟩:∃ n:Nat,-k1=n:=⟨(-k1).toNat,by omega⟩
  obtain ⟨n2,hn2⟩:∃ n:Nat,k2=n:=⟨k2.toNat,by omega⟩
  have hk1n:k1=-(n1:Int):=by omega
  have hw1:∀ i:Nat,i≤n1→wd i (a,b,c)=(1,0,(i:Int),1):=fun i hi=>Aif i a b c fun j j1 ji=>by
    refine Ah5 (k:=n1) (by omega) ha ?_ (by omega) (by omega) (by omega)
    have:a+b*(n1:Int)+c*((n1:Int)*n1)=a - b*k1+c*(k1*k1):=by rw [hk1n];grind
    omega
  have hF1:nxs n1 (a,b,c)=(a - b*k1+c*(k1*k1),-d,c):=by
    rw [←KC,hw1 n1 (Nat.le_refl _)]
    have e1:-d=b+2*c*n1:=by
      have:2*c*(n1:Int)=-(2*c*k1):=by rw [hk1n];grind
      omega
    rw [e1,hk1n]
    simp only [mov,val,mid,Prod.mk.injEq]
    refine ⟨?_,?_,?_⟩ <;> grind
  generalize hee:a - b*k1+c*(k1*k1)=e at *
  have hw2:∀ i:Nat,i≤n2→wd i (e,-d,c)=(1,(i:Int),0,1):=fun i hi=>Aie i e (-d) c fun j j1 ji=>by
    have:=Ah5 (a:=-c) (b:=d) (c:=-e) (k:=n2) (j:=j) (by omega) (by omega) (by
      have:-c+d*(n2:Int) + -e*((n2:Int)*n2)=-(c - d*k2+e*(k2*k2)):=by rw [hn2];grind
      omega) (by omega) (by omega) (by omega)
    have e1:e*((j:Int)*j) + -d*j+c=-(-c+d*(j:Int) + -e*((j:Int)*j)):=by grind
    omega
  have hF2:∀ i:Nat,i≤n2→nxs (n1+i) (a,b,c)=(e,-d+2*e*i,e*((i:Int)*i) - d*i+c):=fun i hi=>by
    rw [Tw,hF1,←KC,hw2 i hi]
    simp only [mov,val,mid,Prod.mk.injEq]
    refine ⟨?_,?_,?_⟩ <;> grind
  have hwd:wd (n1+n2) (a,b,c)=Hi (Ao (0,-1,1,k1) (0,-1,1,k2)):=by
    rw [Wy,hF1,hw1 n1 (Nat.le_refl _),hw2 n2 (Nat.le_refl _),hk1n,hn2]
    simp only [Ao,Hi,Prod.mk.injEq]
    refine ⟨?_,?_,?_,?_⟩ <;> grind
  refine ⟨n1+n2,by omega,?_,hwd,?_⟩
  · rw [←KC,hwd,NP,←Bg,←hF,←hg]
    show mov (mov (a,b,c) (0,-1,1,k1)) (0,-1,1,k2)=_
    rw [←hk1',←hk2',←hg];rfl
  · intro j j0 jn hL
    rcases Nat.lt_or_ge n1 j with z | z
    · obtain ⟨i,rfl⟩:∃ i,j=n1+i:=⟨j - n1,by omega⟩
      rw [hF2 i (by omega)] at hL
      have l1:=hL.L.2.1
      have l1:far - (-d+2*e*i) < 2*ab e:=l1
      rw [show ab e=e from if_neg (by omega)] at l1
      have hi:(i:Int)≤n2 - 1:=by omega
      have:=Int.mul_le_mul_of_nonneg_left hi (show 0≤2*e by omega)
      have e1:2*e*((n2:Int) - 1)=2*e*k2 - 2*e:=by rw [hn2];grind
      omega
    · have hj:nxs j (a,b,c)=(a+b*j+c*((j:Int)*j),b+2*c*j,c):=by
        rw [←KC,hw1 j z]
        simp only [mov,val,mid,Prod.mk.injEq]
        refine ⟨?_,?_,?_⟩ <;> grind
      rw [hj] at hL
      have l1:=(Ir hL.r hL.S.no hL.L).1
      have l1:far - (b+2*c*j) < 2*ab c:=l1
      rw [show ab c=-c from if_pos hc] at l1
      have:=Int.mul_le_mul_of_nonneg_left (show (1:Int)≤j by omega) (show 0≤-(2*c) by omega)
      have e1:-(2*c)*(j:Int)=-(2*c*j):=by grind
      omega
end My
namespace My
open PySem L2
noncomputable def Sg (t u:I4):Prop:=t=u∨t=Hi u
theorem U6 {t u:I4}:Ao (Hi t) u=Hi (Ao t u):=by
  obtain ⟨a,b,c,d⟩:=t;obtain ⟨e,f,g,h⟩:=u
  simp only [Ao,Hi,Prod.mk.injEq]
  refine ⟨?_,?_,?_,?_⟩ <;> grind
theorem Vc {t u:I4}:Ao t (Hi u)=Hi (Ao t u):=by
  obtain ⟨a,b,c,d⟩:=t;obtain ⟨e,f,g,h⟩:=u
  simp only [Ao,Hi,Prod.mk.injEq]
  refine ⟨?_,?_,?_,?_⟩ <;> grind
theorem FN {t:I4}:Ar (Ar t)=t:=by
  obtain ⟨a,b,c,d⟩:=t
  simp only [Ar,Prod.mk.injEq]
  refine ⟨trivial,?_,?_,trivial⟩ <;> omega
theorem O9 {t u:I4}:Ar (Ao t u)=Ao (Ar u) (Ar t):=by
  obtain ⟨a,b,c,d⟩:=t;obtain ⟨e,f,g,h⟩:=u
  simp only [Ao,Ar,Prod.mk.injEq]
  refine ⟨?_,?_,?_,?_⟩ <;> grind
theorem Sg.refl {t:I4}:Sg t t:=.inl rfl
theorem Sg.trans {t u v:I4} (h:Sg t u) (k:Sg u v):Sg t v:=by
  rcases h with rfl | rfl <;> rcases k with rfl | rfl
  · exact .inl rfl
  · exact .inr rfl
  · exact .inr rfl
  · exact .inl neg_neg
theorem Sg.then {t u t' u':I4} (h:Sg t t') (k:Sg u u'):Sg (Ao t u) (Ao t' u'):=by
  rcases h with rfl | rfl <;> rcases k with rfl | rfl
  · exact .inl rfl
  · exact .inr Vc
  · exact .inr U6
  · exact .inl (by rw [U6,Vc,neg_neg])
theorem Sg.back {t u:I4} (h:Sg t u):Sg (Ar t) (Ar u):=by
  rcases h with rfl | rfl
  · exact .inl rfl
  · exact .inr Vp
theorem Sg.mov {f:I3} {t u:I4} (h:Sg t u):mov f t=mov f u:=by
  rcases h with rfl | rfl
  · rfl
  · exact NP
noncomputable def rF (far:Int):Nat→I3→I3
  | 0,f=>f
  | n+1,f=>rF far n (aft far f)
noncomputable def rT (far:Int):Nat→I3→I4
  | 0,_=>(1,0,0,1)
  | n+1,f=>Ao (Cy f far) (rT far n (aft far f))
theorem Ey {far:Int}:∀ (n:Nat) (f:I3),mov f (rT far n f)=rF far n f
  | 0,_=>Bp
  | n+1,f=>by rw [rT,←Bg];exact Ey n (aft far f)
theorem Mj {far:Int}:∀ (n:Nat) (f:I3),det (rT far n f)=1
  | 0,_=>rfl
  | n+1,f=>by rw [rT,Cj,CZ,Mj n (aft far f)];rfl
theorem Cg {far:Int}:∀ (m n:Nat) (f:I3),rF far (m+n) f=rF far n (rF far m f)
  | 0,n,f=>by rw [Nat.zero_add];rfl
  | m+1,n,f=>by rw [show m+1+n=(m+n)+1 by omega];exact Cg m n (aft far f)
theorem Tr {far:Int}:∀ (m n:Nat) (f:I3),rT far (m+n) f=Ao (rT far m f) (rT far n (rF far m f))
  | 0,n,f=>by rw [Nat.zero_add];exact Ib.symm
  | m+1,n,f=>by rw [show m+1+n=(m+n)+1 by omega,rT,Tr m n (aft far f),rT,then_assoc];rfl
theorem XQ {far:Int} {n:Nat} {f:I3}:rF far (n+1) f=aft far (rF far n f):=by rw [Cg];rfl
theorem X5 {far:Int} {n:Nat} {f:I3}:rT far (n+1) f=Ao (rT far n f) (Cy (rF far n f) far):=by
  rw [Tr]
  show Ao _ (Ao _ (1,0,0,1))=_
  rw [G6]
theorem Lv.rF {far:Int}:∀ (n:Nat) {f:I3},Lv far f→Lv far (rF far n f)
  | 0,_,h=>h
  | n+1,_,h=>Lv.rF n h.next
theorem Io {far:Int} (n:Nat) (f:I3):meas (rF far n f)=meas f:=by rw [←Ey,Bu (Mj n f)]
theorem Xx {far:Int}:∀ (n:Nat) (f:I3),Lv far f→0 < f.1→Lv far (nxs n f)→∃ m,Sg (wd n f) (rT far m f):=by
  intro n
  induction n using Nat.strongRecOn with
  | ind n ih =>
    intro f hf ha hg
    by_cases h0:n=0
    · subst h0
      exact ⟨0,Sg.refl⟩
    · obtain ⟨N,hN,e1,e2,e3⟩:=Yn hf ha
      have hn:N≤n:=by
        rcases Nat.lt_or_ge n N with z | z
        · exact absurd hg (e3 n (by omega) z)
        · exact z
      obtain ⟨k,rfl⟩:∃ k,n=N+k:=⟨n - N,by omega⟩
      have a2:0 < (aft far (aft far f)).1:=by
        rw [(GJ hf.next).1]
        exact hf.next.pos (by rw [(GJ hf).1];exact hf.neg ha)
      rw [Tw,e1] at hg
      obtain ⟨m,hm⟩:=ih k (by omega) (aft far (aft far f)) hf.next.next a2 hg
      refine ⟨m+2,?_⟩
      rw [Wy,e1,e2]
      show Sg _ (Ao (Cy f far) (Ao (Cy (aft far f) far) (rT far m (aft far (aft far f)))))
      rw [←then_assoc]
      exact Sg.then (.inr rfl) hm
noncomputable def Ring (far:Int) (f g:I3) (t:I4):Prop:=(∃ m,Sg t (rT far m f))∨(∃ m,Sg (Ar t) (rT far m g))
theorem Ring.swap {far:Int} {f g:I3} {t:I4} (h:Ring far f g t):Ring far g f (Ar t):=by
  rcases h with ⟨m,h⟩ | ⟨m,h⟩
  · exact .inr ⟨m,by rw [FN];exact h⟩
  · exact .inl ⟨m,h⟩
theorem X4 {far:Int} {f g:I3} {t:I4} (hf:Lv far f) (hg:Lv far g) (hd:det t=1) (e:mov f t=g) (fa:0 < f.1) (ga:0 < g.1):Ring far f g t:=by
  have hr:Riv (mov f t):=by rw [e];exact hg.riv ga
  rcases Ah6 (hf.riv fa) hd hr with ⟨n,h⟩ | ⟨n,h⟩
  · have hs:Sg t (wd n f):=h
    have hn:Lv far (nxs n f):=by rw [←KC,←hs.mov,e];exact hg
    obtain ⟨m,hm⟩:=Xx n f hf fa hn
    exact .inl ⟨m,hs.trans hm⟩
  · rw [e] at h
    have hs:Sg (Ar t) (wd n g):=h
    have hn:Lv far (nxs n g):=by rw [←KC,←hs.mov,←e,Bq hd];exact hf
    obtain ⟨m,hm⟩:=Xx n g hg ga hn
    exact .inr ⟨m,hs.trans hm⟩
theorem Xh {far:Int} {f g:I3} {t:I4} {m:Nat} (hf:Lv far f) (hg:Lv far g) (hm:meas f=meas g) (h:Sg (Ao t (Cy g far)) (rT far m f)) (e:rF far m f=aft far g):(∃ k,Sg t (rT far k f))∨Sg t (Ar (Cy g far)):=by
  have cancel:∀ {u:I4},Sg (Ao t (Cy g far)) (Ao u (Cy g far))→Sg t u:=fun {u} h=>by
    have:=Sg.then h (Sg.refl (t:=Ar (Cy g far)))
    rw [then_assoc,then_assoc,JG CZ,G6,G6] at this
    exact this
  match m,h,e with
  | 0,h,e =>
    right
    refine cancel (h.trans ?_)
    rw [Rb CZ]
    exact Sg.refl
  | m+1,h,e =>
    left
    rw [XQ] at e
    have e':=X3 (Lv.rF m hf) hg (by rw [Io];exact hm) e
    rw [X5,e'] at h
    exact ⟨m,cancel h⟩
theorem Sd {far:Int} {f g:I3} {t:I4} (hf:Lv far f) (hg:Lv far g) (hd:det t=1) (e:mov f t=g) (fa:0 < f.1) (ga:g.1 < 0):Ring far f g t:=by
  have hm:meas f=meas g:=by rw [←e,Bu hd]
  have hd':det (Ao t (Cy g far))=1:=by rw [Cj,hd,CZ];rfl
  have e':mov f (Ao t (Cy g far))=aft far g:=by rw [←Bg,e]
  have ga':0 < (aft far g).1:=by rw [(GJ hg).1];exact hg.pos ga
  rcases X4 hf hg.next hd' e' fa ga' with ⟨m,h⟩ | ⟨m,h⟩
  · have er:rF far m f=aft far g:=by rw [←Ey,←h.mov,e']
    rcases Xh hf hg hm h er with h | h
    · exact .inl h
    · refine .inr ⟨1,?_⟩
      have:=h.back
      rw [FN] at this
      show Sg _ (Ao (Cy g far) (1,0,0,1))
      rw [G6]
      exact this
  · refine .inr ⟨m+1,?_⟩
    have h2:=Sg.then (Sg.refl (t:=Cy g far)) h
    rw [O9,←then_assoc,JG CZ,Ib] at h2
    exact h2
theorem K6 {far:Int} {f g:I3} {t:I4} (hf:Lv far f) (hg:Lv far g) (hd:det t=1) (e:mov f t=g):Ring far f g t:=by
  have fa:=Rg hf.S
  have ga:=Rg hg.S
  have eb:mov g (Ar t)=f:=by rw [←e,Bq hd]
  have hdb:det (Ar t)=1:=CV.trans hd
  rcases Int.lt_or_lt_of_ne fa with fa | fa
  · rcases Int.lt_or_lt_of_ne ga with ga | ga
    ·
      have fa':0 < (aft far f).1:=by rw [(GJ hf).1];exact hf.pos fa
      have hd':det (Ao (Ar (Cy f far)) t)=1:=by rw [Cj,CV,CZ,hd];rfl
      have e':mov (aft far f) (Ao (Ar (Cy f far)) t)=g:=by
        rw [←Bg,Bq CZ,e]
      have hm:meas g=meas f:=by rw [←e,Bu hd]
      rcases Sd hf.next hg hd' e' fa' ga with ⟨m,h⟩ | ⟨m,h⟩
      · refine .inl ⟨m+1,?_⟩
        have h2:=Sg.then (Sg.refl (t:=Cy f far)) h
        rw [←then_assoc,JG CZ,Ib] at h2
        exact h2
      · rw [O9,FN] at h
        have er:rF far m g=aft far f:=by rw [←Ey,←h.mov,←Bg,eb]
        rcases Xh hg hf hm h er with h | h
        · exact .inr h
        · refine .inl ⟨1,?_⟩
          have:=h.back
          rw [FN,FN] at this
          show Sg _ (Ao (Cy f far) (1,0,0,1))
          rw [G6]
          exact this
    · have:=(Sd hg hf hdb eb ga fa).swap
      rw [FN] at this
      exact this
  · rcases Int.lt_or_lt_of_ne ga with ga | ga
    · exact Sd hf hg hd e fa ga
    · exact X4 hf hg hd e fa ga
theorem Ae2:∀ (M:Nat) (x:Nat→Nat),(∀ i,i≤M→x i < M)→∃ i j,i < j∧j≤M∧x i=x j:=by
  intro M
  induction M with
  | zero=>intro x h;exact absurd (h 0 (Nat.le_refl _)) (by omega)
  | succ M ih =>
    intro x h
    by_cases hex:∃ i j,i < j∧j≤M+1∧x i=x j
    · exact hex
    · have ne:∀ i j,i < j→j≤M+1→x i≠x j:=fun i j h1 h2 h3=>hex ⟨i,j,h1,h2,h3⟩
      obtain ⟨i,j,h1,h2,h3⟩:=ih (fun i=>if x i=M then x (M+1) else x i) (fun i hi=>by
        have h1:=h i (by omega)
        have h2:=h (M+1) (Nat.le_refl _)
        have h3:=ne i (M+1) (by omega) (Nat.le_refl _)
        show (if x i=M then x (M+1) else x i) < M
        split <;> omega)
      exfalso
      have n1:=ne i j h1 (by omega)
      have n2:=ne i (M+1) (by omega) (Nat.le_refl _)
      have n3:=ne j (M+1) (by omega) (Nat.le_refl _)
      have h3:(if x i=M then x (M+1) else x i)=(if x j=M then x (M+1) else x j):=h3
      split at h3 <;> split at h3 <;> omega
theorem JN {far:Int}:∀ (i:Nat) {f g:I3},Lv far f→Lv far g→meas f=meas g→rF far i f=rF far i g→f=g
  | 0,_,_,_,_,_,h=>h
  | i+1,f,g,hf,hg,hm,h=>X3 hf hg hm (JN i hf.next hg.next (by rw [Bu CZ,Bu CZ];exact hm) h)
noncomputable def Vh (f:I3):Nat:=((f.1+63)*64+f.2.1).toNat
theorem Lv.range {far:Int} {f:I3} (h:Lv far f):(-63≤f.1∧f.1≤63)∧(0 < f.2.1∧f.2.1≤63):=by
  have h6:=Mx h.r h.S.most
  obtain ⟨⟨l1,l2⟩,_,l4⟩:=h.L
  have l4:2*ab f.1≤far+f.2.1:=l4
  rcases Ay f.1 with ⟨_,e⟩ | ⟨_,e⟩ <;> omega
theorem code_inj {far:Int} {f g:I3} (hf:Lv far f) (hg:Lv far g) (hm:meas f=meas g) (h:Vh f=Vh g):f=g:=by
  have rf:=hf.range
  have rg:=hg.range
  have ha:=Rg hf.S
  obtain ⟨a,b,c⟩:=f
  obtain ⟨a',b',c'⟩:=g
  simp only [Vh] at h rf rg ha
  have e1:a=a':=by omega
  have e2:b=b':=by omega
  subst e1 e2
  have e3:4*a*c=4*a*c':=by simp only [meas] at hm;omega
  have:c=c':=Int.eq_of_mul_eq_mul_left (show 4*a≠0 by omega) e3
  rw [this]
theorem Ht {far:Int} {f:I3} (h:Lv far f):∃ N,0 < N∧N≤8128∧rF far N f=f∧∀ j,0 < j→j < N→rF far j f≠f:=by
  have ex:∃ N,0 < N∧N≤8128∧rF far N f=f:=by
    obtain ⟨i,j,hij,hj,e⟩:=Ae2 8128 (fun i=>Vh (rF far i f)) (fun i _=>by
      have:=(Lv.rF i h).range
      unfold Vh
      omega)
    have e':=code_inj (Lv.rF i h) (Lv.rF j h) (by rw [Io,Io]) e
    obtain ⟨k,rfl⟩:∃ k,j=k+i:=⟨j - i,by omega⟩
    rw [Cg k i f] at e'
    have:=JN i h (Lv.rF k h) (by rw [Io]) e'
    exact ⟨k,by omega,by omega,this.symm⟩
  have least:∀ M,(∃ N,0 < N∧N≤M∧rF far N f=f)→∃ N,0 < N∧N≤M∧rF far N f=f∧∀ j,0 < j→j < N→rF far j f≠f:=by
    intro M
    induction M with
    | zero=>intro ⟨N,h1,h2,_⟩;omega
    | succ M ih =>
      intro hN
      by_cases hM:∃ N,0 < N∧N≤M∧rF far N f=f
      · obtain ⟨N,h1,h2,h3,h4⟩:=ih hM
        exact ⟨N,h1,by omega,h3,h4⟩
      · obtain ⟨N,h1,h2,h3⟩:=hN
        exact ⟨N,h1,h2,h3,fun j j0 jN e=>hM ⟨j,j0,by omega,e⟩⟩
  exact least 8128 ex
theorem X7 {f:I3} {far:Int} (h:Lv far f):Bt 9 (kB f far):=by
  have hc:=Ij h.S
  have hk:=Hv (top:=far) hc
  have ⟨d1,d2⟩:=Lw (top:=far) hc
  have h6:=Mx h.r h.S.most
  have ⟨c1,c2⟩:=Ir h.r h.S.no h.L
  obtain ⟨⟨l1,l2⟩,_,_⟩:=h.L
  have e1:2*(ab f.2.2*ab (kB f far))=ab (f.2.1+dB f far):=by
    rw [←hk,Qi]
    have:2*f.2.2*kB f far=2*(f.2.2*kB f far):=by grind
    rw [this]
    rcases Ay (f.2.2*kB f far) with ⟨h1,e1⟩ | ⟨h1,e1⟩
    · rw [e1,ab,if_neg (by omega)]
    · rw [e1,ab,if_pos (by omega)];omega
  have c0:1≤ab f.2.2:=by rcases Ay f.2.2 with ⟨_,e1⟩ | ⟨_,e1⟩ <;> omega
  have e2:=Int.mul_le_mul_of_nonneg_right c0 (BW (kB f far))
  have e3:ab (f.2.1+dB f far)≤252:=by rcases Ay (f.2.1+dB f far) with ⟨_,e1⟩ | ⟨_,e1⟩ <;> omega
  have:=BW (kB f far)
  exact Rn (k:=252) (by omega) (by decide)
theorem Ad2 {far:Int}:∀ (n:Nat) {f:I3},Lv far f→B4 (10*n+1) (rT far n f)
  | 0,_,_=>⟨Bt.one,Bt.zero.le (by omega),Bt.zero.le (by omega),Bt.one⟩
  | n+1,f,h=>by
    have h1:=O1 (X7 h) (by decide)
    exact (B4.then h1 (Ad2 n h.next)).le (by omega)
end My
namespace My
open PySem L2
noncomputable def tr (t:I4):Int:=t.1+t.2.2.2
theorem AbT {t x:I4} (h:det x=1):tr (Ao (Ao x t) (Ar x))=tr t:=by
  obtain ⟨p,q,r,s⟩:=t;obtain ⟨a,b,c,d⟩:=x
  simp only [det] at h
  have:tr (Ao (Ao (a,b,c,d) (p,q,r,s)) (Ar (a,b,c,d)))=(a*d - b*c)*(p+s):=by simp only [tr,Ao,Ar];grind
  rw [this,h,Int.one_mul];rfl
theorem Aa9 {t x:I4} (h:det x=1):tr (Ao (Ao (Ar x) t) x)=tr t:=by
  have:=AbT (t:=t) (x:=Ar x) (CV.trans h)
  rw [FN] at this
  exact this
theorem Amy {f:I3} (h:f.1≠0):0 < g3 f:=by
  rcases Nat.lt_or_ge 0 (g3 f) with z | z
  · exact z
  · have:=AcO (show g3 f=0 by omega)
    rw [this] at h
    exact absurd rfl h
theorem Agw {f:I3} {d:Int} (h1:d∣f.1) (h2:d∣f.2.1) (h3:d∣f.2.2):d∣(g3 f:Int):=Int.dvd_coe_gcd (Int.dvd_coe_gcd h1 h2) h3
theorem Oq {f:I3} {t:I4}:(g3 f:Int)∣(g3 (mov f t):Int):=by
  obtain ⟨⟨x,hx⟩,⟨y,hy⟩,⟨z,hz⟩⟩:=V5 f
  refine Agw ⟨val (x,y,z) (t.1,t.2.2.1),?_⟩ ⟨mid (x,y,z) (t.1,t.2.2.1) (t.2.1,t.2.2.2),?_⟩ ⟨val (x,y,z) (t.2.1,t.2.2.2),?_⟩
  · show val f (t.1,t.2.2.1)=_
    simp only [val];rw [hx,hy,hz];grind
  · show mid f (t.1,t.2.2.1) (t.2.1,t.2.2.2)=_
    simp only [mid];rw [hx,hy,hz];grind
  · show val f (t.2.1,t.2.2.2)=_
    simp only [val];rw [hx,hy,hz];grind
theorem Qk {f:I3} {t:I4} (h:det t=1):g3 (mov f t)=g3 f:=by
  have h1:(g3 f:Int)∣(g3 (mov f t):Int):=Oq
  have h2:(g3 (mov f t):Int)∣(g3 f:Int):=by
    have:=Oq (f:=mov f t) (t:=Ar t)
    rw [Bq h] at this
    exact this
  exact Nat.dvd_antisymm (Int.ofNat_dvd.mp h2) (Int.ofNat_dvd.mp h1)
noncomputable def pl (f:I3):I3:=(f.1 / (g3 f:Int),f.2.1 / (g3 f:Int),f.2.2 / (g3 f:Int))
theorem Akz (f:I3):f.1=(g3 f:Int)*(pl f).1∧f.2.1=(g3 f:Int)*(pl f).2.1∧f.2.2=(g3 f:Int)*(pl f).2.2:=by
  obtain ⟨h1,h2,h3⟩:=V5 f
  exact ⟨(Int.mul_ediv_cancel' h1).symm,(Int.mul_ediv_cancel' h2).symm,(Int.mul_ediv_cancel' h3).symm⟩
theorem W4 {far:Int} {f:I3} {N m:Nat} (e:rF far N f=f):tr (rT far N (rF far m f))=tr (rT far N f):=by
  have h1:=Tr (far:=far) m N f
  have h2:=Tr (far:=far) N m f
  rw [e,Nat.add_comm N m] at h2
  have hd:=Mj (far:=far) m f
  have:rT far N (rF far m f)=Ao (Ao (Ar (rT far m f)) (rT far N f)) (rT far m f):=by
    rw [then_assoc,←h2,h1,←then_assoc,Rb hd,Ib]
  rw [this,Aa9 hd]
theorem U3 {far:Int} {f:I3} {N M m:Nat} (h:Lv far f) (e:rF far N f=f) (min:∀ j,0 < j→j < N→rF far j f≠f) (e':rF far M (rF far m f)=rF far m f) (min':∀ j,0 < j→j < M→rF far j (rF far m f)≠rF far m f) (hN:0 < N) (hM:0 < M):N=M:=by
  have a1:rF far M f=f:=by
    rw [←Cg,Nat.add_comm,Cg] at e'
    exact JN m (Lv.rF M h) h (by rw [Io]) e'
  have a2:rF far N (rF far m f)=rF far m f:=by rw [←Cg,Nat.add_comm,Cg,e]
  rcases Nat.lt_trichotomy N M with z | z | z
  · exact absurd a2 (min' N hN z)
  · exact z
  · exact absurd a1 (min M hM z)
theorem Rv {far:Int} {f g:I3} {t:I4} {N M:Nat} (hf:Lv far f) (hg:Lv far g) (hd:det t=1) (e:mov f t=g) (eN:rF far N f=f) (minN:∀ j,0 < j→j < N→rF far j f≠f) (eM:rF far M g=g) (minM:∀ j,0 < j→j < M→rF far j g≠g) (hN:0 < N) (hM:0 < M):N=M∧tr (rT far M g)=tr (rT far N f):=by
  rcases K6 hf hg hd e with ⟨m,h⟩ | ⟨m,h⟩
  · have eg:rF far m f=g:=by rw [←Ey,←h.mov,e]
    subst eg
    have:=U3 hf eN minN eM minM hN hM
    subst this
    exact ⟨rfl,W4 eN⟩
  · have ef:rF far m g=f:=by rw [←Ey,←h.mov,←e,Bq hd]
    subst ef
    have:=U3 hg eM minM eN minN hM hN
    subst this
    exact ⟨rfl,(W4 eM).symm⟩
end My
namespace My
open PySem L2
theorem Ae3 {far:Int} {g:I3} {N:Nat} (e:rF far N g=g) (i:Nat):rF far (N+i) g=rF far i g:=by rw [Cg,e]
theorem rotate {far:Int} {g:I3} {N k:Nat} (e:rF far N g=g) (hk:k < N) :
    (((List.range N).map fun i=>rF far (i+1) g).drop k) ++ (((List.range N).map fun i=>rF far (i+1) g).take k)=(List.range N).map fun i=>rF far i (rF far (k+1) g):=by
  apply List.ext_getElem
  · simp only [List.length_append,List.length_drop,List.length_take,List.length_map,List.length_range]
    omega
  · intro i h1 h2
    rw [List.length_map,List.length_range] at h2
    rw [List.getElem_map,List.getElem_range,←Cg]
    rcases Nat.lt_or_ge i (N - k) with z | z
    · rw [List.getElem_append_left (by simp only [List.length_drop,List.length_map,List.length_range];exact z),List.getElem_drop,List.getElem_map,List.getElem_range]
      rw [show k+i+1=k+1+i by omega]
    · rw [List.getElem_append_right (by simp only [List.length_drop,List.length_map,List.length_range];exact z),List.getElem_take,List.getElem_map,List.getElem_range]
      simp only [List.length_drop,List.length_map,List.length_range]
      rw [←Ae3 e,show N+(i - (N - k)+1)=k+1+i by omega]
end My
namespace My
open PySem L2
noncomputable def FA (p q:I4):I3:=(p.1*q.2.1 - p.2.1*q.1,p.1*q.2.2.2 - p.2.2.2*q.1+p.2.2.1*q.2.1 - p.2.1*q.2.2.1,p.2.2.1*q.2.2.2 - p.2.2.2*q.2.2.1)
noncomputable def FB (p q:I4):I3:=(p.1*q.2.2.1 - p.2.2.1*q.1,p.1*q.2.2.2 - p.2.2.2*q.1+p.2.1*q.2.2.1 - p.2.2.1*q.2.1,p.2.1*q.2.2.2 - p.2.2.2*q.2.1)
noncomputable def FC (p q:I4):I3:=(q.2.1*q.2.2.1 - q.1*q.2.2.2,p.1*q.2.2.2+p.2.2.2*q.1 - p.2.1*q.2.2.1 - p.2.2.1*q.2.1,p.2.1*p.2.2.1 - p.1*p.2.2.2)
noncomputable def Comp (f g F:I3):Prop:=∃ p q:I4,FA p q=f∧FB p q=g∧FC p q=F
theorem VN {f g:I3} (h1:f.1=g.1) (h2:f.2.1=g.2.1) (h3:f.2.2=g.2.2):f=g:=Prod.ext h1 (Prod.ext h2 h3)
theorem Comp.swap {f g F:I3} (h:Comp f g F):Comp g f F:=by
  obtain ⟨⟨p0,p1,p2,p3⟩,⟨q0,q1,q2,q3⟩,rfl,rfl,rfl⟩:=h
  refine ⟨(p0,p2,p1,p3),(q0,q2,q1,q3),?_,?_,?_⟩ <;> simp only [FA,FB,FC,Prod.mk.injEq] <;> (refine ⟨?_,?_,?_⟩ <;> grind)
theorem Comp.meas {f g F:I3} (h:Comp f g F):meas f=meas g∧meas F=meas g:=by
  obtain ⟨⟨p0,p1,p2,p3⟩,⟨q0,q1,q2,q3⟩,rfl,rfl,rfl⟩:=h
  constructor <;> simp only [FA,FB,FC,My.meas] <;> grind
noncomputable def Oz (p:I4) (t:I4):I4:=(t.1*p.1+t.2.2.1*p.2.2.1,t.1*p.2.1+t.2.2.1*p.2.2.2,t.2.1*p.1+t.2.2.2*p.2.2.1,t.2.1*p.2.1+t.2.2.2*p.2.2.2)
theorem AlK {p q t:I4}:FA (Oz p t) (Oz q t)=mov (FA p q) t:=by
  obtain ⟨p0,p1,p2,p3⟩:=p;obtain ⟨q0,q1,q2,q3⟩:=q;obtain ⟨a,b,c,d⟩:=t
  simp only [FA,Oz,mov,val,mid,Prod.mk.injEq]
  refine ⟨?_,?_,?_⟩ <;> grind
theorem Akx {p q t:I4} (h:det t=1):FB (Oz p t) (Oz q t)=FB p q:=by
  obtain ⟨p0,p1,p2,p3⟩:=p;obtain ⟨q0,q1,q2,q3⟩:=q;obtain ⟨a,b,c,d⟩:=t
  have h:a*d - b*c=1:=h
  have e:∀ x:Int,x=(a*d - b*c)*x:=fun x=>by rw [h];omega
  simp only [FB,Oz,Prod.mk.injEq]
  refine ⟨?_,?_,?_⟩
  · rw [e (p0*q2 - p2*q0)];grind
  · rw [e (p0*q3 - p3*q0+p1*q2 - p2*q1)];grind
  · rw [e (p1*q3 - p3*q1)];grind
theorem Aks {p q t:I4} (h:det t=1):FC (Oz p t) (Oz q t)=FC p q:=by
  obtain ⟨p0,p1,p2,p3⟩:=p;obtain ⟨q0,q1,q2,q3⟩:=q;obtain ⟨a,b,c,d⟩:=t
  have h:a*d - b*c=1:=h
  have e:∀ x:Int,x=(a*d - b*c)*x:=fun x=>by rw [h];omega
  simp only [FC,Oz,Prod.mk.injEq]
  refine ⟨?_,?_,?_⟩
  · rw [e (q1*q2 - q0*q3)];grind
  · rw [e (p0*q3+p3*q0 - p1*q2 - p2*q1)];grind
  · rw [e (p1*p2 - p0*p3)];grind
theorem Comp.movL {f g F:I3} {t:I4} (h:Comp f g F) (dt:det t=1):Comp (mov f t) g F:=by
  obtain ⟨p,q,rfl,rfl,rfl⟩:=h
  exact ⟨Oz p t,Oz q t,AlK,Akx dt,Aks dt⟩
theorem Comp.movR {f g F:I3} {t:I4} (h:Comp f g F) (dt:det t=1):Comp f (mov g t) F:=(h.swap.movL dt).swap
noncomputable def Nu (p q t:I4):I4:=(t.2.2.2*p.1 - t.2.1*q.1,t.2.2.2*p.2.1 - t.2.1*q.2.1,t.2.2.2*p.2.2.1 - t.2.1*q.2.2.1,t.2.2.2*p.2.2.2 - t.2.1*q.2.2.2)
noncomputable def Nx (p q t:I4):I4:=(t.1*q.1 - t.2.2.1*p.1,t.1*q.2.1 - t.2.2.1*p.2.1,t.1*q.2.2.1 - t.2.2.1*p.2.2.1,t.1*q.2.2.2 - t.2.2.1*p.2.2.2)
theorem AkC {p q t:I4} (h:det t=1):FA (Nu p q t) (Nx p q t)=FA p q:=by
  obtain ⟨p0,p1,p2,p3⟩:=p;obtain ⟨q0,q1,q2,q3⟩:=q;obtain ⟨a,b,c,d⟩:=t
  have h:a*d - b*c=1:=h
  have e:∀ x:Int,x=(a*d - b*c)*x:=fun x=>by rw [h];omega
  simp only [FA,Nu,Nx,Prod.mk.injEq]
  refine ⟨?_,?_,?_⟩
  · rw [e (p0*q1 - p1*q0)];grind
  · rw [e (p0*q3 - p3*q0+p2*q1 - p1*q2)];grind
  · rw [e (p2*q3 - p3*q2)];grind
theorem Akh {p q t:I4} (h:det t=1):FB (Nu p q t) (Nx p q t)=FB p q:=by
  obtain ⟨p0,p1,p2,p3⟩:=p;obtain ⟨q0,q1,q2,q3⟩:=q;obtain ⟨a,b,c,d⟩:=t
  have h:a*d - b*c=1:=h
  have e:∀ x:Int,x=(a*d - b*c)*x:=fun x=>by rw [h];omega
  simp only [FB,Nu,Nx,Prod.mk.injEq]
  refine ⟨?_,?_,?_⟩
  · rw [e (p0*q2 - p2*q0)];grind
  · rw [e (p0*q3 - p3*q0+p1*q2 - p2*q1)];grind
  · rw [e (p1*q3 - p3*q1)];grind
theorem AgE {p q t:I4}:FC (Nu p q t) (Nx p q t)=mov (FC p q) t:=by
  obtain ⟨p0,p1,p2,p3⟩:=p;obtain ⟨q0,q1,q2,q3⟩:=q;obtain ⟨a,b,c,d⟩:=t
  simp only [FC,Nu,Nx,mov,val,mid,Prod.mk.injEq]
  refine ⟨?_,?_,?_⟩ <;> grind
theorem bez:∀ (n:Nat) (a b:Int),b.natAbs≤n→∃ u v:Int,u*a+v*b=(Int.gcd a b:Int)
  | n,a,b,h=>by
    by_cases hb:b=0
    · subst hb
      rw [Int.gcd_zero_right]
      rcases Int.lt_or_le a 0 with z | z
      · exact ⟨-1,0,by omega⟩
      · exact ⟨1,0,by omega⟩
    · have l:=Je (a:=a) hb
      match n,h with
      | 0,h=>omega
      | n+1,h =>
        obtain ⟨u,v,e⟩:=bez n b (a.fmod b) (by omega)
        rw [K3] at e
        refine ⟨v,u - v*a.fdiv b,?_⟩
        rw [←e,Int.fmod_def]
        grind
theorem Wo {f:I3} (h:g3 f=1):∃ i j k:Int,i*f.1+j*f.2.1+k*f.2.2=1:=by
  obtain ⟨u,v,e1⟩:=bez _ f.1 f.2.1 (Nat.le_refl _)
  obtain ⟨x,y,e2⟩:=bez _ ((Int.gcd f.1 f.2.1:Nat):Int) f.2.2 (Nat.le_refl _)
  have e3:((Int.gcd ((Int.gcd f.1 f.2.1:Nat):Int) f.2.2:Nat):Int)=1:=by
    have:(g3 f:Int)=1:=by rw [h];rfl
    exact this
  rw [e3,←e1] at e2
  exact ⟨x*u,x*v,y,by rw [←e2];grind⟩
theorem Gx {pm pi pj qm qi qj rm ri rj sm si sj:Int} (h1:pm*qi - pi*qm=rm*si - ri*sm) (h2:pm*qj - pj*qm=rm*sj - rj*sm) (h3:pi*qj - pj*qi=ri*sj - rj*si) :
    rm*(pi*qj - pj*qi)=pm*(ri*qj - rj*qi)+qm*(pi*rj - pj*ri):=by
  have a1:rm*(pi*qj - pj*qi)=rm*(ri*sj - rj*si):=by rw [h3]
  have a2:ri*(pm*qj - pj*qm)=ri*(rm*sj - rj*sm):=by rw [h2]
  have a3:rj*(pm*qi - pi*qm)=rj*(rm*si - ri*sm):=by rw [h1]
  grind
theorem Gw {pm pi pj qm qi qj rm ri rj sm si sj:Int} (h1:pm*qi - pi*qm=rm*si - ri*sm) (h2:pm*qj - pj*qm=rm*sj - rj*sm) (h3:pi*qj - pj*qi=ri*sj - rj*si) :
    sm*(pi*qj - pj*qi)=pm*(si*qj - sj*qi)+qm*(pi*sj - pj*si):=by
  have a1:sm*(pi*qj - pj*qi)=sm*(ri*sj - rj*si):=by rw [h3]
  have a2:si*(pm*qj - pj*qm)=si*(rm*sj - rj*sm):=by rw [h2]
  have a3:sj*(pm*qi - pi*qm)=sj*(rm*si - ri*sm):=by rw [h1]
  grind
theorem Jo {pm qm rm A B C D c1 c2 c3 c4 x1 x2 x3 x4 y1 y2 y3 y4:Int} (e1:rm*A=pm*x1+qm*y1) (e2:rm*B=pm*x2+qm*y2) (e3:rm*C=pm*x3+qm*y3) (e4:rm*D=pm*x4+qm*y4) (h:c1*A+c2*B+c3*C+c4*D=1) :
    rm=(c1*x1+c2*x2+c3*x3+c4*x4)*pm+(c1*y1+c2*y2+c3*y3+c4*y4)*qm:=by
  have:rm=rm*(c1*A+c2*B+c3*C+c4*D):=by rw [h];omega
  have e:rm*(c1*A+c2*B+c3*C+c4*D)=c1*(rm*A)+c2*(rm*B)+c3*(rm*C)+c4*(rm*D):=by grind
  rw [e,e1,e2,e3,e4] at this
  rw [this]
  grind
theorem YX {p q r s:I4} (ha:FA p q=FA r s) (hb:FB p q=FB r s) (pl:g3 (FA p q)=1):∃ t:I4,det t=1∧r=Nu p q t∧s=Nx p q t:=by
  obtain ⟨i,j,k,hijk⟩:=Wo pl
  obtain ⟨p0,p1,p2,p3⟩:=p
  obtain ⟨q0,q1,q2,q3⟩:=q
  obtain ⟨r0,r1,r2,r3⟩:=r
  obtain ⟨s0,s1,s2,s3⟩:=s
  simp only [FA,FB,Prod.mk.injEq] at ha hb hijk
  obtain ⟨m01,mA,m23⟩:=ha
  obtain ⟨m02,mB,m13⟩:=hb
  have m03:p0*q3 - p3*q0=r0*s3 - r3*s0:=by omega
  have m12:p1*q2 - p2*q1=r1*s2 - r2*s1:=by omega
  have h1:i*(p0*q1 - p1*q0)+j*(p0*q3 - p3*q0)+(-j)*(p1*q2 - p2*q1)+k*(p2*q3 - p3*q2)=1:=by rw [←hijk];grind
  have z:∀ {x y:Int},x*y - x*y=0:=fun {x y}=>by omega
  have nn:∀ {a b c d:Int},a*b - c*d=0 - (c*d - a*b):=fun {a b c d}=>by omega
  have m10:p1*q0 - p0*q1=r1*s0 - r0*s1:=by omega
  have m20:p2*q0 - p0*q2=r2*s0 - r0*s2:=by omega
  have m30:p3*q0 - p0*q3=r3*s0 - r0*s3:=by omega
  have m21:p2*q1 - p1*q2=r2*s1 - r1*s2:=by omega
  have m31:p3*q1 - p1*q3=r3*s1 - r1*s3:=by omega
  have m32:p3*q2 - p2*q3=r3*s2 - r2*s3:=by omega
  have m00:p0*q0 - p0*q0=r0*s0 - r0*s0:=by omega
  have m11:p1*q1 - p1*q1=r1*s1 - r1*s1:=by omega
  have m22:p2*q2 - p2*q2=r2*s2 - r2*s2:=by omega
  have m33:p3*q3 - p3*q3=r3*s3 - r3*s3:=by omega
  have R0:=Jo (Gx m00 m01 m01) (Gx m00 m03 m03) (Gx m01 m02 m12) (Gx m02 m03 m23) h1
  have R1:=Jo (Gx m10 m11 m01) (Gx m10 m13 m03) (Gx m11 m12 m12) (Gx m12 m13 m23) h1
  have R2:=Jo (Gx m20 m21 m01) (Gx m20 m23 m03) (Gx m21 m22 m12) (Gx m22 m23 m23) h1
  have R3:=Jo (Gx m30 m31 m01) (Gx m30 m33 m03) (Gx m31 m32 m12) (Gx m32 m33 m23) h1
  have S0:=Jo (Gw m00 m01 m01) (Gw m00 m03 m03) (Gw m01 m02 m12) (Gw m02 m03 m23) h1
  have S1:=Jo (Gw m10 m11 m01) (Gw m10 m13 m03) (Gw m11 m12 m12) (Gw m12 m13 m23) h1
  have S2:=Jo (Gw m20 m21 m01) (Gw m20 m23 m03) (Gw m21 m22 m12) (Gw m22 m23 m23) h1
  have S3:=Jo (Gw m30 m31 m01) (Gw m30 m33 m03) (Gw m31 m32 m12) (Gw m32 m33 m23) h1
  obtain ⟨al,eal⟩:∃ x,x=i*(r0*q1 - r1*q0)+j*(r0*q3 - r3*q0) + -j*(r1*q2 - r2*q1)+k*(r2*q3 - r3*q2):=⟨_,rfl⟩
  obtain ⟨be,ebe⟩:∃ x,x=i*(p0*r1 - p1*r0)+j*(p0*r3 - p3*r0) + -j*(p1*r2 - p2*r1)+k*(p2*r3 - p3*r2):=⟨_,rfl⟩
  obtain ⟨ga,ega⟩:∃ x,x=i*(s0*q1 - s1*q0)+j*(s0*q3 - s3*q0) + -j*(s1*q2 - s2*q1)+k*(s2*q3 - s3*q2):=⟨_,rfl⟩
  obtain ⟨de,ede⟩:∃ x,x=i*(p0*s1 - p1*s0)+j*(p0*s3 - p3*s0) + -j*(p1*s2 - p2*s1)+k*(p2*s3 - p3*s2):=⟨_,rfl⟩
  rw [←eal,←ebe] at R0 R1 R2 R3
  rw [←ega,←ede] at S0 S1 S2 S3
  refine ⟨(de,-be,-ga,al),?_,?_,?_⟩
  · show de*al - -be * -ga=1
    have k1:(de*al - -be * -ga)*(p0*q1 - p1*q0)=p0*q1 - p1*q0:=by rw [m01,R0,R1,S0,S1];grind
    have k2:(de*al - -be * -ga)*(p0*q3 - p3*q0)=p0*q3 - p3*q0:=by rw [m03,R0,R3,S0,S3];grind
    have k3:(de*al - -be * -ga)*(p1*q2 - p2*q1)=p1*q2 - p2*q1:=by rw [m12,R1,R2,S1,S2];grind
    have k4:(de*al - -be * -ga)*(p2*q3 - p3*q2)=p2*q3 - p3*q2:=by rw [m23,R2,R3,S2,S3];grind
    generalize de*al - -be * -ga=D at *
    have:D=D*(i*(p0*q1 - p1*q0)+j*(p0*q3 - p3*q0) + -j*(p1*q2 - p2*q1)+k*(p2*q3 - p3*q2)):=by rw [h1];omega
    have e:D*(i*(p0*q1 - p1*q0)+j*(p0*q3 - p3*q0) + -j*(p1*q2 - p2*q1)+k*(p2*q3 - p3*q2))=i*(D*(p0*q1 - p1*q0))+j*(D*(p0*q3 - p3*q0)) + -j*(D*(p1*q2 - p2*q1))+k*(D*(p2*q3 - p3*q2)):=by grind
    rw [e,k1,k2,k3,k4,h1] at this
    exact this
  · simp only [Nu,Prod.mk.injEq]
    refine ⟨?_,?_,?_,?_⟩
    · rw [R0];grind
    · rw [R1];grind
    · rw [R2];grind
    · rw [R3];grind
  · simp only [Nx,Prod.mk.injEq]
    refine ⟨?_,?_,?_,?_⟩
    · rw [S0];grind
    · rw [S1];grind
    · rw [S2];grind
    · rw [S3];grind
theorem Comp.same {f g F G:I3} (A:Comp f g F) (B:Comp f g G) (pl:g3 f=1):∃ t,det t=1∧mov F t=G:=by
  obtain ⟨p,q,a1,a2,a3⟩:=A
  obtain ⟨r,s,b1,b2,b3⟩:=B
  obtain ⟨t,dt,er,es⟩:=YX (p:=p) (q:=q) (r:=r) (s:=s) (a1.trans b1.symm) (a2.trans b2.symm) (by rw [a1];exact pl)
  refine ⟨t,dt,?_⟩
  rw [←b3,er,es,AgE,a3]
end My
namespace My
open PySem L2
noncomputable def jS (f h:I3):Int:=(f.2.1+h.2.1).fdiv 2
noncomputable def jA (f h:I3) (g:Int):Int:=(f.1*h.1).fdiv (g*g)
noncomputable def jB (f h:I3) (g j k:Int):Int:=(h.2.1+2*h.1.fdiv g*(j*(jS f h - h.2.1) - k*h.2.2)).fmod (2*jA f h g)
noncomputable def jF (f h:I3) (g j k:Int):I3:=(jA f h g,jB f h g j k,(jB f h g j k*jB f h g j k - meas f).fdiv (4*jA f h g))
noncomputable def jP (f h:I3) (g B:Int):I4:=(g,(g*(h.2.1 - B)).fdiv (2*h.1),(g*(f.2.1 - B)).fdiv (2*f.1),(g*(f.2.1*h.2.1+meas f - 2*B*jS f h)).fdiv (4*f.1*h.1))
noncomputable def jQ (f h:I3) (g:Int):I4:=(0,f.1.fdiv g,h.1.fdiv g,(jS f h).fdiv g)
theorem Rw {f h:I3} (hm:meas f=meas h):f.2.1+h.2.1=2*jS f h:=by
  have hm:f.2.1*f.2.1 - 4*f.1*f.2.2=h.2.1*h.2.1 - 4*h.1*h.2.2:=hm
  have e:(f.2.1+h.2.1) % 2=0:=by
    have e1:f.2.1*f.2.1 - h.2.1*h.2.1=4*(f.1*f.2.2 - h.1*h.2.2):=by grind
    have e2:(f.2.1+h.2.1)*(f.2.1 - h.2.1)=4*(f.1*f.2.2 - h.1*h.2.2):=by rw [←e1];grind
    rcases (show (f.2.1+h.2.1) % 2=0∨(f.2.1+h.2.1) % 2=1 by omega) with z | z
    · exact z
    · obtain ⟨x,hx⟩:∃ x,f.2.1+h.2.1=2*x+1:=⟨(f.2.1+h.2.1) / 2,by omega⟩
      obtain ⟨y,hy⟩:∃ y,f.2.1 - h.2.1=2*y+1:=⟨(f.2.1 - h.2.1) / 2,by omega⟩
      rw [hx,hy] at e2
      have:(2*x+1)*(2*y+1)=2*(2*(x*y)+x+y)+1:=by grind
      omega
  unfold jS
  rw [Int.fdiv_eq_ediv_of_nonneg _ (by decide)]
  omega
theorem Zm {f h:I3} {g i j k:Int} (ha:f.1≠0) (hd:h.1≠0) (hm:meas f=meas h) (g0:g≠0) (ga:g∣f.1) (gd:g∣h.1) (gs:g∣jS f h) (hB:i*f.1+j*h.1+k*jS f h=g) :
    FA (jP f h g (jB f h g j k)) (jQ f h g)=f∧FB (jP f h g (jB f h g j k)) (jQ f h g)=h∧FC (jP f h g (jB f h g j k)) (jQ f h g)=jF f h g j k:=by
  have hs:=Rw hm
  obtain ⟨a,b,c⟩:=f
  obtain ⟨d,e,c'⟩:=h
  obtain ⟨s,es⟩:∃ s,jS (a,b,c) (d,e,c')=s:=⟨_,rfl⟩
  have hm':b*b - 4*a*c=e*e - 4*d*c':=hm
  unfold jF jP jQ
  have eA:jA (a,b,c) (d,e,c') g=jA (a,b,c) (d,e,c') g:=rfl
  rw [es] at hs gs hB
  unfold jB jA
  rw [es]
  simp only at *
  obtain ⟨a1,rfl⟩:=ga
  obtain ⟨d1,rfl⟩:=gd
  obtain ⟨s1,rfl⟩:=gs
  have fa:(g*a1).fdiv g=a1:=Int.mul_fdiv_cancel_left _ g0
  have fd:(g*d1).fdiv g=d1:=Int.mul_fdiv_cancel_left _ g0
  have fs:(g*s1).fdiv g=s1:=Int.mul_fdiv_cancel_left _ g0
  have fA:(g*a1*(g*d1)).fdiv (g*g)=a1*d1:=by
    have:g*a1*(g*d1)=g*g*(a1*d1):=by grind
    rw [this]
    exact Int.mul_fdiv_cancel_left _ (Int.mul_ne_zero g0 g0)
  rw [fa,fd,fs,fA]
  have a0:a1≠0:=fun z=>ha (by rw [z];simp)
  have d0:d1≠0:=fun z=>hd (by rw [z];simp)
  have one:i*a1+j*d1+k*s1=1:=by
    have:g*(i*a1+j*d1+k*s1)=g*1:=by rw [←hB];grind
    exact Int.eq_of_mul_eq_mul_left g0 this
  have eb:b=2*(g*s1) - e:=by omega
  have key:s1*(g*s1 - e)=a1*c - d1*c':=by
    refine Int.eq_of_mul_eq_mul_left (a:=4*g) (by omega) ?_
    have:b*b - e*e=4*(g*a1)*c - 4*(g*d1)*c':=by omega
    rw [eb] at this
    grind
  obtain ⟨u,eu⟩:∃ u,u=j*(g*s1 - e) - k*c':=⟨_,rfl⟩
  obtain ⟨v,ev⟩:∃ v,v=-(i*(g*s1 - e)) - k*c:=⟨_,rfl⟩
  rw [←eu]
  have uv:u*d1 - v*a1=g*s1 - e:=by
    have:u*d1 - v*a1=(g*s1 - e)*(i*a1+j*d1+k*s1) - k*(s1*(g*s1 - e) - (a1*c - d1*c')):=by rw [eu,ev];grind
    rw [this,one,key];omega
  have k1:(i*c'+j*c)*d1 - v*s1=c:=by
    have:(i*c'+j*c)*d1 - v*s1=c*(i*a1+j*d1+k*s1)+i*(s1*(g*s1 - e) - (a1*c - d1*c')):=by rw [ev];grind
    rw [this,one,key];omega
  have k2:(i*c'+j*c)*a1 - u*s1=c':=by
    have:(i*c'+j*c)*a1 - u*s1=c'*(i*a1+j*d1+k*s1) - j*(s1*(g*s1 - e) - (a1*c - d1*c')):=by rw [eu];grind
    rw [this,one,key];omega
  obtain ⟨M,eM⟩:∃ M,(e+2*d1*u).fmod (2*(a1*d1))=e+2*d1*u - 2*(a1*d1)*M:=⟨(e+2*d1*u).fdiv (2*(a1*d1)),by rw [Int.fmod_def]⟩
  rw [eM]
  have A0:a1*d1≠0:=Int.mul_ne_zero a0 d0
  have q1:(g*(e - (e+2*d1*u - 2*(a1*d1)*M))).fdiv (2*(g*d1))=a1*M - u:=by
    have:g*(e - (e+2*d1*u - 2*(a1*d1)*M))=2*(g*d1)*(a1*M - u):=by grind
    rw [this]
    exact Int.mul_fdiv_cancel_left _ (by have:=Int.mul_ne_zero g0 d0;omega)
  have q2:(g*(b - (e+2*d1*u - 2*(a1*d1)*M))).fdiv (2*(g*a1))=d1*M - v:=by
    have:g*(b - (e+2*d1*u - 2*(a1*d1)*M))=2*(g*a1)*(d1*M - v):=by
      have:g*(b - (e+2*d1*u - 2*(a1*d1)*M))=2*(g*a1)*(d1*M - v)+2*g*((g*s1 - e) - (u*d1 - v*a1)):=by rw [eb];grind
      rw [this,uv];omega
    rw [this]
    exact Int.mul_fdiv_cancel_left _ (by have:=Int.mul_ne_zero g0 a0;omega)
  have q3:(g*(b*e+meas (g*a1,b,c) - 2*(e+2*d1*u - 2*(a1*d1)*M)*(g*s1))).fdiv (4*(g*a1)*(g*d1))=s1*M - (i*c'+j*c):=by
    have e1:meas (g*a1,b,c)=e*e - 4*(g*d1)*c':=hm
    have:g*(b*e+meas (g*a1,b,c) - 2*(e+2*d1*u - 2*(a1*d1)*M)*(g*s1))=4*(g*a1)*(g*d1)*(s1*M - (i*c'+j*c)):=by
      rw [e1]
      have:g*(b*e+(e*e - 4*(g*d1)*c') - 2*(e+2*d1*u - 2*(a1*d1)*M)*(g*s1))=4*(g*a1)*(g*d1)*(s1*M - (i*c'+j*c))+4*(g*g*d1)*(((i*c'+j*c)*a1 - u*s1) - c'):=by rw [eb];grind
      rw [this,k2];omega
    rw [this]
    refine Int.mul_fdiv_cancel_left _ ?_
    have:=Int.mul_ne_zero (Int.mul_ne_zero g0 a0) (Int.mul_ne_zero g0 d0)
    have:4*(g*a1)*(g*d1)=4*(g*a1*(g*d1)):=by grind
    omega
  rw [q1,q2,q3]
  have eB:e+2*d1*u - 2*(a1*d1)*M=g*s1 - (a1*M - u)*d1 - (d1*M - v)*a1:=by
    have:e+2*d1*u - 2*(a1*d1)*M=g*s1 - (a1*M - u)*d1 - (d1*M - v)*a1+((u*d1 - v*a1) - (g*s1 - e)):=by grind
    rw [this,uv];omega
  have hA:FA (g,a1*M - u,d1*M - v,s1*M - (i*c'+j*c)) (0,a1,d1,s1)=(g*a1,b,c):=by
    simp only [FA,Prod.mk.injEq]
    refine ⟨by omega,?_,?_⟩
    · rw [eb]
      have:g*s1 - (s1*M - (i*c'+j*c))*0+(d1*M - v)*a1 - (a1*M - u)*d1=g*s1+(u*d1 - v*a1):=by grind
      rw [this,uv];omega
    · have:(d1*M - v)*s1 - (s1*M - (i*c'+j*c))*d1=(i*c'+j*c)*d1 - v*s1:=by grind
      rw [this,k1]
  have hBf:FB (g,a1*M - u,d1*M - v,s1*M - (i*c'+j*c)) (0,a1,d1,s1)=(g*d1,e,c'):=by
    simp only [FB,Prod.mk.injEq]
    refine ⟨by omega,?_,?_⟩
    · have:g*s1 - (s1*M - (i*c'+j*c))*0+(a1*M - u)*d1 - (d1*M - v)*a1=g*s1 - (u*d1 - v*a1):=by grind
      rw [this,uv];omega
    · have:(a1*M - u)*s1 - (s1*M - (i*c'+j*c))*a1=(i*c'+j*c)*a1 - u*s1:=by grind
      rw [this,k2]
  refine ⟨hA,hBf,?_⟩
  have hC:=(Comp.meas ⟨_,_,hA,hBf,rfl⟩).2
  have e1:(FC (g,a1*M - u,d1*M - v,s1*M - (i*c'+j*c)) (0,a1,d1,s1)).1=a1*d1:=by simp only [FC];omega
  have e2:(FC (g,a1*M - u,d1*M - v,s1*M - (i*c'+j*c)) (0,a1,d1,s1)).2.1=e+2*d1*u - 2*(a1*d1)*M:=by rw [eB];simp only [FC];omega
  refine VN e1 e2 ?_
  generalize FC (g,a1*M - u,d1*M - v,s1*M - (i*c'+j*c)) (0,a1,d1,s1)=Z at *
  obtain ⟨z1,z2,z3⟩:=Z
  have e1:z1=a1*d1:=e1
  have e2:z2=e+2*d1*u - 2*(a1*d1)*M:=e2
  have hC:z2*z2 - 4*z1*z3=meas (g*d1,e,c'):=hC
  show z3=_
  rw [←e2,←e1]
  have:z2*z2 - meas (g*a1,b,c)=4*z1*z3:=by rw [hm];omega
  rw [this]
  exact (Int.mul_fdiv_cancel_left _ (by rw [e1];omega)).symm
end My
namespace My
open PySem L2
theorem Z5 {p q:I4} (x y z w:Int):val (FC p q) (p.1*(x*z)+p.2.1*(x*w)+p.2.2.1*(y*z)+p.2.2.2*(y*w),q.1*(x*z)+q.2.1*(x*w)+q.2.2.1*(y*z)+q.2.2.2*(y*w))=val (FA p q) (x,y)*val (FB p q) (z,w):=by
  obtain ⟨p0,p1,p2,p3⟩:=p;obtain ⟨q0,q1,q2,q3⟩:=q
  simp only [FA,FB,FC,val]
  grind
theorem AcQ {c:Int} {F:I3} (h1:c∣F.1) (h2:c∣F.2.1) (h3:c∣F.2.2) (v:I2):c∣val F v:=by
  obtain ⟨a,ha⟩:=h1
  obtain ⟨b,hb⟩:=h2
  obtain ⟨d,hd⟩:=h3
  refine ⟨a*v.1*v.1+b*v.1*v.2+d*v.2*v.2,?_⟩
  show F.1*v.1*v.1+F.2.1*v.1*v.2+F.2.2*v.2*v.2=_
  rw [ha,hb,hd]
  grind
theorem Comp.plain {f g F:I3} (C:Comp f g F) (pf:g3 f=1) (pg:g3 g=1):g3 F=1:=by
  obtain ⟨p,q,hf,hg,hF⟩:=C
  obtain ⟨d1,d2,d3⟩:=V5 F
  have D:∀ x y z w:Int,(g3 F:Int)∣val f (x,y)*val g (z,w):=fun x y z w=>by
    rw [←hf,←hg,←Z5 x y z w,hF]
    exact AcQ d1 d2 d3 _
  obtain ⟨i,j,k,e1⟩:=Wo pf
  obtain ⟨l,m,n,e2⟩:=Wo pg
  have v1:val f (1,0)=f.1:=by simp [val]
  have v2:val f (0,1)=f.2.2:=by simp [val]
  have v3:val f (1,1)=f.1+f.2.1+f.2.2:=by simp [val]
  have w1:val g (1,0)=g.1:=by simp [val]
  have w2:val g (0,1)=g.2.2:=by simp [val]
  have w3:val g (1,1)=g.1+g.2.1+g.2.2:=by simp [val]
  have one:(g3 F:Int)∣1:=by
    have E:∀ z w:Int,(g3 F:Int)∣val g (z,w):=fun z w=>by
      have a1:=D 1 0 z w
      have a2:=D 0 1 z w
      have a3:=D 1 1 z w
      rw [v1] at a1;rw [v2] at a2;rw [v3] at a3
      obtain ⟨b1,h1⟩:=a1
      obtain ⟨b2,h2⟩:=a2
      obtain ⟨b3,h3⟩:=a3
      refine ⟨i*b1+j*(b3 - b1 - b2)+k*b2,?_⟩
      have:val g (z,w)=(i*f.1+j*f.2.1+k*f.2.2)*val g (z,w):=by rw [e1];omega
      rw [this]
      generalize val g (z,w)=V at *
      have:(i*f.1+j*f.2.1+k*f.2.2)*V=i*(f.1*V)+j*((f.1+f.2.1+f.2.2)*V - f.1*V - f.2.2*V)+k*(f.2.2*V):=by grind
      rw [this,h1,h2,h3]
      grind
    have a1:=E 1 0
    have a2:=E 0 1
    have a3:=E 1 1
    rw [w1] at a1;rw [w2] at a2;rw [w3] at a3
    obtain ⟨b1,h1⟩:=a1
    obtain ⟨b2,h2⟩:=a2
    obtain ⟨b3,h3⟩:=a3
    refine ⟨l*b1+m*(b3 - b1 - b2)+n*b2,?_⟩
    rw [←e2]
    have:l*g.1+m*g.2.1+n*g.2.2=l*g.1+m*((g.1+g.2.1+g.2.2) - g.1 - g.2.2)+n*g.2.2:=by grind
    rw [this,h3,h1,h2]
    grind
  have:=Int.eq_one_of_dvd_one (by omega) one
  omega
end My
namespace My
open PySem L2
noncomputable def lt3 (f g:I3):Prop:=f.1 < g.1∨(f.1=g.1∧(f.2.1 < g.2.1∨(f.2.1=g.2.1∧f.2.2 < g.2.2)))
noncomputable def rw3 (f:I3):List Int:=[f.1,f.2.1,f.2.2]
theorem Ac2 {f g:I3} (h:rw3 f=rw3 g):f=g:=by
  obtain ⟨a,b,c⟩:=f
  obtain ⟨x,y,z⟩:=g
  simp only [rw3,List.cons.injEq,and_true] at h
  obtain ⟨rfl,rfl,rfl⟩:=h
  rfl
theorem RZ {f:I3}:¬ lt3 f f:=by unfold lt3;omega
theorem Zh {f g h:I3} (a:lt3 f g) (b:lt3 g h):lt3 f h:=by unfold lt3 at *;omega
theorem Xm (f g:I3):lt3 f g∨f=g∨lt3 g f:=by
  obtain ⟨a,b,c⟩:=f
  obtain ⟨x,y,z⟩:=g
  unfold lt3
  simp only [Prod.mk.injEq]
  omega
noncomputable def Srt (fs:List I3):Prop:=fs.Pairwise lt3
noncomputable def Rl (far:Int) (f g:I3):Prop:=∃ m,rF far m f=g
theorem Rl.trans {far:Int} {f g h:I3} (a:Rl far f g) (b:Rl far g h):Rl far f h:=by
  obtain ⟨m,rfl⟩:=a
  obtain ⟨n,rfl⟩:=b
  exact ⟨m+n,Cg m n f⟩
theorem Qd {far:Int} {g:I3} {N:Nat} (e:rF far N g=g):∀ q,rF far (N*q) g=g
  | 0=>rfl
  | q+1=>by rw [Nat.mul_succ,Cg,Qd e q,e]
theorem Aeo {far:Int} {g:I3} {N:Nat} (e:rF far N g=g) (n0:0 < N) (n:Nat):∃ i,i < N∧rF far n g=rF far i g:=by
  have h1:=Nat.mod_lt n n0
  have h2:=Nat.div_add_mod n N
  refine ⟨n % N,h1,?_⟩
  have:rF far (N*(n / N)+n % N) g=rF far (n % N) g:=by rw [Cg,Qd e]
  rw [h2] at this
  exact this
theorem Rl.symm {far:Int} {f g:I3} (h:Lv far f) (a:Rl far f g):Rl far g f:=by
  obtain ⟨N,n0,_,e,_⟩:=Ht h
  obtain ⟨m,rfl⟩:=a
  refine ⟨N*m - m,?_⟩
  rw [←Cg]
  have:m≤N*m:=Nat.le_mul_of_pos_left m n0
  rw [show m+(N*m - m)=N*m by omega,Qd e]
theorem Rl.lv {far:Int} {f g:I3} (h:Lv far f) (a:Rl far f g):Lv far g:=by
  obtain ⟨m,rfl⟩:=a
  exact Lv.rF m h
theorem Rl.meas {far:Int} {f g:I3} (a:Rl far f g):My.meas g=My.meas f:=by
  obtain ⟨m,rfl⟩:=a
  exact Io m f
theorem Rl.g3 {far:Int} {f g:I3} (a:Rl far f g):My.g3 g=My.g3 f:=by
  obtain ⟨m,rfl⟩:=a
  rw [←Ey,Qk (Mj m f)]
noncomputable def Tp (far:Int) (f:I3):Prop:=∀ g,Rl far f g→¬ lt3 g f
theorem Aic {far:Int} {f:I3} (h:Lv far f):∃ g,Tp far g∧Rl far f g:=by
  obtain ⟨N,n0,_,e,_⟩:=Ht h
  have key:∀ k,∃ i,∀ j,j≤k→¬ lt3 (rF far j f) (rF far i f):=fun k=>by
    induction k with
    | zero=>exact ⟨0,fun j hj=>by rw [show j=0 by omega];exact RZ⟩
    | succ k ih =>
      obtain ⟨i,hi⟩:=ih
      by_cases z:lt3 (rF far (k+1) f) (rF far i f)
      · refine ⟨k+1,fun j hj w=>?_⟩
        rcases Nat.lt_or_ge j (k+1) with y | y
        · exact hi j (by omega) (Zh w z)
        · rw [show j=k+1 by omega] at w
          exact RZ w
      · refine ⟨i,fun j hj w=>?_⟩
        rcases Nat.lt_or_ge j (k+1) with y | y
        · exact hi j (by omega) w
        · rw [show j=k+1 by omega] at w
          exact z w
  obtain ⟨i,hi⟩:=key N
  refine ⟨rF far i f,fun g hg=>?_,⟨i,rfl⟩⟩
  obtain ⟨m,rfl⟩:=(Rl.trans ⟨i,rfl⟩ hg:Rl far f g)
  obtain ⟨j,hj,ej⟩:=Aeo e n0 m
  rw [ej]
  exact hi j (by omega)
theorem AbF {far:Int} {f g:I3} (h:Lv far f) (a:Tp far f) (b:Tp far g) (r:Rl far f g):f=g:=by
  rcases Xm f g with z | z | z
  · exact absurd z (b f (r.symm h))
  · exact z
  · exact absurd z (a g r)
structure PIn (far:Int) (fs:List I3) (k:Nat) (fnd:List I3) (ks:List (List Int)):Prop where
  srt:Srt fnd
  mem:∀ f,f∈fnd↔f∈fs.take k∧Lv far f∧Tp far f
  seen:∀ x:I3,rw3 x∈ks↔∃ g∈fnd,Rl far g x
theorem PL {α:Type} {fs:List α} {k:Nat} {f:α} (h:fs[k]? = some f):fs.take (k+1)=fs.take k ++ [f]:=by
  rw [List.take_add_one,h]
  rfl
theorem PIn.start {far:Int} {fs:List I3}:PIn far fs 0 [] [] where
  srt:=List.Pairwise.nil
  mem:=fun f=>by simp
  seen:=fun x=>by simp
theorem PIn.no {far:Int} {fs fnd:List I3} {k:Nat} {ks:List (List Int)} {f:I3} (I:PIn far fs k fnd ks) (hf:fs[k]? = some f) (h:¬ Lv far f∨rw3 f∈ks):PIn far fs (k+1) fnd ks where
  srt:=I.srt
  mem:=fun x=>by
    rw [PL hf,I.mem x,List.mem_append,List.mem_singleton]
    refine ⟨fun z=>⟨.inl z.1,z.2⟩,fun ⟨z,l,t⟩=>?_⟩
    rcases z with z | rfl
    · exact ⟨z,l,t⟩
    · rcases h with h | h
      · exact absurd l h
      · obtain ⟨g,hg,r⟩:=(I.seen x).mp h
        obtain ⟨g1,g2,g3⟩:=(I.mem g).mp hg
        rw [←AbF g2 g3 t r]
        exact ⟨g1,g2,g3⟩
  seen:=I.seen
theorem PIn.yes {far:Int} {fs fnd:List I3} {k:Nat} {ks ks':List (List Int)} {f:I3} (wk:Srt fs) (cl:∀ f∈fs,Lv far f→∀ g,Rl far f g→g∈fs) (I:PIn far fs k fnd ks) (hf:fs[k]? = some f) (L:Lv far f) (n:rw3 f∉ks)
    (hk:∀ x,rw3 x∈ks'↔rw3 x∈ks∨Rl far f x):PIn far fs (k+1) (fnd ++ [f]) ks':=by
  have hm:=List.mem_of_getElem? hf
  have sp:fs=fs.take k ++ f :: fs.drop (k+1):=by
    obtain ⟨hl,e⟩:=List.getElem?_eq_some_iff.mp hf
    rw [←e,List.getElem_cons_drop hl,List.take_append_drop]
  have wk':=wk
  unfold Srt at wk'
  rw [sp] at wk'
  obtain ⟨_,w2,w3⟩:=List.pairwise_append.mp wk'
  have before:∀ g∈fs,lt3 g f→g∈fs.take k:=fun g hg l=>by
    rw [sp] at hg
    rcases List.mem_append.mp hg with z | z
    · exact z
    · rcases List.mem_cons.mp z with rfl | z
      · exact absurd l RZ
      · exact absurd (Zh l ((List.pairwise_cons.mp w2).1 g z)) RZ
  have tp:Tp far f:=by
    obtain ⟨g,tg,r⟩:=Aic L
    rcases Xm g f with z | z | z
    · have hg:=before g (cl f hm L g r) z
      have lg:=r.lv L
      have:g∈fnd:=(I.mem g).mpr ⟨hg,lg,tg⟩
      exact absurd ((I.seen f).mpr ⟨g,this,r.symm L⟩) n
    · rw [←z];exact tg
    · exact absurd z (tg f (r.symm L))
  refine ⟨List.pairwise_append.mpr ⟨I.srt,List.pairwise_singleton _ _,fun g hg x hx=>?_⟩,fun x=>?_,fun x=>?_⟩
  · rw [List.mem_singleton.mp hx]
    exact w3 g ((I.mem g).mp hg).1 f List.mem_cons_self
  · rw [List.mem_append,List.mem_singleton,PL hf,List.mem_append,List.mem_singleton,I.mem x]
    refine ⟨fun z=>?_,fun ⟨z,l,t⟩=>?_⟩
    · rcases z with z | rfl
      · exact ⟨.inl z.1,z.2⟩
      · exact ⟨.inr rfl,L,tp⟩
    · rcases z with z | z
      · exact .inl ⟨z,l,t⟩
      · exact .inr z
  · rw [hk x,I.seen x]
    refine ⟨fun z=>?_,fun ⟨g,hg,r⟩=>?_⟩
    · rcases z with ⟨g,hg,r⟩ | r
      · exact ⟨g,List.mem_append_left _ hg,r⟩
      · exact ⟨f,List.mem_append_right _ (List.mem_singleton.mpr rfl),r⟩
    · rcases List.mem_append.mp hg with hg | hg
      · exact .inl ⟨g,hg,r⟩
      · rw [List.mem_singleton.mp hg] at r
        exact .inr r
noncomputable def PF (n most:Int) (f:I3):Prop:=f.1≠0∧(-most≤f.1∧f.1≤most)∧(-most≤f.2.1∧f.2.1≤most)∧meas f=n∧g3 f=1
theorem Vo {far:Int} {f:I3} (h:Level f far):(-far≤f.1∧f.1≤far)∧(-far≤f.2.1∧f.2.1≤far):=by
  obtain ⟨⟨h1,h2⟩,h3,h4⟩:=h
  split at h4 <;> omega
theorem ZW {n far:Int} {fs:List I3} (mem:∀ f,f∈fs↔PF n far f):∀ f∈fs,Lv far f→∀ g,Rl far f g→g∈fs:=fun f hf L g r=>by
  have P:=(mem f).mp hf
  have lg:=r.lv L
  have ⟨i1,i2⟩:=Vo lg.L
  exact (mem g).mpr ⟨Rg lg.S,i1,i2,by rw [r.meas];exact P.2.2.2.1,by rw [r.g3];exact P.2.2.2.2⟩
theorem Zx {far:Int} {f:I3} {t0:I4} {N k:Nat} (L:Lv far f) (d:det t0=1) (v:Lv far (mov f t0)) (e:rF far N (mov f t0)=mov f t0) (n0:0 < N) (x:I3):(∃ i,i < N∧rF far i (rF far k (mov f t0))=x)↔Rl far f x:=by
  have r0:Rl far f (mov f t0):=by
    rcases K6 L v d rfl with ⟨m,s⟩ | ⟨m,s⟩
    · exact ⟨m,by rw [←Ey,←s.mov]⟩
    · have e2:rF far m (mov f t0)=f:=by rw [←Ey,←s.mov,Bq d]
      exact Rl.symm v ⟨m,e2⟩
  have rz:Rl far f (rF far k (mov f t0)):=r0.trans ⟨k,rfl⟩
  have ez:rF far N (rF far k (mov f t0))=rF far k (mov f t0):=by rw [←Cg,Nat.add_comm,Cg,e]
  constructor
  · rintro ⟨i,_,rfl⟩
    exact rz.trans ⟨i,rfl⟩
  · intro r
    obtain ⟨m,rfl⟩:=(rz.symm L).trans r
    obtain ⟨i,hi,ei⟩:=Aeo ez n0 m
    exact ⟨i,hi,ei.symm⟩
theorem Qc {k x:List Int} {ks:List (List Int)}:x∈Ju k ks↔x∈ks∨x=k:=by
  unfold Ju
  split
  · rename_i h
    refine ⟨.inl,fun z=>?_⟩
    rcases z with z | rfl
    · exact z
    · exact h
  · rw [List.mem_append,List.mem_singleton]
structure NdF (fs:List I3) (ks:List (List Int)):Prop where
  nd:ks.Nodup
  mem:∀ r∈ks,r∈fs.map rw3
theorem NdF.put {fs:List I3} {ks:List (List Int)} {f:I3} (h:NdF fs ks) (hf:f∈fs):NdF fs (Ju (rw3 f) ks):=by
  refine ⟨?_,fun r hr=>?_⟩
  · unfold Ju
    split
    · exact h.nd
    · rename_i z
      exact List.nodup_append.mpr ⟨h.nd,List.pairwise_singleton _ _,fun a ha b hb e=>z (by rw [←List.mem_singleton.mp hb,←e];exact ha)⟩
  · rcases Qc.mp hr with z | rfl
    · exact h.mem r z
    · exact List.mem_map.mpr ⟨f,hf,rfl⟩
theorem Vd {α:Type} [DecidableEq α]:∀ {ks ls:List α},ks.Nodup→(∀ r∈ks,r∈ls)→ks.length≤ls.length
  | [],_,_,_=>Nat.zero_le _
  | k :: ks,ls,h,m=>by
    obtain ⟨h1,h2⟩:=List.nodup_cons.mp h
    have hk:=m k List.mem_cons_self
    have:=Vd (ls:=ls.erase k) h2 fun r hr=>(List.mem_erase_of_ne fun e=>h1 (by rw [←e];exact hr)).mpr (m r (List.mem_cons_of_mem _ hr))
    rw [List.length_erase_of_mem hk] at this
    have:=List.length_pos_of_mem hk
    rw [List.length_cons]
    omega
theorem NdF.len {fs:List I3} {ks:List (List Int)} (h:NdF fs ks):ks.length≤fs.length:=by
  have:=Vd h.nd h.mem
  rw [List.length_map] at this
  exact this
theorem NdF.nil {fs:List I3}:NdF fs []:=⟨List.nodup_nil,fun r hr=>(nomatch hr)⟩
end My
namespace My
open PySem L2
local macro_rules | `(tactic| walk_at "sc") => `(tactic| (exact ⟨rfl, rfl, rfl, by decide +kernel, rfl, by decide +kernel, by decide +kernel⟩))
local macro_rules | `(tactic| walk_at "lE") => `(tactic| (exact fun ds Q ⟨p, e, _⟩ => by rw [e]; rfl))
local macro_rules | `(tactic| walk_at "b1") => `(tactic| (intro _ _ _ _ _ _ us hl; exact match us, hl with | [_], _ => rfl))
local macro_rules | `(tactic| walk_at "b2") => `(tactic| (intro _ _ _ _ _ _ us hl; exact match us, hl with | [_, _], _ => rfl))
local macro_rules | `(tactic| walk_at "b3") => `(tactic| (intro _ _ _ _ _ _ us hl; exact match us, hl with | [_, _, _], _ => rfl))
local macro_rules | `(tactic| walk_at "b4") => `(tactic| (intro _ _ _ _ _ _ us hl; exact match us, hl with | [_, _, _, _], _ => rfl))
local macro_rules | `(tactic| walk_at "rd1") => `(tactic| dsimp only [Ah0, AjB, AjL, AeC, dIf, Abl, AdM, AeN, Wb, Ye, AiH, Yh, Yi, Tg, AdY, Ahw, AiN, dIn, dOp, dUn, AcH, dC, dIx, Ak3, AkT, Akw, AkV, AlQ, Alw, AkI, AkG, Aj5, AhQ, Aka, Ajl, Ah7, Aml, AhD, Alv, dI, dI0, dB0, dLt, dLe, dGt, dGe, dEq, dNe, dIs, Aht, Ajh, dOr, AbY, Mw, Aef, AeL, AjK, AlI, Aca, Ad9, dTup, Aje, dCall, dCB, Abn, AaU, ZJ, Amh, AhT, AgV, Aai, Xo, Aeg, Pn, X8, LQ, inner, AdQ, Ad0, Agd, Abp, Agb, AdK, dOf, AhL, Xj, AdS, AfX, AgA, AfH, Ai8, AkA, Af2, Ai1, AiC, Af5, Ae0, Ak2, Abv, Ald, AgW, AmP, AgH, AjZ, AhB, Ak1, AiR, Aea, Aj2, AhO, ownAt, Ais, AeM, Afg, AfF, AeO, Ae5, Z8, Ov, Aem, AlY, Aaw, Te, Ahn, Xl, XR, Aen, tabOf,
  List.length_cons,List.length_nil,List.getElem?_cons_zero,List.getElem?_cons_succ,List.set_cons_zero,List.set_cons_succ,Nat.reduceAdd,List.map_cons,List.map_nil,Option.join_some])
local macro_rules | `(tactic| walk_at "rd2") => `(tactic| simp only [AjN, AiM, AjS, AhY, Aft, AgG, AgR, AiT, Ai3, Akc, Ajn, Amw, AlJ, Al8, AkU, AlP, AlU, Agu, Agr, Age, Agx, AfC, Agc, Af4, Afv, AfI, Agj, OD, Ahx, Ul, Ahi, Aii, Ai4, Aix, Aau, Ajz, AaN, ZV, Ae4, Agf, Kl, Agl, Agy, Xy, AdG, AcM, Aci, Ach, Xr, Xn, if_true, if_false, Bool.and_true, Bool.true_and, Bool.false_and, Bool.and_false, Bool.not_true, Bool.not_false, Bool.false_eq_true, true_and, and_true, ite_true, ite_false, List.length_map])
local macro_rules | `(tactic| walk_at "rd") => `(tactic| ((try walk_at "rd1"); (try walk_at "rd2")))
local macro_rules | `(tactic| walk_at "go") => `(tactic| ((try simp only [PN, Qp, Py]); walk_at "rd"))
local macro_rules | `(tactic| walk_at "bts") => `(tactic| first | assumption | (with_reducible apply Bt.mul <;> walk_at "bts") | (with_reducible apply Bt.add <;> walk_at "bts") | (with_reducible apply Bt.sub <;> walk_at "bts") | (with_reducible apply Bt.neg <;> walk_at "bts") | exact Bt.of_abs (n := 1) (by decide) | exact Bt.of_abs (n := 8) (by decide) | exact Bt.of_abs (n := 400) (by decide))
local macro_rules | `(tactic| walk_at "bt") => `(tactic| exact Bt.le (by walk_at "bts") (by decide))
local macro_rules | `(tactic| walk_at "mul") => `(tactic| exact Bt.mulOk (by walk_at "bts") (by walk_at "bts") (by decide) (by decide))
local macro_rules | `(tactic| walk_at "muls") => `(tactic| repeat (refine ⟨by first | walk_at "mul" | exact Az (by decide) | decide | exact ⟨by decide, by decide⟩, ?_⟩))
noncomputable def top (i:Nat):Stmt:=PySem.Challenge.pw_formcycle_k74_whole_classes.main.body.getD i (.Pass ⟨0,0,0,0⟩)
noncomputable abbrev GZ:Stmt:=top 11
theorem IV:Am ["one","other","rest"] ["one","other"] (Ai GZ):=by walk_at "sc"
noncomputable abbrev Ig:Stmt:=top 12
theorem GP:Am ["one","other","row","lower","rest"] ["one","other"] (Ai Ig):=by walk_at "sc"
noncomputable abbrev Gd:Stmt:=top 13
theorem Vs:Am ["row","lower","often"] ["row","lower","often"] (Ai Gd):=by walk_at "sc"
noncomputable abbrev HB:Stmt:=top 14
theorem K5:Am ["number","guess","better"] ["number"] (Ai HB):=by walk_at "sc"
noncomputable abbrev DX:Stmt:=top 15
theorem Ls:Am ["number","side"] ["number"] (Ai DX):=by walk_at "sc"
noncomputable abbrev CN:Stmt:=top 16
theorem Ms:Am ["number","most"] ["number","most"] (Ai CN):=by walk_at "sc"
noncomputable abbrev Dm:Stmt:=top 17
theorem Nt:Am ["number","most"] ["number","most"] (Ai Dm):=by walk_at "sc"
noncomputable abbrev G5:Stmt:=top 20
theorem VB:Am ["turn"] ["turn"] (Ai G5):=by walk_at "sc"
noncomputable abbrev CW:Stmt:=top 21
theorem QT:Am ["turn"] ["turn"] (Ai CW):=by walk_at "sc"
noncomputable abbrev Ru:Stmt:=top 22
theorem AfB:Am ["turn","point"] ["turn","point"] (Ai Ru):=by walk_at "sc"
noncomputable abbrev Dc:Stmt:=top 23
theorem QK:Am ["one","other"] ["one","other"] (Ai Dc):=by walk_at "sc"
noncomputable abbrev Kq:Stmt:=top 24
theorem Aco:Am ["turn"] ["turn"] (Ai Kq):=by walk_at "sc"
noncomputable abbrev CJ:Stmt:=top 26
theorem VL:Am ["form"] ["form"] (Ai CJ):=by walk_at "sc"
noncomputable abbrev Jx:Stmt:=top 27
theorem P0:Am ["form","point","x","y"] ["form","point"] (Ai Jx):=by walk_at "sc"
noncomputable abbrev FQ:Stmt:=top 28
theorem Ws:Am ["form"] ["form"] (Ai FQ):=by walk_at "sc"
noncomputable abbrev Jc:Stmt:=top 29
theorem Qe:Am ["form","turn","left","right"] ["form","turn"] (Ai Jc):=by walk_at "sc"
noncomputable abbrev Ik:Stmt:=top 30
theorem QX:Am ["form","left","right","crossed"] ["form","left","right"] (Ai Ik):=by walk_at "sc"
noncomputable abbrev Hs:Stmt:=top 31
theorem Va:Am ["form","number"] ["form"] (Ai Hs):=by walk_at "sc"
noncomputable abbrev Eh:Stmt:=top 33
theorem QB:Am ["form"] ["form"] (Ai Eh):=by walk_at "sc"
noncomputable abbrev Cu:Stmt:=top 34
theorem Ew:Am ["form","a","b","c"] ["form"] (Ai Cu):=by walk_at "sc"
noncomputable abbrev GX:Stmt:=top 35
theorem G8:Am ["form","turn","lowering"] ["form"] (Ai GX):=by walk_at "sc"
noncomputable abbrev El:Stmt:=top 36
theorem Ka:Am ["form","often"] ["form"] (Ai El):=by walk_at "sc"
noncomputable abbrev Ce:Stmt:=top 39
theorem Np:Am ["form"] ["form"] (Ai Ce):=by walk_at "sc"
noncomputable abbrev Cw:Stmt:=top 40
theorem Jh:Am ["form","far","b"] ["form","far"] (Ai Cw):=by walk_at "sc"
noncomputable abbrev Dw:Stmt:=top 41
theorem Fw:Am ["form","top","b","c","d"] ["form","top"] (Ai Dw):=by walk_at "sc"
noncomputable abbrev Dh:Stmt:=top 42
theorem Jt:Am ["stop","top","turn"] ["stop","top"] (Ai Dh):=by walk_at "sc"
noncomputable abbrev JQ:Stmt:=top 43
theorem LK:Am ["form","far","stop"] ["form"] (Ai JQ):=by walk_at "sc"
noncomputable abbrev Dg:Stmt:=top 44
theorem Dl:Am ["form","far","first","stops","stop"] ["form"] (Ai Dg):=by walk_at "sc"
noncomputable abbrev Fb:Stmt:=top 45
theorem Jk:Am ["form","forms","place"] ["form"] (Ai Fb):=by walk_at "sc"
noncomputable abbrev GQ:Stmt:=top 46
theorem WM:Am ["form"] ["form"] (Ai GQ):=by walk_at "sc"
noncomputable abbrev Ds:Stmt:=top 51
theorem Uh:Am ["form"] ["form"] (Ai Ds):=by walk_at "sc"
noncomputable abbrev Dz:Stmt:=top 52
theorem Ou:Am ["one","other"] ["one","other"] (Ai Dz):=by walk_at "sc"
noncomputable abbrev Gb:Stmt:=top 53
theorem Vt:Am ["form"] ["form"] (Ai Gb):=by walk_at "sc"
noncomputable abbrev JW:Stmt:=top 54
theorem O8:Am ["one","other","first","second"] ["one","other"] (Ai JW):=by walk_at "sc"
noncomputable abbrev G7:Stmt:=top 56
theorem IK:Am ["one","other","common","form","lowest"] ["one","other"] (Ai G7):=by walk_at "sc"
noncomputable abbrev Ej:Stmt:=top 57
theorem Hw:Am ["one","other","first","second"] ["one","other"] (Ai Ej):=by walk_at "sc"
noncomputable abbrev Dy:Stmt:=top 58
theorem Qm:Am ["form"] ["form"] (Ai Dy):=by walk_at "sc"
noncomputable abbrev Bs:Stmt:=top 59
theorem Kz:Am ["one","other"] ["one","other"] (Ai Bs):=by walk_at "sc"
noncomputable abbrev CT:Stmt:=top 60
theorem Ga:Am ["one","other","firsts","whole"] ["one","other"] (Ai CT):=by walk_at "sc"
noncomputable abbrev Em:Stmt:=top 61
theorem Dj:Am ["one","other","common","g","d","e","first","more","middle"] ["one","other","common"] (Ai Em):=by walk_at "sc"
noncomputable abbrev Ec:Stmt:=top 62
theorem Cq:Am ["one","other","g","middle","a","b","d","e","s","last","upper"] ["one","other","g","middle"] (Ai Ec):=by walk_at "sc"
noncomputable abbrev Dr:Stmt:=top 63
theorem M8:Am ["turn","rows","pairs"] ["turn","rows"] (Ai Dr):=by walk_at "sc"
noncomputable abbrev CP:Stmt:=top 65
theorem Mt:Am ["number"] ["number"] (Ai CP):=by walk_at "sc"
noncomputable abbrev GR:Stmt:=top 66
theorem Wg:Am ["number"] ["number"] (Ai GR):=by walk_at "sc"
noncomputable abbrev Df:Stmt:=top 67
theorem Od:Am ["number"] ["number"] (Ai Df):=by walk_at "sc"
noncomputable abbrev CG:Stmt:=top 68
theorem Cr:Am ["number","far","found","seen","form","other"] ["number"] (Ai CG):=by walk_at "sc"
noncomputable abbrev Cp:Stmt:=top 69
theorem Fv:Am ["number","most","found","a","b"] ["number","most"] (Ai Cp):=by walk_at "sc"
noncomputable abbrev DR:Stmt:=top 71
theorem RT:Am ["_law_script","_law_k"] ["_law_script","_law_k"] (Ai DR):=by walk_at "sc"
noncomputable abbrev Ei:Stmt:=top 72
theorem Qx:Am ["_law_found"] ["_law_found"] (Ai Ei):=by walk_at "sc"
noncomputable abbrev Di:Stmt:=top 73
theorem Pu:Am ["_law_found","_law_many"] ["_law_found","_law_many"] (Ai Di):=by walk_at "sc"
noncomputable abbrev Fd:Stmt:=top 74
theorem TV:Am ["_law_form_here"] ["_law_form_here"] (Ai Fd):=by walk_at "sc"
noncomputable abbrev Fi:Stmt:=top 75
theorem Iz:Am ["_law_number","_law_near"] ["_law_number"] (Ai Fi):=by walk_at "sc"
noncomputable abbrev Fj:Stmt:=top 76
theorem Il:Am ["_law_form_here","_law_bar_here","_law_far"] ["_law_form_here"] (Ai Fj):=by walk_at "sc"
noncomputable abbrev Fo:Stmt:=top 77
theorem KQ:Am ["_law_one","_law_other"] ["_law_one","_law_other"] (Ai Fo):=by walk_at "sc"
noncomputable abbrev Fg:Stmt:=top 78
theorem BP:Am ["_law_first","_law_cells","_law_p","_law_q","_law_r","_law_s","_law_cell_here","_law_k"] ["_law_first","_law_cells"] (Ai Fg):=by walk_at "sc"
noncomputable abbrev Eo:Stmt:=top 79
theorem Gh:Am ["_law_form_here","_law_x","_law_y","_law_a","_law_b","_law_c"] ["_law_form_here","_law_x","_law_y"] (Ai Eo):=by walk_at "sc"
noncomputable abbrev Dp:Stmt:=top 80
theorem Dk:Am ["_law_form_here","_law_turn_here","_law_p","_law_q","_law_r","_law_s","_law_left","_law_right"] ["_law_form_here","_law_turn_here"] (Ai Dp):=by walk_at "sc"
noncomputable abbrev Fl:Stmt:=top 81
theorem Ca:Am ["_law_script","_law_cell_here","_law_m","_law_b","_law_rest_here","_law_most","_law_bar_here","_law_c"] ["_law_script"] (Ai Fl):=by walk_at "sc"
noncomputable abbrev Ed:Stmt:=top 82
theorem QL:Am ["_law_way","_law_one","_law_other"] ["_law_way","_law_one","_law_other"] (Ai Ed):=by walk_at "sc"
noncomputable abbrev CK:Stmt:=top 83
theorem Mg:Am ["_law_form_here"] ["_law_form_here"] (Ai CK):=by walk_at "sc"
noncomputable abbrev K9:Stmt:=top 84
theorem Fe:Am ["_law_script","_law_near","_law_bar_here","_law_cells","_law_far","_law_row","_law_least","_law_one","_law_two","_law_beside","_law_other","_law_top","_law_way","_law_due","_law_turned"] ["_law_script"] (Ai K9):=by walk_at "sc"
noncomputable abbrev HW:Stmt:=inClass (top 48) 0
theorem Ys:Am ["self","form","lowest"] ["self","form","lowest"] (Ai HW):=by walk_at "sc"
noncomputable abbrev JR:Stmt:=inClass (top 49) 0
theorem Abq:Am ["self","form"] ["self","form"] (Ai JR):=by walk_at "sc"
noncomputable abbrev GK:Stmt:=inClass (top 50) 0
theorem Wu:Am ["self","form"] ["self","form"] (Ai GK):=by walk_at "sc"
noncomputable abbrev Ii:Stmt:=inClass (top 48) 1
theorem YF:Am ["self"] ["self"] (Ai Ii):=by walk_at "sc"
structure Txt (K:PySem.W.Frag) (mg:Str→Option Value):Prop where
  o_Bowl:∃ C f fd,MkC K mg "Bowl" ["form","measure","lowest"] C f∧Fun K "__init__" "Bowl.__init__" JR f fd∧Binds K fd ["self","form"] []
  ic_Bowl:IsC K "Bowl"
  na_Bowl_form:Qf K "Bowl" "form"
  na_Bowl_measure:Qf K "Bowl" "measure"
  na_Bowl_lowest:Qf K "Bowl" "lowest"
  o_Saddle:∃ C f fd,MkC K mg "Saddle" ["form","measure","lowest"] C f∧Fun K "__init__" "Saddle.__init__" GK f fd∧Binds K fd ["self","form"] []
  ic_Saddle:IsC K "Saddle"
  na_Saddle_form:Qf K "Saddle" "form"
  na_Saddle_measure:Qf K "Saddle" "measure"
  na_Saddle_lowest:Qf K "Saddle" "lowest"
  cm_Shape:∃ g fd,W8 K mg "Shape" "__init__" g∧Fun K "__init__" "Shape.__init__" HW g fd∧Binds K fd ["self","form","lowest"] []
  me_least:∃ g fd,(∀ c∈(["Bowl","Saddle"]:List Str),Xz K c "least" g)∧PySem.W.keepIn K (.ref g)=true∧Fun K "least" "Shape.least" Ii g fd∧Binds K fd ["self"] []
  t_divisor:∃ f fd,FnT K mg "divisor" GZ ["one","other"] f fd
  t_shares:∃ f fd,FnT K mg "shares" Ig ["one","other"] f fd
  t_row_less:∃ f fd,FnT K mg "row_less" Gd ["row","lower","often"] f fd
  t_root:∃ f fd,FnT K mg "root" HB ["number"] f fd
  t_is_square:∃ f fd,FnT K mg "is_square" DX ["number"] f fd
  t_check_at_most:∃ f fd,FnT K mg "check_at_most" CN ["number","most"] f fd
  t_check_within:∃ f fd,FnT K mg "check_within" Dm ["number","most"] f fd
  t_is_turn:∃ f fd,FnT K mg "is_turn" G5 ["turn"] f fd
  t_check_turn:∃ f fd,FnT K mg "check_turn" CW ["turn"] f fd
  t_led:∃ f fd,FnT K mg "led" Ru ["turn","point"] f fd
  t_put_behind:∃ f fd,FnT K mg "put_behind" Dc ["one","other"] f fd
  t_back:∃ f fd,FnT K mg "back" Kq ["turn"] f fd
  t_measure:∃ f fd,FnT K mg "measure" CJ ["form"] f fd
  t_value:∃ f fd,FnT K mg "value" Jx ["form","point"] f fd
  t_content:∃ f fd,FnT K mg "content" FQ ["form"] f fd
  t_moved:∃ f fd,FnT K mg "moved" Jc ["form","turn"] f fd
  t_middle:∃ f fd,FnT K mg "middle" Ik ["form","left","right"] f fd
  t_shape:∃ f fd,FnT K mg "shape" Hs ["form"] f fd
  t_check_bowl:∃ f fd,FnT K mg "check_bowl" Eh ["form"] f fd
  t_stands_least:∃ f fd,FnT K mg "stands_least" Cu ["form"] f fd
  t_settled:∃ f fd,FnT K mg "settled" GX ["form"] f fd
  t_turn_lower:∃ f fd,FnT K mg "turn_lower" El ["form"] f fd
  t_check_saddle:∃ f fd,FnT K mg "check_saddle" Ce ["form"] f fd
  t_stands_level:∃ f fd,FnT K mg "stands_level" Cw ["form","far"] f fd
  t_turn_behind:∃ f fd,FnT K mg "turn_behind" Dw ["form","top"] f fd
  t_stop_behind:∃ f fd,FnT K mg "stop_behind" Dh ["stop","top"] f fd
  t_eased:∃ f fd,FnT K mg "eased" JQ ["form"] f fd
  t_stops_round:∃ f fd,FnT K mg "stops_round" Dg ["form"] f fd
  t_round_of:∃ f fd,FnT K mg "round_of" Fb ["form"] f fd
  t_lowered:∃ f fd,FnT K mg "lowered" GQ ["form"] f fd
  t_shape_of:∃ f fd,FnT K mg "shape_of" Ds ["form"] f fd
  t_way_between:∃ f fd,FnT K mg "way_between" Dz ["one","other"] f fd
  t_least_of:∃ f fd,FnT K mg "least_of" Gb ["form"] f fd
  t_alike:∃ f fd,FnT K mg "alike" JW ["one","other"] f fd
  t_product:∃ f fd,FnT K mg "product" G7 ["one","other"] f fd
  t_check_pair:∃ f fd,FnT K mg "check_pair" Ej ["one","other"] f fd
  t_check_plain:∃ f fd,FnT K mg "check_plain" Dy ["form"] f fd
  t_half_of_middles:∃ f fd,FnT K mg "half_of_middles" Bs ["one","other"] f fd
  t_common_shares:∃ f fd,FnT K mg "common_shares" CT ["one","other"] f fd
  t_joint_form:∃ f fd,FnT K mg "joint_form" Em ["one","other","common"] f fd
  t_joint_rows:∃ f fd,FnT K mg "joint_rows" Ec ["one","other","g","middle"] f fd
  t_rows_led:∃ f fd,FnT K mg "rows_led" Dr ["turn","rows"] f fd
  t_check_measure:∃ f fd,FnT K mg "check_measure" CP ["number"] f fd
  t_classes:∃ f fd,FnT K mg "classes" GR ["number"] f fd
  t_least_bowls:∃ f fd,FnT K mg "least_bowls" Df ["number"] f fd
  t_least_saddles:∃ f fd,FnT K mg "least_saddles" CG ["number"] f fd
  t_plain_forms:∃ f fd,FnT K mg "plain_forms" Cp ["number","most"] f fd
  t__law_cell:∃ f fd,FnT K mg "_law_cell" DR ["_law_script","_law_k"] f fd
  t__law_whole:∃ f fd,FnT K mg "_law_whole" Ei ["_law_found"] f fd
  t__law_wholes:∃ f fd,FnT K mg "_law_wholes" Di ["_law_found","_law_many"] f fd
  t__law_bar:∃ f fd,FnT K mg "_law_bar" Fd ["_law_form_here"] f fd
  t__law_root:∃ f fd,FnT K mg "_law_root" Fi ["_law_number"] f fd
  t__law_flat:∃ f fd,FnT K mg "_law_flat" Fj ["_law_form_here"] f fd
  t__law_rest:∃ f fd,FnT K mg "_law_rest" Fo ["_law_one","_law_other"] f fd
  t__law_turn:∃ f fd,FnT K mg "_law_turn" Fg ["_law_first","_law_cells"] f fd
  t__law_value:∃ f fd,FnT K mg "_law_value" Eo ["_law_form_here","_law_x","_law_y"] f fd
  t__law_moved:∃ f fd,FnT K mg "_law_moved" Dp ["_law_form_here","_law_turn_here"] f fd
  t__law_form:∃ f fd,FnT K mg "_law_form" Fl ["_law_script"] f fd
  t__law_moves:∃ f fd,FnT K mg "_law_moves" Ed ["_law_way","_law_one","_law_other"] f fd
  t__law_opposite:∃ f fd,FnT K mg "_law_opposite" CK ["_law_form_here"] f fd
  t_law:∃ f fd,FnT K mg "law" K9 ["_law_script"] f fd
  m_MOST_MEASURE:∃ t,mg "MOST_MEASURE"=some (.int (4000) t)
  z_abs:mg "abs"=none
  z_bool:mg "bool"=none
  z_int:mg "int"=none
  z_isinstance:mg "isinstance"=none
  z_len:mg "len"=none
  z_max:mg "max"=none
  z_min:mg "min"=none
  z_range:mg "range"=none
  z_tuple:mg "tuple"=none
  z_zip:mg "zip"=none
  k_SAME:∃ a,mg "SAME"=some (.ref a)∧∀ H,Rp K H (.tup [.int (1),.int (0),.int (0),.int (1)]) (.ref a)
noncomputable abbrev Om:DSp:=BL (fun t:I4=>[t4 t]) (B4 300000) fun t=>.bl (decide (det t=1))
noncomputable abbrev Gf:DSp:=BL (fun t:I4=>[t4 t]) (fun t=>B4 300000 t∧det t=1) fun _=>.non
noncomputable abbrev Aaf:DSp:=BL (fun p:I4 × I2=>[t4 p.1,t2 p.2]) (fun p=>B4 300000 p.1∧det p.1=1∧B2 300000 p.2) fun p=>t2 (Hq p.1 p.2)
noncomputable abbrev Ge:DSp:=BL (fun p:I4 × I4=>[t4 p.1,t4 p.2]) (fun p=>B4 400000 p.1∧B4 400000 p.2) fun p=>t4 (Ao p.1 p.2)
noncomputable abbrev SQ:DSp:=BL (fun t:I4=>[t4 t]) (fun t=>B4 300000 t∧det t=1) fun t=>t4 (Ar t)
section
variable (P:Program) (w:World) {K:PySem.W.Frag} {mg:Str→Option Value} (base:Heap)
theorem Ww (T:Txt K mg)
    : Pm P w K mg base 1 "is_turn" G5 ["turn"] Om:=by
  obtain ⟨f,fd,F⟩:=T.t_is_turn
  refine ⟨f,fd,F,F.fn.okD VB (by walk_at "lE") fun cdv A outer s H E hr=>⟨_,(Ah (Aq (RD hr.units (BK (Al (Ac (dv 0) Ab) (Ac (dv 0) Ab)) (Al (Ac (dv 0) Ab) (Ac (dv 0) Ab))) Ab))),fun ds Q h=>?_⟩⟩
  obtain ⟨⟨a,b,c,d⟩,rfl,⟨ha,hb,hc,hd⟩,q⟩:=h
  walk_at "go"
  exact ⟨by walk_at "mul",by walk_at "mul",q _ rfl⟩
theorem QW (T:Txt K mg)
    (G_is_turn:Pm P w K mg base 1 "is_turn" G5 ["turn"] Om)
    : Pm P w K mg base 2 "check_turn" CW ["turn"] Gf:=by
  obtain ⟨f,fd,F⟩:=T.t_check_turn
  refine ⟨f,fd,F,F.fn.okD QT (by walk_at "lE") fun cdv A outer s H E hr=>⟨_,(Ah (Ci (Js (FZ (Ag Ae G_is_turn (hr.mono (by decide)) rfl (Aa (dv 0) Af)))) (Ah Fp) Bf)),fun ds Q h=>?_⟩⟩
  obtain ⟨t,rfl,⟨hb,hd⟩,q⟩:=h
  walk_at "go"
  refine Aj t hb ?_
  walk_at "rd"
  rw [decide_eq_true hd]
  exact q _ rfl
theorem Agn (T:Txt K mg)
    (G_check_turn:Pm P w K mg base 2 "check_turn" CW ["turn"] Gf)
    : Pm P w K mg base 3 "led" Ru ["turn","point"] Aaf:=by
  obtain ⟨f,fd,F⟩:=T.t_led
  refine ⟨f,fd,F,F.fn.okD AfB (by walk_at "lE") fun cdv A outer s H E hr=>⟨_,(Ad (Ek (Ag Ae G_check_turn (hr.mono (by decide)) rfl (Aa (dv 0) Af))) (Ah (Aq (Bo (Aa (Br (Al (Ac (dv 0) Ab) (Ac (dv 1) Ab)) (Al (Ac (dv 0) Ab) (Ac (dv 1) Ab))) (Aa (Br (Al (Ac (dv 0) Ab) (Ac (dv 1) Ab)) (Al (Ac (dv 0) Ab) (Ac (dv 1) Ab))) Af)))))),fun ds Q h=>?_⟩⟩
  obtain ⟨⟨⟨a,b,c,d⟩,x,y⟩,rfl,⟨hb,hd,hx,hy⟩,q⟩:=h
  walk_at "go"
  refine Aj (a,b,c,d) ⟨hb,hd⟩ ?_
  obtain ⟨ha,hb,hc,hd⟩:=hb
  exact ⟨by walk_at "mul",by walk_at "mul",by walk_at "mul",by walk_at "mul",Az (by decide),q _ rfl⟩
theorem QV (T:Txt K mg)
    : Pm P w K mg base 1 "put_behind" Dc ["one","other"] Ge:=by
  obtain ⟨f,fd,F⟩:=T.t_put_behind
  refine ⟨f,fd,F,F.fn.okD QK (by walk_at "lE") fun cdv A outer s H E hr=>⟨_,(Ah (Aq (Bo (Aa (Br (Al (Ac (dv 0) Ab) (Ac (dv 1) Ab)) (Al (Ac (dv 0) Ab) (Ac (dv 1) Ab))) (Aa (Br (Al (Ac (dv 0) Ab) (Ac (dv 1) Ab)) (Al (Ac (dv 0) Ab) (Ac (dv 1) Ab))) (Aa (Br (Al (Ac (dv 0) Ab) (Ac (dv 1) Ab)) (Al (Ac (dv 0) Ab) (Ac (dv 1) Ab))) (Aa (Br (Al (Ac (dv 0) Ab) (Ac (dv 1) Ab)) (Al (Ac (dv 0) Ab) (Ac (dv 1) Ab))) Af))))))),fun ds Q h=>?_⟩⟩
  obtain ⟨⟨⟨a,b,c,d⟩,e,f,g,i⟩,rfl,⟨⟨ha,hb,hc,hd⟩,he,hf,hg,hi⟩,q⟩:=h
  walk_at "go"
  exact ⟨by walk_at "mul",by walk_at "mul",by walk_at "mul",by walk_at "mul",by walk_at "mul",by walk_at "mul",by walk_at "mul",by walk_at "mul",Az (by decide),q _ rfl⟩
theorem Ab9 (T:Txt K mg)
    (G_check_turn:Pm P w K mg base 2 "check_turn" CW ["turn"] Gf)
    : Pm P w K mg base 3 "back" Kq ["turn"] SQ:=by
  obtain ⟨f,fd,F⟩:=T.t_back
  refine ⟨f,fd,F,F.fn.okD Aco (by walk_at "lE") fun cdv A outer s H E hr=>⟨_,(Ad (Ek (Ag Ae G_check_turn (hr.mono (by decide)) rfl (Aa (dv 0) Af))) (Ah (Aq (Bo (Aa (Ac (dv 0) Ab) (Aa (Gs (Ac (dv 0) Ab)) (Aa (Gs (Ac (dv 0) Ab)) (Aa (Ac (dv 0) Ab) Af)))))))),fun ds Q h=>?_⟩⟩
  obtain ⟨⟨a,b,c,d⟩,rfl,⟨hb,hd⟩,q⟩:=h
  walk_at "go"
  refine Aj (a,b,c,d) ⟨hb,hd⟩ ?_
  exact ⟨Az (by decide),q _ rfl⟩
theorem AbR (T:Txt K mg)
    : Pm P w K mg base 1 "root" HB ["number"] JV:=by
  obtain ⟨f,fd,F⟩:=T.t_root
  refine ⟨f,fd,F,F.fn.okD K5 (by walk_at "lE") fun cdv A outer s H E hr=>⟨_,(Ad (Ci (Rm (dv 0) Ab) (Ah Fp) Bf) (Ad (Ci (O3 hr.units (dv 0) Ab) (Ah (Aq Ab)) Bf) (Ad (Ak 1 K5.nd (ZS Ab (BJ (Br (W6 (dv 0)) Ab) Ab))) (Ad (Ak 2 K5.nd (BJ (Br (dv 1) (BJ (dv 0) (dv 1))) Ab)) (Ad (Gj PassesOwn.never (Rm (dv 2) (dv 1)) (Ad (Ak 1 K5.nd (dv 2)) (Ah (Ak 2 K5.nd (BJ (Br (dv 1) (BJ (dv 0) (dv 1))) Ab))))) (Ah (Aq (dv 1)))))))),fun ds Q h=>?_⟩⟩
  obtain ⟨n,rfl,⟨h0,hb⟩,q⟩:=h
  walk_at "go"
  refine Es (decide_eq_false (by omega)) ?_
  by_cases hz:n=0
  · subst hz
    exact ift rfl (q _ ⟨0,rfl,⟨by omega,by omega,by omega⟩,Bt.zero.le (by decide)⟩)
  refine Es (decide_eq_false hz) ?_
  obtain ⟨c1,c2,c3⟩:=Ng hb
  have hu:=Ug h0
  refine ⟨⟨by decide,by decide⟩,c1,?_⟩
  generalize (1*2 ^ ((((Builtin.Int.intBits n:Nat):Int)+1).fdiv 2).toNat:Int)=g at *
  refine ⟨Bt.divOk c2 (by omega),⟨by decide,by decide⟩,?_⟩
  rw [Tt c3]
  refine Gn (fun m ρ=>∃ g:Int,ρ=[some (.is (.int n)),some (.is (.int g)),some (.is (.int ((g+n / g) / 2)))]∧0 < g∧Bt 2001 g∧n < (g+1)*(g+1)∧m=g.toNat) _ ⟨g,rfl,c3,c2,hu,rfl⟩ ?_
  rintro m _ ⟨g,rfl,hg,hgb,hgu,rfl⟩
  walk_at "rd"
  refine NK (fun hw=>?_) (fun hw=>?_)
  · have hw:=of_decide_eq_true hw
    have hp:=VR (show 1≤n by omega) hg
    have hu':=Q8 h0 hg
    have hbb:Bt 2001 ((g+n / g) / 2):=by unfold Bt at *;omega
    generalize (g+n / g) / 2=b at *
    refine ⟨Bt.divOk hbb (by omega),⟨by decide,by decide⟩,?_⟩
    rw [Tt hp]
    exact ⟨_,by omega,b,rfl,hp,hbb,hu',rfl⟩
  · have hw:¬ (g+n / g) / 2 < g:=fun z=>hw (decide_eq_true z)
    exact q _ ⟨g,rfl,⟨by omega,WW hg (by omega),hgu⟩,hgb⟩
theorem Ss (T:Txt K mg)
    (G_root:Pm P w K mg base 1 "root" HB ["number"] JV)
    : Pm P w K mg base 2 "is_square" DX ["number"] Iu:=by
  obtain ⟨f,fd,F⟩:=T.t_is_square
  refine ⟨f,fd,F,F.fn.okD Ls (by walk_at "lE") fun cdv A outer s H E hr=>⟨_,(Ad (Ci (Rm (dv 0) Ab) (Ah (Aq J1)) Bf) (Ad (Ak 1 Ls.nd (Ag Ae G_root (hr.mono (by decide)) rfl (Aa (dv 0) Af))) (Ah (Aq (RD hr.units (Al (dv 1) (dv 1)) (dv 0)))))),fun ds Q h=>?_⟩⟩
  obtain ⟨n,rfl,hb,q⟩:=h
  walk_at "go"
  refine NK (fun hw=>?_) (fun hw=>?_)
  · have hw:=of_decide_eq_true hw
    exact q _ ⟨false,rfl,by simp [KY hw]⟩
  · have hw:¬ n < 0:=fun z=>hw (decide_eq_true z)
    refine Av n ⟨by omega,hb⟩ ?_
    rintro _ ⟨r,rfl,hs,hr'⟩
    walk_at "rd"
    refine ⟨by walk_at "mul",q _ ⟨_,rfl,?_⟩⟩
    rw [AaP hs];simp
noncomputable abbrev DY:DSp:=BL (fun f:I3=>[t3 f]) (B3 20000) fun f=>.int (meas f)
noncomputable abbrev Vn:DSp:=BL (fun p:I3 × I2=>[t3 p.1,t2 p.2]) (fun p=>B3 20000 p.1∧B2 300000 p.2) fun p=>.int (val p.1 p.2)
noncomputable abbrev Rr:DSp:=BL (fun p:I3 × I2 × I2=>[t3 p.1,t2 p.2.1,t2 p.2.2]) (fun p=>B3 20000 p.1∧B2 300000 p.2.1∧B2 300000 p.2.2) fun p=>.int (mid p.1 p.2.1 p.2.2)
noncomputable abbrev Pz:DSp:=BL (fun p:I3 × I4=>[t3 p.1,t4 p.2]) (fun p=>B3 20000 p.1∧B4 300000 p.2∧det p.2=1) fun p=>t3 (mov p.1 p.2)
theorem Wv (T:Txt K mg)
    : Pm P w K mg base 1 "measure" CJ ["form"] DY:=by
  obtain ⟨f,fd,F⟩:=T.t_measure
  refine ⟨f,fd,F,F.fn.okD VL (by walk_at "lE") fun cdv A outer s H E hr=>⟨_,(Ah (Aq (BK (Al (Ac (dv 0) Ab) (Ac (dv 0) Ab)) (Al (Al Ab (Ac (dv 0) Ab)) (Ac (dv 0) Ab))))),fun ds Q h=>?_⟩⟩
  obtain ⟨⟨a,b,c⟩,rfl,⟨ha,hb,hc⟩,q⟩:=h
  walk_at "go"
  have h2:Bt 3 4:=Bt.of_abs (by decide)
  exact ⟨by walk_at "mul",by walk_at "mul",by walk_at "mul",q _ rfl⟩
theorem Aaq (T:Txt K mg)
    : Pm P w K mg base 1 "value" Jx ["form","point"] Vn:=by
  obtain ⟨f,fd,F⟩:=T.t_value
  refine ⟨f,fd,F,F.fn.okD P0 (by walk_at "lE") fun cdv A outer s H E hr=>⟨_,(Ad (Ak 2 P0.nd (Ac (dv 1) Ab)) (Ad (Ak 3 P0.nd (Ac (dv 1) Ab)) (Ah (Aq (Br (Br (Al (Al (Ac (dv 0) Ab) (dv 2)) (dv 2)) (Al (Al (Ac (dv 0) Ab) (dv 2)) (dv 3))) (Al (Al (Ac (dv 0) Ab) (dv 3)) (dv 3))))))),fun ds Q h=>?_⟩⟩
  obtain ⟨⟨⟨a,b,c⟩,x,y⟩,rfl,⟨⟨ha,hb,hc⟩,hx,hy⟩,q⟩:=h
  walk_at "go"
  exact ⟨by walk_at "mul",by walk_at "mul",by walk_at "mul",by walk_at "mul",by walk_at "mul",by walk_at "mul",q _ rfl⟩
theorem Y4 (T:Txt K mg)
    : Pm P w K mg base 1 "middle" Ik ["form","left","right"] Rr:=by
  obtain ⟨f,fd,F⟩:=T.t_middle
  refine ⟨f,fd,F,F.fn.okD QX (by walk_at "lE") fun cdv A outer s H E hr=>⟨_,(Ad (Ak 3 QX.nd (Br (Al (Ac (dv 1) Ab) (Ac (dv 2) Ab)) (Al (Ac (dv 2) Ab) (Ac (dv 1) Ab)))) (Ah (Aq (Br (Br (Al (Al (Al Ab (Ac (dv 0) Ab)) (Ac (dv 1) Ab)) (Ac (dv 2) Ab)) (Al (Ac (dv 0) Ab) (dv 3))) (Al (Al (Al Ab (Ac (dv 0) Ab)) (Ac (dv 1) Ab)) (Ac (dv 2) Ab)))))),fun ds Q h=>?_⟩⟩
  obtain ⟨⟨⟨a,b,c⟩,⟨x,y⟩,u,v⟩,rfl,⟨⟨ha,hb,hc⟩,⟨hx,hy⟩,hu,hv⟩,q⟩:=h
  walk_at "go"
  have h2:Bt 2 2:=Bt.of_abs (by decide)
  walk_at "muls"
  exact q _ rfl
theorem AaH (T:Txt K mg)
    (G_check_turn:Pm P w K mg base 2 "check_turn" CW ["turn"] Gf)
    (G_value:Pm P w K mg base 1 "value" Jx ["form","point"] Vn)
    (G_middle:Pm P w K mg base 1 "middle" Ik ["form","left","right"] Rr)
    : Pm P w K mg base 3 "moved" Jc ["form","turn"] Pz:=by
  obtain ⟨f,fd,F⟩:=T.t_moved
  refine ⟨f,fd,F,F.fn.okD Qe (by walk_at "lE") fun cdv A outer s H E hr=>⟨_,(Ad (Ek (Ag Ae G_check_turn (hr.mono (by decide)) rfl (Aa (dv 1) Af))) (Ad (Ak 2 Qe.nd (Bo (Aa (Ac (dv 1) Ab) (Aa (Ac (dv 1) Ab) Af)))) (Ad (Ak 3 Qe.nd (Bo (Aa (Ac (dv 1) Ab) (Aa (Ac (dv 1) Ab) Af)))) (Ah (Aq (Bo (Aa (Ag Ae G_value (hr.mono (by decide)) rfl (Aa (dv 0) (Aa (dv 2) Af))) (Aa (Ag Ae G_middle (hr.mono (by decide)) rfl (Aa (dv 0) (Aa (dv 2) (Aa (dv 3) Af)))) (Aa (Ag Ae G_value (hr.mono (by decide)) rfl (Aa (dv 0) (Aa (dv 3) Af))) Af))))))))),fun ds Q h=>?_⟩⟩
  obtain ⟨⟨f,t⟩,rfl,⟨hf,ht,hd⟩,q⟩:=h
  walk_at "go"
  have hl:B2 300000 (t.1,t.2.2.1):=⟨ht.1.le (by decide),ht.2.2.1.le (by decide)⟩
  have hr':B2 300000 (t.2.1,t.2.2.2):=⟨ht.2.1.le (by decide),ht.2.2.2.le (by decide)⟩
  refine Aj t ⟨ht,hd⟩ ⟨Az (by decide),Az (by decide),?_⟩
  refine Aj (f,(t.1,t.2.2.1)) ⟨hf,hl⟩ ?_
  refine Aj (f,(t.1,t.2.2.1),(t.2.1,t.2.2.2)) ⟨hf,hl,hr'⟩ ?_
  refine Aj (f,(t.2.1,t.2.2.2)) ⟨hf,hr'⟩ ⟨Az (by decide),?_⟩
  exact q _ rfl
noncomputable abbrev Pq:DSp:=BL (fun p:I2=>[.int p.1,.int p.2]) (fun _=>True) fun p=>.int ((Int.gcd p.1 p.2:Nat):Int)
theorem Wa (T:Txt K mg)
    : Pm P w K mg base 1 "divisor" GZ ["one","other"] Pq:=by
  obtain ⟨f,fd,F⟩:=T.t_divisor
  refine ⟨f,fd,F,F.fn.okD IV (by walk_at "lE") fun cdv A outer s H E hr=>⟨_,(Ad (Gj PassesOwn.never (Gm hr.units (dv 1) Ab) (Ad (Ak 2 IV.nd (DK (dv 0) (dv 1))) (Ad (Ak 0 IV.nd (dv 1)) (Ah (Ak 1 IV.nd (dv 2)))))) (Ah (Aq (Ml T.z_abs (Aa (dv 0) Af))))),fun ds Q h=>?_⟩⟩
  obtain ⟨⟨a,b⟩,rfl,_,q⟩:=h
  simp only [PN,Qp,Py]
  refine Gn (fun m ρ=>∃ x y z,ρ=[some (.is (.int x)),some (.is (.int y)),z]∧Int.gcd x y=Int.gcd a b∧m=y.natAbs) _ ⟨a,b,none,rfl,rfl,rfl⟩ ?_
  rintro m _ ⟨x,y,z,rfl,hg,rfl⟩
  walk_at "rd"
  by_cases hy:y=0
  · subst hy
    simp only [decide_true,Bool.not_true]
    walk_at "rd"
    have q':=q _ rfl
    have e:(if x < 0 then -x else x)=((Int.gcd a b:Nat):Int):=by rw [←hg,Int.gcd_zero_right];split <;> omega
    rw [e]
    exact q'
  · simp only [decide_eq_false hy,Bool.not_false,if_true]
    exact ⟨hy,_,Je hy,y,x.fmod y,_,rfl,(K3 x y).trans hg,rfl⟩
noncomputable abbrev Ke:DSp:=BL (fun f:I3=>[t3 f]) (fun _=>True) fun f=>.int (g3 f)
theorem VP (T:Txt K mg)
    (G_divisor:Pm P w K mg base 1 "divisor" GZ ["one","other"] Pq)
    : Pm P w K mg base 2 "content" FQ ["form"] Ke:=by
  obtain ⟨f,fd,F⟩:=T.t_content
  refine ⟨f,fd,F,F.fn.okD Ws (by walk_at "lE") fun cdv A outer s H E hr=>⟨_,(Ah (Aq (Ag Ae G_divisor (hr.mono (by decide)) rfl (Aa (Ag Ae G_divisor (hr.mono (by decide)) rfl (Aa (Ac (dv 0) Ab) (Aa (Ac (dv 0) Ab) Af))) (Aa (Ac (dv 0) Ab) Af))))),fun ds Q h=>?_⟩⟩
  obtain ⟨f,rfl,_,q⟩:=h
  walk_at "go"
  exact Aj (f.1,f.2.1) trivial (Aj (_,f.2.2) trivial (q _ rfl))
noncomputable abbrev K1:DSp:=spec (fun f:I3=>[t3 f]) (fun f=>B3 1500 f) Aba
theorem Aad (T:Txt K mg)
    (G_measure:Pm P w K mg base 1 "measure" CJ ["form"] DY)
    (G_is_square:Pm P w K mg base 2 "is_square" DX ["number"] Iu)
    : Pm P w K mg base 3 "shape" Hs ["form"] K1:=by
  obtain ⟨f,fd,F⟩:=T.t_shape
  refine ⟨f,fd,F,F.fn.okD Va (by walk_at "lE") fun cdv A outer s H E hr=>⟨_,(Ad (Ak 1 Va.nd (Ag Ae G_measure (hr.mono (by decide)) rfl (Aa (dv 0) Af))) (Ad (Ci (FZ (Ag Ae G_is_square (hr.mono (by decide)) rfl (Aa (dv 1) Af))) (Ah (Aq Ku)) Bf) (Ad (Ci (QZ (dv 1) Ab) (Ah (Aq Ku)) Bf) (Ad (Ci (QZ (Ac (dv 0) Ab) Ab) (Ah (Aq Ku)) Bf) (Ah (Aq Ku)))))),fun ds Q h=>?_⟩⟩
  obtain ⟨f,rfl,hf,q⟩:=h
  walk_at "go"
  refine Aj f (hf.le (by decide)) ?_
  have hm:Bt 4000 (meas f):=by
    obtain ⟨h1,h2,h3⟩:=hf
    have h4:Bt 3 4:=Bt.of_abs (by decide)
    exact ((h2.mul h2).sub ((h4.mul h1).mul h3)).le (by decide)
  refine Av (meas f) hm ?_
  rintro _ ⟨b,rfl,hb⟩
  walk_at "rd"
  refine NK (fun h=>q _ (.flat (hb.mp h))) (fun h=>?_)
  have hn:¬ Ia (meas f):=fun z=>h (hb.mpr z)
  refine NK (fun h=>q _ (.saddle hn (of_decide_eq_true h))) (fun h=>?_)
  have hp:¬ 0 < meas f:=fun z=>h (decide_eq_true z)
  refine NK (fun h=>q _ (.bowl hn hp (of_decide_eq_true h))) (fun h=>q _ (.dome hn hp fun z=>h (decide_eq_true z)))
noncomputable abbrev J6:DSp:=BL (fun f:I3=>[t3 f]) (fun f=>B3 1500 f∧Bm f) fun _=>.non
noncomputable abbrev Gu:DSp:=BL (fun f:I3=>[t3 f]) (fun _=>True) fun f=>.bl (stands f)
theorem Qt (T:Txt K mg)
    (G_shape:Pm P w K mg base 3 "shape" Hs ["form"] K1)
    : Pm P w K mg base 4 "check_bowl" Eh ["form"] J6:=by
  obtain ⟨f,fd,F⟩:=T.t_check_bowl
  refine ⟨f,fd,F,F.fn.okD QB (by walk_at "lE") fun cdv A outer s H E hr=>⟨_,(Ah (Ci (Gm hr.units (Ag Ae G_shape (hr.mono (by decide)) rfl (Aa (dv 0) Af)) Ku) (Ah Fp) Bf)),fun ds Q h=>?_⟩⟩
  obtain ⟨f,rfl,⟨hb,h0,h1⟩,q⟩:=h
  walk_at "go"
  have h0:0 < f.1:=h0
  have h1:meas f < 0:=h1
  refine Av f hb ?_
  rintro _ hw
  cases hw with
  | flat z=>exact absurd z (KY h1)
  | saddle _ z=>exact absurd z (by omega)
  | dome _ _ z=>exact absurd h0 z
  | bowl _ _ _=>exact ⟨⟨by rw [R8];decide +kernel,by rw [R8];decide +kernel⟩,ifn (by rw [Ul];rfl) (q _ rfl)⟩
theorem Nz (T:Txt K mg)
    : Pm P w K mg base 1 "stands_least" Cu ["form"] Gu:=by
  obtain ⟨f,fd,F⟩:=T.t_stands_least
  refine ⟨f,fd,F,F.fn.okD Ew (by walk_at "lE") fun cdv A outer s H E hr=>⟨_,(Ad (Ak 1 Ew.nd (Ac (dv 0) Ab)) (Ad (Ak 2 Ew.nd (Ac (dv 0) Ab)) (Ad (Ak 3 Ew.nd (Ac (dv 0) Ab)) (Ad (Ci (Js (Y0 Uu Uu Uu Hj Hj Hj  (Gs (dv 1)) (dv 2) (dv 1) (dv 3))) (Ah (Aq J1)) Bf) (Ah (Aq (Aj6 (Aha (dv 2) Ab) (Td (Wh (AdR hr.units (dv 2) (Gs (dv 1))) (Td (AdR hr.units (dv 1) (dv 3)))))))))))),fun ds Q h=>?_⟩⟩
  obtain ⟨⟨a,b,c⟩,rfl,_,q⟩:=h
  have q':=q _ rfl
  dsimp only [stands] at q'
  walk_at "go"
  simp only [Bool.decide_and,ne_eq,decide_not] at q'
  generalize decide (-a≤b)=x1 at *
  generalize decide (b≤a)=x2 at *
  generalize decide (a≤c)=x3 at *
  generalize decide (0≤b)=x4 at *
  generalize decide (b=-a)=x5 at *
  generalize decide (a=c)=x6 at *
  cases x1 <;> cases x2 <;> cases x3 <;> cases x4 <;> cases x5 <;> cases x6 <;> exact q'
noncomputable abbrev J8:DSp:=BL (fun f:I3=>[t3 f]) (fun f=>B3 8000 f∧0 < f.1) fun f=>t4 (DN f)
theorem Qy (T:Txt K mg)
    : Pm P w K mg base 1 "turn_lower" El ["form"] J8:=by
  obtain ⟨f,fd,F⟩:=T.t_turn_lower
  refine ⟨f,fd,F,F.fn.okD Ka (by walk_at "lE") fun cdv A outer s H E hr=>⟨_,(Ad (Ak 1 Ka.nd (BJ (BK (Ac (dv 0) Ab) (Ac (dv 0) Ab)) (Al Ab (Ac (dv 0) Ab)))) (Ad (Ci (Gm hr.units (dv 1) Ab) (Ah (Aq (Bo (Aa Ab (Aa (dv 1) (Aa Ab (Aa Ab Af))))))) Bf) (Ah (Aq (Bo (Aa Ab (Aa (Gs Ab) (Aa Ab (Aa Ab Af))))))))),fun ds Q h=>?_⟩⟩
  obtain ⟨⟨a,b,c⟩,rfl,⟨⟨h1,h2,h3⟩,h0⟩,q⟩:=h
  have h0:0 < a:=h0
  have h1:Bt 8000 a:=h1
  have two:Bt 2 2:=Bt.of_abs (by decide)
  have q':=q _ rfl
  dsimp only at q'
  walk_at "go"
  refine ⟨two.mulOk h1,Bt.divOk (two.mul h1) (by omega),?_⟩
  by_cases ho:(a - b).fdiv (2*a)=0
  · refine Es (by rw [decide_eq_true ho];rfl) ⟨Az (by decide),?_⟩
    rw [PK (f:=(a,b,c)) ho] at q'
    exact q'
  · refine ift (by rw [decide_eq_false ho];rfl) ⟨Az (by decide),?_⟩
    rw [PJ (f:=(a,b,c)) ho] at q'
    exact q'
noncomputable def LI (f:I3):Nat→I4
  | 0=>(1,0,0,1)
  | k+1=>Ao (LI f k) (DN (mov f (LI f k)))
noncomputable def Lz (f:I3) (t:I4):Prop:=∃ k,t=LI f k∧(∀ i,i < k→stands (mov f (LI f i))=false)∧stands (mov f (LI f k))=true
theorem Lz.uniq {f:I3} {t u:I4} (a:Lz f t) (b:Lz f u):t=u:=by
  obtain ⟨k,rfl,n1,h1⟩:=a
  obtain ⟨l,rfl,n2,h2⟩:=b
  rcases Nat.lt_trichotomy k l with z | z | z
  · rw [n2 k z] at h1;cases h1
  · rw [z]
  · rw [n1 l z] at h2;cases h2
noncomputable def JK (f:I3) (d:Dt):Prop:=∃ t:I4,d=.tup [t3 (mov f t),t4 t]∧det t=1∧DQ (mov f t)∧B4 5000 t∧Lz f t
noncomputable abbrev Pb:DSp:=spec (fun f:I3=>[t3 f]) (fun f=>B3 1500 f∧Bm f) JK
theorem V1 (T:Txt K mg)
    (G_check_bowl:Pm P w K mg base 4 "check_bowl" Eh ["form"] J6)
    (G_stands_least:Pm P w K mg base 1 "stands_least" Cu ["form"] Gu)
    (G_turn_lower:Pm P w K mg base 1 "turn_lower" El ["form"] J8)
    (G_moved:Pm P w K mg base 3 "moved" Jc ["form","turn"] Pz)
    (G_put_behind:Pm P w K mg base 1 "put_behind" Dc ["one","other"] Ge)
    : Pm P w K mg base 5 "settled" GX ["form"] Pb:=by
  obtain ⟨f,fd,F⟩:=T.t_settled
  obtain ⟨a_SAME,m_SAME,q_SAME⟩:=T.k_SAME
  refine ⟨f,fd,F,F.fn.okD G8 (by walk_at "lE") fun cdv A outer s H E hr=>⟨_,(Ad (Ek (Ag Ae G_check_bowl (hr.mono (by decide)) rfl (Aa (dv 0) Af))) (Ad (Ak 1 G8.nd (N6 (v:=.ref a_SAME) rfl m_SAME rfl q_SAME)) (Ad (Gj PassesOwn.never (Js (FZ (Ag Ae G_stands_least (hr.mono (by decide)) rfl (Aa (dv 0) Af)))) (Ad (Ak 2 G8.nd (Ag Ae G_turn_lower (hr.mono (by decide)) rfl (Aa (dv 0) Af))) (Ad (Ak 0 G8.nd (Ag Ae G_moved (hr.mono (by decide)) rfl (Aa (dv 0) (Aa (dv 2) Af)))) (Ah (Ak 1 G8.nd (Ag Ae G_put_behind (hr.mono (by decide)) rfl (Aa (dv 1) (Aa (dv 2) Af)))))))) (Ah (Aq (Bo (Aa (dv 0) (Aa (dv 1) Af)))))))),fun ds Q h=>?_⟩⟩
  obtain ⟨f,rfl,⟨hb,hw⟩,q⟩:=h
  have hw:Bm f:=hw
  have hb:B3 1500 f:=hb
  have hm:Bt 3010 (meas f):=by
    obtain ⟨h1,h2,h3⟩:=hb
    have h4:Bt 3 4:=Bt.of_abs (by decide)
    exact ((h2.mul h2).sub ((h4.mul h1).mul h3)).le (by decide)
  walk_at "go"
  refine Aj f ⟨hb,hw⟩ ?_
  refine Gn (fun m ρ=>∃ t x,(∃ k,t=LI f k∧∀ i,i < k→stands (mov f (LI f i))=false)∧ρ=[some (.is (t3 (mov f t))),some (.is (t4 t)),x]∧det t=1∧Bt 1500 (mov f t).1∧Bt 1500 (mov f t).2.1∧m=msr (mov f t)) _ ⟨(1,0,0,1),none,⟨0,rfl,fun _ h=>absurd h (by omega)⟩,by rw [Bp],rfl,by rw [Bp];exact hb.1,by rw [Bp];exact hb.2.1,rfl⟩ ?_
  rintro m _ ⟨t,x,⟨k,et,nl⟩,rfl,hd,b1,b2,rfl⟩
  have hg:=OJ hw hd
  have hgb:B3 7000 (mov f t):=(AdI hg b1 b2 (by rw [Bu hd];exact hm)).le (by decide)
  have ht:B4 5000 t:=AdH hw hb hgb (by decide)
  walk_at "rd"
  refine Aj (mov f t) trivial ?_
  walk_at "rd"
  by_cases hs:stands (mov f t)=true
  · refine Es (by rw [hs];rfl) ⟨Az (by decide),q _ ⟨t,rfl,hd,Bc hg.1 hs,ht,k,et,nl,by rw [←et];exact hs⟩⟩
  · have hs:stands (mov f t)=false:=by simpa using hs
    refine ift (by rw [hs];rfl) ?_
    have hl:B4 2000 (DN (mov f t)):=(Zt hg.1 b1 b2).le (by decide)
    refine Aj (mov f t) ⟨hgb.le (by decide),hg.1⟩ ?_
    refine Aj (mov f t,DN (mov f t)) ⟨hgb.le (by decide),hl.le (by decide),Rx⟩ ?_
    refine Aj (t,DN (mov f t)) ⟨ht.le (by decide),hl.le (by decide)⟩ ?_
    have hb':=AaC hg hs b1 b2
    have hm':=Yo hg hs
    rw [Bg] at hb' hm'
    dsimp only
    rw [Bg]
    refine ⟨_,hm',Ao t (DN (mov f t)),_,⟨k+1,by rw [et];rfl,fun i hi=>?_⟩,rfl,?_,hb'.1,hb'.2,rfl⟩
    case refine_1 =>
      rcases Nat.lt_or_ge i k with z | z
      · exact nl i z
      · rw [show i=k by omega,←et];exact hs
    rw [Cj,hd,Rx];rfl
noncomputable abbrev Ie:DSp:=BL (fun p:I2=>[.int p.1,.int p.2]) (fun p=>p.1≤p.2) fun _=>.non
theorem Mq (T:Txt K mg)
    : Pm P w K mg base 1 "check_at_most" CN ["number","most"] Ie:=by
  obtain ⟨f,fd,F⟩:=T.t_check_at_most
  refine ⟨f,fd,F,F.fn.okD Ms (by walk_at "lE") fun cdv A outer s H E hr=>⟨_,(Ah (Ci (QZ (dv 0) (dv 1)) (Ah Fp) Bf)),fun ds Q h=>?_⟩⟩
  obtain ⟨⟨n,m⟩,rfl,h0,q⟩:=h
  have h0:n≤m:=h0
  walk_at "go"
  exact Es (decide_eq_false (by omega)) (q _ rfl)
noncomputable abbrev Eu:DSp:=BL (fun f:I3=>[t3 f]) (fun f=>B3 1500 f∧Sad f) fun _=>.non
noncomputable abbrev Gq:DSp:=BL (fun p:I3 × Int=>[t3 p.1,.int p.2]) (fun p=>B3 20000 p.1) fun p=>.bl (decide (Level p.1 p.2))
theorem Nr (T:Txt K mg)
    (G_check_at_most:Pm P w K mg base 1 "check_at_most" CN ["number","most"] Ie)
    (G_shape:Pm P w K mg base 3 "shape" Hs ["form"] K1)
    (G_measure:Pm P w K mg base 1 "measure" CJ ["form"] DY)
    : Pm P w K mg base 4 "check_saddle" Ce ["form"] Eu:=by
  obtain ⟨f,fd,F⟩:=T.t_check_saddle
  obtain ⟨t_MOST_MEASURE,m_MOST_MEASURE⟩:=T.m_MOST_MEASURE
  refine ⟨f,fd,F,F.fn.okD Np (by walk_at "lE") fun cdv A outer s H E hr=>⟨_,(Ad (Ci (Gm hr.units (Ag Ae G_shape (hr.mono (by decide)) rfl (Aa (dv 0) Af)) Ku) (Ah Fp) Bf) (Ah (Ek (Ag Ae G_check_at_most (hr.mono (by decide)) rfl (Aa (Ag Ae G_measure (hr.mono (by decide)) rfl (Aa (dv 0) Af)) (Aa (N6 (v:=.int (4000)) (d:=.int (4000)) rfl m_MOST_MEASURE ⟨_,rfl⟩ (fun _=>Bj.mpr rfl)) Af)))))),fun ds Q h=>?_⟩⟩
  obtain ⟨f,rfl,⟨hb,hs⟩,q⟩:=h
  have hs:Sad f:=hs
  have nb:Dt.flat 8 (.str "saddle")=true:=by rw [R8];decide +kernel
  walk_at "go"
  refine Av f hb ?_
  rintro _ hw
  have h0:=hs.pos
  cases hw with
  | flat z=>exact absurd z hs.no
  | bowl _ z _=>exact absurd h0 z
  | dome _ z _=>exact absurd h0 z
  | saddle _ _ =>
    refine ⟨⟨nb,nb⟩,ifn (by rw [Ul];rfl) (Aj f (hb.le (by decide)) (Aj (meas f,4000) hs.most (q _ rfl)))⟩
theorem Nv (T:Txt K mg)
    : Pm P w K mg base 1 "stands_level" Cw ["form","far"] Gq:=by
  obtain ⟨f,fd,F⟩:=T.t_stands_level
  refine ⟨f,fd,F,F.fn.okD Jh (by walk_at "lE") fun cdv A outer s H E hr=>⟨_,(Ad (Ak 2 Jh.nd (Ac (dv 0) Ab)) (Ah (Aq (Wh (Uc Aa7 Uu Hj Hj Ab (dv 2) (dv 1)) (Td (Uc Aa7 Uu Hj Hj (BK (dv 1) (dv 2)) (Al Ab (Ml T.z_abs (Aa (Ac (dv 0) Ab) Af))) (Br (dv 1) (dv 2)))))))),fun ds Q h=>?_⟩⟩
  obtain ⟨⟨⟨a,b,c⟩,far⟩,rfl,hb,q⟩:=h
  have q':=q _ rfl
  obtain ⟨ha,_,_⟩:=(show B3 20000 (a,b,c) from hb)
  have ha:Bt 20000 a:=ha
  have two:Bt 2 2:=Bt.of_abs (by decide)
  have ha':Bt 20000 (if a < 0 then -a else a):=by split <;> first | exact ha.neg | exact ha
  have q':Q (.bl (decide (Level (a,b,c) far))):=q'
  walk_at "go"
  have hL:Level (a,b,c) far↔(0 < b∧b≤far)∧far - b < 2*(if a < 0 then -a else a)∧2*(if a < 0 then -a else a)≤far+b:=Iff.rfl
  generalize (if a < 0 then -a else a)=A at *
  by_cases h1:0 < b
  · refine ift (decide_eq_true h1) ?_
    by_cases h2:b≤far
    · refine ift (decide_eq_true h2) ⟨two.mulOk ha',?_⟩
      by_cases h3:far - b < 2*A
      · refine ift (decide_eq_true h3) ?_
        have e:decide (Level (a,b,c) far)=decide (2*A≤far+b):=decide_eq_decide.mpr (hL.trans ⟨fun z=>z.2.2,fun z=>⟨⟨h1,h2⟩,h3,z⟩⟩)
        rw [e] at q'
        exact q'
      · refine Es (decide_eq_false h3) ?_
        rw [decide_eq_false fun z=>h3 (hL.mp z).2.1] at q'
        exact q'
    · refine Es (decide_eq_false h2) ?_
      rw [decide_eq_false fun z=>h2 (hL.mp z).1.2] at q'
      exact q'
  · refine Es (decide_eq_false h1) ?_
    rw [decide_eq_false fun z=>h1 (hL.mp z).1.1] at q'
    exact q'
noncomputable abbrev Ji:DSp:=BL (fun p:I3 × Int=>[t3 p.1,.int p.2]) (fun p=>B3 8000 p.1∧p.1.2.2≠0) fun p=>t4 (Cy p.1 p.2)
theorem Px (T:Txt K mg)
    : Pm P w K mg base 1 "turn_behind" Dw ["form","top"] Ji:=by
  obtain ⟨f,fd,F⟩:=T.t_turn_behind
  refine ⟨f,fd,F,F.fn.okD Fw (by walk_at "lE") fun cdv A outer s H E hr=>⟨_,(Ad (Ak 2 Fw.nd (Ac (dv 0) Ab)) (Ad (Ak 3 Fw.nd (Ac (dv 0) Ab)) (Ad (Ak 4 Fw.nd (BK (dv 1) (DK (Br (dv 1) (dv 2)) (Al Ab (Ml T.z_abs (Aa (dv 3) Af)))))) (Ah (Aq (Bo (Aa Ab (Aa (Gs Ab) (Aa Ab (Aa (BJ (Br (dv 2) (dv 4)) (Al Ab (dv 3))) Af)))))))))),fun ds Q h=>?_⟩⟩
  obtain ⟨⟨⟨a,b,c⟩,top⟩,rfl,⟨⟨_,_,hc⟩,h0⟩,q⟩:=h
  have hc:Bt 8000 c:=hc
  have h0:c≠0:=h0
  have two:Bt 2 2:=Bt.of_abs (by decide)
  have hac:2*ab c≠0:=by rcases Ay c with ⟨_,e⟩ | ⟨_,e⟩ <;> omega
  walk_at "go"
  exact ⟨two.mulOk (Aiv hc),hac,two.mulOk hc,Bt.divOk (two.mul hc) (by omega),Az (by decide),q _ rfl⟩
noncomputable abbrev J4 (f:I3) (t:I4):Dt:=.tup [t3 f,t4 t]
noncomputable abbrev Fy:DSp:=BL (fun p:I3 × I4 × Int=>[J4 p.1 p.2.1,.int p.2.2]) (fun p=>B3 8000 p.1∧p.1.2.2≠0∧B4 300000 p.2.1∧B4 5000 (Cy p.1 p.2.2)) fun p=>J4 (mov p.1 (Cy p.1 p.2.2)) (Ao p.2.1 (Cy p.1 p.2.2))
theorem Og (T:Txt K mg)
    (G_turn_behind:Pm P w K mg base 1 "turn_behind" Dw ["form","top"] Ji)
    (G_moved:Pm P w K mg base 3 "moved" Jc ["form","turn"] Pz)
    (G_put_behind:Pm P w K mg base 1 "put_behind" Dc ["one","other"] Ge)
    : Pm P w K mg base 4 "stop_behind" Dh ["stop","top"] Fy:=by
  obtain ⟨f,fd,F⟩:=T.t_stop_behind
  refine ⟨f,fd,F,F.fn.okD Jt (by walk_at "lE") fun cdv A outer s H E hr=>⟨_,(Ad (Ak 2 Jt.nd (Ag Ae G_turn_behind (hr.mono (by decide)) rfl (Aa (Ac (dv 0) Ab) (Aa (dv 1) Af)))) (Ah (Aq (Bo (Aa (Ag Ae G_moved (hr.mono (by decide)) rfl (Aa (Ac (dv 0) Ab) (Aa (dv 2) Af))) (Aa (Ag Ae G_put_behind (hr.mono (by decide)) rfl (Aa (Ac (dv 0) Ab) (Aa (dv 2) Af))) Af)))))),fun ds Q h=>?_⟩⟩
  obtain ⟨⟨f,t,top⟩,rfl,⟨hf,h0,ht,hb⟩,q⟩:=h
  walk_at "go"
  exact Aj (f,top) ⟨hf,h0⟩ (Aj (f,Cy f top) ⟨B3.le hf (by decide),B4.le hb (by decide),CZ⟩ (Aj (t,Cy f top) ⟨B4.le ht (by decide),B4.le hb (by decide)⟩ ⟨Az (by decide),q _ rfl⟩))
noncomputable def EI (far:Int) (f:I3):Nat→I4
  | 0=>(1,0,0,1)
  | k+1=>Ao (EI far f k) (Cy (mov f (EI far f k)) (if far > ab (mov f (EI far f k)).2.2 then far else ab (mov f (EI far f k)).2.2))
noncomputable def PB (far:Int) (f:I3) (t:I4):Prop:=∃ k,t=EI far f k∧(∀ i,i < k→¬ Level (mov f (EI far f i)) far)∧Level (mov f (EI far f k)) far
theorem PB.uniq {far:Int} {f:I3} {t u:I4} (a:PB far f t) (b:PB far f u):t=u:=by
  obtain ⟨k,rfl,n1,h1⟩:=a
  obtain ⟨l,rfl,n2,h2⟩:=b
  rcases Nat.lt_trichotomy k l with z | z | z
  · exact absurd h1 (n2 k z)
  · rw [z]
  · exact absurd h2 (n1 l z)
noncomputable def Ag8 (f:I3) (d:Dt):Prop:=∃ (t:I4) (far:Int),d=J4 (mov f t) t∧det t=1∧Sq (meas f) far∧Level (mov f t) far∧B4 7600 t∧PB far f t
noncomputable abbrev T9:DSp:=spec (fun f:I3=>[t3 f]) (fun f=>B3 1500 f∧Sad f) Ag8
theorem Vq {f:I3} (S:Sad f):0≤meas f∧Bt 4000 (meas f):=by
  have:=S.pos
  have:=S.most
  exact ⟨by omega,Bt.le (n:=13) (Bt.of (by omega) (by omega)) (by decide)⟩
theorem Aa4 (T:Txt K mg)
    (G_check_saddle:Pm P w K mg base 4 "check_saddle" Ce ["form"] Eu)
    (G_root:Pm P w K mg base 1 "root" HB ["number"] JV)
    (G_measure:Pm P w K mg base 1 "measure" CJ ["form"] DY)
    (G_stands_level:Pm P w K mg base 1 "stands_level" Cw ["form","far"] Gq)
    (G_stop_behind:Pm P w K mg base 4 "stop_behind" Dh ["stop","top"] Fy)
    : Pm P w K mg base 5 "eased" JQ ["form"] T9:=by
  obtain ⟨f,fd,F⟩:=T.t_eased
  obtain ⟨a_SAME,m_SAME,q_SAME⟩:=T.k_SAME
  refine ⟨f,fd,F,F.fn.okD LK (by walk_at "lE") fun cdv A outer s H E hr=>⟨_,(Ad (Ek (Ag Ae G_check_saddle (hr.mono (by decide)) rfl (Aa (dv 0) Af))) (Ad (Ak 1 LK.nd (Ag Ae G_root (hr.mono (by decide)) rfl (Aa (Ag Ae G_measure (hr.mono (by decide)) rfl (Aa (dv 0) Af)) Af))) (Ad (Ak 2 LK.nd (Bo (Aa (dv 0) (Aa (N6 (v:=.ref a_SAME) rfl m_SAME rfl q_SAME) Af)))) (Ad (Gj PassesOwn.never (Js (FZ (Ag Ae G_stands_level (hr.mono (by decide)) rfl (Aa (Ac (dv 2) Ab) (Aa (dv 1) Af))))) (Ah (Ak 2 LK.nd (Ag Ae G_stop_behind (hr.mono (by decide)) rfl (Aa (dv 2) (Aa (Af8 T.z_max (Aa (Ml T.z_abs (Aa (Ac (Ac (dv 2) Ab) Ab) Af)) (Aa (dv 1) Af))) Af)))))) (Ah (Aq (dv 2))))))),fun ds Q h=>?_⟩⟩
  obtain ⟨f,rfl,⟨hb,hS⟩,q⟩:=h
  have hS:Sad f:=hS
  have hb:B3 1500 f:=hb
  walk_at "go"
  refine Aj f ⟨hb,hS⟩ (Aj f (hb.le (by decide)) (Av (meas f) (Vq hS) ?_))
  rintro _ ⟨far,rfl,hr',hfb⟩
  walk_at "rd"
  refine ⟨Az (by decide),?_⟩
  refine Gn (fun m ρ=>∃ k,(∀ i,i < k→¬ Level (mov f (EI far f i)) far)∧ρ=[some (.is (t3 f)),some (.is (.int far)),some (.is (J4 (mov f (EI far f k)) (EI far f k)))]∧QJ 1500 far f (EI far f k)∧m=eM far (mov f (EI far f k))) _ ⟨0,fun _ h=>absurd h (by omega),by show _=[_,_,some (En.is (J4 (mov f (1,0,0,1)) (1,0,0,1)))];rw [Bp],QJ.start (by decide) hb,rfl⟩ ?_
  rintro m _ ⟨k,nl,rfl,hI,rfl⟩
  have ek:EI far f (k+1)=Ao (EI far f k) (Cy (mov f (EI far f k)) (if far > ab (mov f (EI far f k)).2.2 then far else ab (mov f (EI far f k)).2.2)):=rfl
  obtain ⟨t,et⟩:∃ t,t=EI far f k:=⟨_,rfl⟩
  rw [←et] at hI ek ⊢
  have hd:=hI.1
  have hg:=hI.2.1
  have ht:=hI.b4
  walk_at "rd"
  refine Aj (mov f t,far) (hg.le (by decide)) ?_
  walk_at "rd"
  by_cases hL:Level (mov f t) far
  · exact Es (by rw [decide_eq_true hL];rfl) (q _ ⟨t,far,rfl,hd,hr',hL,ht.le (by decide),k,et,nl,by rw [←et];exact hL⟩)
  · refine ift (by rw [decide_eq_false hL];rfl) ?_
    have hst:=Yr (by decide) hS hr' hI hL
    refine Aj (mov f t,t,_) ⟨hg.le (by decide),Ij (hS.mov hd),ht.le (by decide),hst.2.2.le (by decide)⟩ ?_
    dsimp only
    rw [Bg]
    refine ⟨_,hst.2.1,k+1,fun i hi=>?_,by rw [ek];rfl,by rw [ek];exact hst.1,by rw [ek]⟩
    rcases Nat.lt_or_ge i k with z | z
    · exact nl i z
    · rw [show i=k by omega,←et];exact hL
structure Iv (f:I3) (t0:I4) (far:Int) (N:Nat):Prop where
  d:det t0=1
  r:Sq (meas f) far
  v:Lv far (mov f t0)
  b:B4 7600 t0
  n:0 < N
  m:N≤8128
  e:rF far N (mov f t0)=mov f t0
  l:∀ j,0 < j→j < N→rF far j (mov f t0)≠mov f t0
  a:PB far f t0
noncomputable abbrev Ep (f:I3) (t0:I4) (far:Int) (i:Nat):Dt:=J4 (rF far i (mov f t0)) (Ao t0 (rT far i (mov f t0)))
theorem Iv.bt {f:I3} {t0:I4} {far:Int} {N:Nat} (R:Iv f t0 far N) (i:Nat) (h:i≤N):B4 90000 (Ao t0 (rT far i (mov f t0))):=by
  have:=R.m
  exact (B4.then R.b (Ad2 i R.v)).le (by omega)
noncomputable abbrev G9:DSp:=spec (fun f:I3=>[t3 f]) (fun f=>B3 1500 f∧Sad f) fun f d=>∃ t0 far N,Iv f t0 far N∧d=.lst ((List.range (N+1)).map (Ep f t0 far))
theorem RN {n:Nat} (h:n≤9000):n < PySem.sizeLine:=by unfold PySem.sizeLine;omega
theorem Qn (T:Txt K mg)
    (G_root:Pm P w K mg base 1 "root" HB ["number"] JV)
    (G_eased:Pm P w K mg base 5 "eased" JQ ["form"] T9)
    (G_stop_behind:Pm P w K mg base 4 "stop_behind" Dh ["stop","top"] Fy)
    (G_measure:Pm P w K mg base 1 "measure" CJ ["form"] DY)
    : Pm P w K mg base 6 "stops_round" Dg ["form"] G9:=by
  obtain ⟨f,fd,F⟩:=T.t_stops_round
  refine ⟨f,fd,F,F.fn.okD Dl (by walk_at "lE") fun cdv A outer s H E hr=>⟨_,(Ad (Ak 1 Dl.nd (Ag Ae G_root (hr.mono (by decide)) rfl (Aa (Ag Ae G_measure (hr.mono (by decide)) rfl (Aa (dv 0) Af)) Af))) (Ad (Ak 2 Dl.nd (Ag Ae G_eased (hr.mono (by decide)) rfl (Aa (dv 0) Af))) (Ad (Wk 3 Dl.nd (Aa (dv 2) Af)) (Ad (Ak 4 Dl.nd (Ag Ae G_stop_behind (hr.mono (by decide)) rfl (Aa (dv 2) (Aa (dv 1) Af)))) (Ad (Gj PassesOwn.never (Gm hr.units (Ac (dv 4) Ab) (Ac (dv 2) Ab)) (Ad (S6 3 (dv 4)) (Ah (Ak 4 Dl.nd (Ag Ae G_stop_behind (hr.mono (by decide)) rfl (Aa (dv 4) (Aa (dv 1) Af))))))) (Ad (S6 3 (dv 4)) (Ah (WR 3 (Aq (dv 3)))))))))),fun ds Q h=>?_⟩⟩
  obtain ⟨f,rfl,⟨hb,hS⟩,q⟩:=h
  have hS:Sad f:=hS
  have hb:B3 1500 f:=hb
  walk_at "go"
  refine Aj f (hb.le (by decide)) (Av (meas f) (Vq hS) ?_)
  rintro _ ⟨far,rfl,hr',hfb⟩
  refine Av f ⟨hb,hS⟩ ?_
  rintro _ ⟨t0,far',rfl,dt,hs,hL,bt,ea⟩
  obtain rfl:=hs.uniq hr'
  have hv:Lv far' (mov f t0):=⟨hS.mov dt,by rw [Bu dt];exact hs,hL⟩
  obtain ⟨N,n0,nm,ne,nl⟩:=Ht hv
  have R:Iv f t0 far' N:=⟨dt,hs,hv,bt,n0,nm,ne,nl,ea⟩
  walk_at "rd"
  refine ⟨Az (by decide),?_⟩
  have stp:∀ {Q:Dt→Prop} (i:Nat),i≤N→Q (Ep f t0 far' (i+1))→Fy [Ep f t0 far' i,.int far'] Q:=fun {Q} i hi h=>by
    have hi':=Lv.rF i hv
    refine Aj (rF far' i (mov f t0),Ao t0 (rT far' i (mov f t0)),far') ⟨(UL hi'.S hi'.r hi'.L).le (by decide),Ij hi'.S,(R.bt i hi).le (by decide),(O1 (X7 hi') (by decide)).le (by decide)⟩ ?_
    have h:Q (J4 (rF far' (i+1) (mov f t0)) (Ao t0 (rT far' (i+1) (mov f t0)))):=h
    rw [XQ,X5,←then_assoc] at h
    exact h
  have e0:J4 (mov f t0) t0=Ep f t0 far' 0:=by
    show J4 (mov f t0) t0=J4 (mov f t0) (Ao t0 (1,0,0,1))
    rw [G6]
  rw [e0]
  refine stp 0 (by omega) ?_
  have last:(List.range (N+1)).map (Ep f t0 far')=(List.range N).map (Ep f t0 far') ++ [Ep f t0 far' N]:=by rw [List.range_succ,List.map_append];rfl
  refine Gn (fun m ρ=>∃ i:Nat,1≤i∧i≤N∧ρ=[some (.is (t3 f)),some (.is (.int far')),some (.is (Ep f t0 far' 0)),some (.own ((List.range i).map (Ep f t0 far'))),some (.is (Ep f t0 far' i))]∧m=N - i) _ ⟨1,by omega,by omega,rfl,rfl⟩ ?_
  rintro m _ ⟨i,i1,iN,rfl,rfl⟩
  walk_at "rd"
  have hl:(List.range i).length < sizeLine:=by rw [List.length_range];exact RN (by omega)
  refine NK (fun hw=>?_) (fun hw=>?_)
  · have hi:i < N:=by
      rcases Nat.lt_or_ge i N with z | z
      · exact z
      · exfalso
        have:i=N:=by omega
        subst this
        rw [ne] at hw
        simp [rF] at hw
    refine ⟨hl,stp i iN ⟨N - (i+1),by omega,i+1,by omega,by omega,?_,rfl⟩⟩
    rw [List.range_succ,List.map_append];rfl
  · have hi:i=N:=by
      rcases Nat.lt_or_ge i N with z | z
      · exfalso
        refine nl i (by omega) z ?_
        have hw:rF far' i (mov f t0)=rF far' 0 (mov f t0):=by
          generalize rF far' i (mov f t0)=g at *
          generalize rF far' 0 (mov f t0)=g' at *
          obtain ⟨a,b,c⟩:=g
          obtain ⟨a',b',c'⟩:=g'
          simp at hw
          obtain ⟨h1,h2,h3⟩:=hw
          rw [h1,h2,h3]
        exact hw
      · omega
    subst hi
    refine ⟨hl,q _ ⟨t0,far',i,R,?_⟩⟩
    rw [last]
noncomputable def Hg (f:I3):List Int:=[f.1,f.2.1,f.2.2]
noncomputable def Afl (t:I4):List Int:=[t.1,t.2.1,t.2.2.1,t.2.2.2]
noncomputable def Amg (f:I3) (t0:I4) (far:Int) (N:Nat):List (List Int × List Int):=(List.range (N+1)).map fun i=>(Hg (rF far i (mov f t0)),Afl (Ao t0 (rT far i (mov f t0))))
noncomputable def Low (f:I3) (d:Dt):Prop:=∃ t0 far N j,Iv f t0 far N∧j≤N∧(∀ i,i≤N→HT.lexLt (Hg (rF far i (mov f t0))) (Hg (rF far j (mov f t0)))=false)∧d=Ep f t0 far j∧j=Ks (Amg f t0 far N)
noncomputable abbrev Qh:DSp:=spec (fun f:I3=>[t3 f]) (fun f=>B3 1500 f∧Sad f) Low
theorem Ky (bt:Nat→Nat→Bool):∀ k,argBest bt k≤k
  | 0=>Nat.le_refl _
  | k+1=>by
    have:=Ky bt k
    unfold argBest
    split <;> omega
theorem Gg (bt:Nat→Nat→Bool) (ir:∀ i,bt i i=false) (tr:∀ a b c,bt a b=true→bt b c=true→bt a c=true):∀ k j,j≤k→bt j (argBest bt k)=false
  | 0,j,h=>by
    have:j=0:=by omega
    subst this
    exact ir 0
  | k+1,j,h=>by
    unfold argBest
    split
    · rename_i hb
      rcases Nat.lt_or_ge j (k+1) with z | z
      · cases q:bt j (k+1) with
        | false=>rfl
        | true =>
          have:=Gg bt ir tr k j (by omega)
          rw [tr _ _ _ q hb] at this
          cases this
      · have:j=k+1:=by omega
        subst this
        exact ir _
    · rename_i hb
      rcases Nat.lt_or_ge j (k+1) with z | z
      · exact Gg bt ir tr k j (by omega)
      · have:j=k+1:=by omega
        subst this
        simpa using hb
theorem V0:∀ a b c:List Int,HT.lexLt a b=true→HT.lexLt b c=true→HT.lexLt a c=true
  | [],[],_,h,_=>by cases h
  | [],_ :: _,[],_,h=>by cases h
  | [],_ :: _,_ :: _,_,_=>rfl
  | _ :: _,[],_,h,_=>by cases h
  | _ :: _,_ :: _,[],_,h=>by cases h
  | x :: a,y :: b,z :: c,h1,h2=>by
    rw [HT.Ez] at h1 h2 ⊢
    by_cases e1:x=y
    · subst e1
      rw [if_pos rfl] at h1
      by_cases e2:x=z
      · subst e2
        rw [if_pos rfl] at h2 ⊢
        exact V0 a b c h1 h2
      · rw [if_neg e2] at h2 ⊢
        exact h2
    · rw [if_neg e1] at h1
      have h1:=of_decide_eq_true h1
      by_cases e2:y=z
      · subst e2
        rw [if_neg e1]
        exact decide_eq_true h1
      · rw [if_neg e2] at h2
        have h2:=of_decide_eq_true h2
        rw [if_neg (by omega)]
        exact decide_eq_true (by omega)
theorem AdC (a b c:List Int × List Int) (h1:Fx a b=true) (h2:Fx b c=true):Fx a c=true:=by
  unfold Fx at *
  by_cases e1:a.1=b.1
  · rw [if_pos e1] at h1
    by_cases e2:b.1=c.1
    · rw [if_pos e2] at h2
      rw [if_pos (e1.trans e2)]
      exact V0 _ _ _ h1 h2
    · rw [if_neg e2] at h2
      rw [if_neg (by rw [e1];exact e2),e1]
      exact h2
  · rw [if_neg e1] at h1
    by_cases e2:b.1=c.1
    · rw [←e2,if_neg e1]
      exact h1
    · rw [if_neg e2] at h2
      have h3:=V0 _ _ _ h1 h2
      by_cases e3:a.1=c.1
      · rw [e3,LC] at h3
        cases h3
      · rw [if_neg e3]
        exact h3
theorem Aav (a:List Int × List Int):Fx a a=false:=by
  unfold Fx
  rw [if_pos rfl,LC]
theorem ZM {a b:List Int × List Int} (h:Fx a b=false):HT.lexLt a.1 b.1=false:=by
  unfold Fx at h
  by_cases e:a.1=b.1
  · rw [e];exact LC _
  · rw [if_neg e] at h;exact h
theorem Vu (T:Txt K mg)
    (G_check_saddle:Pm P w K mg base 4 "check_saddle" Ce ["form"] Eu)
    (G_stops_round:Pm P w K mg base 6 "stops_round" Dg ["form"] G9)
    : Pm P w K mg base 7 "lowered" GQ ["form"] Qh:=by
  obtain ⟨f,fd,F⟩:=T.t_lowered
  refine ⟨f,fd,F,F.fn.okD WM (by walk_at "lE") fun cdv A outer s H E hr=>⟨_,(Ad (Ek (Ag Ae G_check_saddle (hr.mono (by decide)) rfl (Aa (dv 0) Af))) (Ah (Aq (Ac8 T.z_min (Ae7 hr.units) (Aa (Ag Ae G_stops_round (hr.mono (by decide)) rfl (Aa (dv 0) Af)) Af))))),fun ds Q h=>?_⟩⟩
  obtain ⟨f,rfl,⟨hb,hS⟩,q⟩:=h
  walk_at "go"
  refine Aj f ⟨hb,hS⟩ (Av f ⟨hb,hS⟩ ?_)
  rintro _ ⟨t0,far,N,R,rfl⟩
  have nm:=R.m
  let ps:List (List Int × List Int):=(List.range (N+1)).map fun i=>(Hg (rF far i (mov f t0)),Afl (Ao t0 (rT far i (mov f t0))))
  have lp:ps.length=N+1:=by show ((List.range (N+1)).map _).length=_;rw [List.length_map,List.length_range]
  have ep:(List.range (N+1)).map (Ep f t0 far)=ps.map Mr:=by
    show _=((List.range (N+1)).map _).map Mr
    rw [List.map_map]
    rfl
  have at':∀ i,i≤N→ps.getD i ([],[])=(Hg (rF far i (mov f t0)),Afl (Ao t0 (rT far i (mov f t0)))):=fun i hi=>by
    show ((List.range (N+1)).map _).getD i _=_
    simp [List.getD,show i < N+1 by omega]
  have kl:Ks ps≤N:=by
    have:=Ky (fun i j=>Fx (ps.getD i ([],[])) (ps.getD j ([],[]))) (ps.length - 1)
    unfold Ks
    omega
  have least:∀ i,i≤N→Fx (ps.getD i ([],[])) (ps.getD (Ks ps) ([],[]))=false:=fun i hi =>
    Gg (fun i j=>Fx (ps.getD i ([],[])) (ps.getD j ([],[]))) (fun _=>Aav _) (fun _ _ _ h1 h2=>AdC _ _ _ h1 h2) _ i (by omega)
  refine ⟨ps,by rw [ep],by omega,by omega,q _ ⟨t0,far,N,Ks ps,R,kl,fun i hi=>?_,?_,rfl⟩⟩
  · have:=ZM (least i hi)
    rw [at' i hi,at' _ kl] at this
    exact this
  · rw [at' _ kl]
    rfl
noncomputable abbrev Zc (c:Str) (f:I3) (d:Dt):Dt:=.obj c ["form","measure","lowest"] [t3 f,.int (meas f),d]
noncomputable abbrev Mh:DIn:=Ri (fun p:I3 × Dt=>[t3 p.1,p.2]) (fun p=>B3 1500 p.1) fun p fds=>fds=[t3 p.1,.int (meas p.1),p.2]
noncomputable abbrev Vj:DIn:=Ri (fun f:I3=>[t3 f]) (fun f=>B3 1500 f∧Bm f) fun f fds=>∃ d,JK f d∧fds=[t3 f,.int (meas f),d]
noncomputable abbrev O7:DIn:=Ri (fun f:I3=>[t3 f]) (fun f=>B3 1500 f∧Sad f) fun f fds=>∃ d,Low f d∧fds=[t3 f,.int (meas f),d]
theorem YG (T:Txt K mg)
    (G_measure:Pm P w K mg base 1 "measure" CJ ["form"] DY)
    : PmC P w K mg base 2 "Shape" ["form","measure","lowest"] Mh:=by
  obtain ⟨g,fd,M,F,B⟩:=T.cm_Shape
  refine ⟨g,fd,_,M,B,F.ok Ys (fun vs H Q E ⟨x,C,dx,ys,F',ds,e,_,_,_,_,_,r,h⟩=>by obtain ⟨p,ed,_⟩:=h;rw [e,List.length_cons,r.len,ed];rfl) fun cdv A outer s H vs Q E hr ⟨x,C,dx,ys,F',ds,e,hx,cl,no,xF,th,r,h⟩=>?_⟩
  subst e
  refine ⟨_,Abr (dv 1) (Ag Ae G_measure (hr.mono (by decide)) rfl (Aa (dv 1) Af)) (dv 2) (by decide) (by decide) (by decide),mask [x] H,F',Im ["self","form","lowest"] ds,x,C,dx,(fun fds:List Dt=>∀ (ws:List V) (H':Hp),Same (mask [x] H) H'→H' x=some (.ins C dx (List.zip ["form","measure","lowest"] ws))→List.length ["form","measure","lowest"]=fds.length→RpL K (mask F' H') fds ws→Q .non H'),Ko xF th r,xF,Dq (by simp),rfl,hx,cl,no,?_,fun fds w ws H' s1 h1 h2 h3=>w ws H' s1 h1 h2 h3⟩
  revert h
  generalize (fun fds:List Dt=>∀ (ws:List V) (H':Hp),Same (mask [x] H) H'→H' x=some (.ins C dx (List.zip ["form","measure","lowest"] ws))→List.length ["form","measure","lowest"]=fds.length→RpL K (mask F' H') fds ws→Q .non H')=S
  intro h
  obtain ⟨⟨f,l⟩,rfl,hb,hq⟩:=h
  have hb:B3 1500 f:=hb
  have e:Im ["self","form","lowest"] [t3 f,l]=[none,some (.is (t3 f)),some (.is l)]:=rfl
  dsimp only
  rw [e]
  walk_at "rd"
  exact Aj f (hb.le (by decide)) (hq _ rfl)
theorem Aag (T:Txt K mg)
    (GC_Shape:PmC P w K mg base 2 "Shape" ["form","measure","lowest"] Mh)
    (G_settled:Pm P w K mg base 5 "settled" GX ["form"] Pb)
    : PmI P w K mg base 6 "Bowl" ["form","measure","lowest"] Vj:=by
  obtain ⟨C0,f,fd,M,F,B⟩:=T.o_Bowl
  obtain ⟨gC,fdC,psC,MC,BC,GC⟩:=GC_Shape
  refine ⟨C0,f,fd,_,M,B,F.ok Abq (fun vs H Q E ⟨x,C,dx,ys,F',ds,e,_,_,_,_,_,r,h⟩=>by obtain ⟨p,ed,_⟩:=h;rw [e,List.length_cons,r.len,ed];rfl) fun cdv A outer s H vs Q E hr ⟨x,C,dx,ys,F',ds,e,hx,cl,no,xF,th,r,h⟩=>?_⟩
  subst e
  refine ⟨_,Ur Jf MC rfl GC BC (hr.mono (by decide)) (Aa (dv 1) (Aa (Ag Ae G_settled (hr.mono (by decide)) rfl (Aa (dv 1) Af)) Af)),mask [x] H,F',Im ["self","form"] ds,x,C,dx,(fun fds:List Dt=>∀ (ws:List V) (H':Hp),Same (mask [x] H) H'→H' x=some (.ins C dx (List.zip ["form","measure","lowest"] ws))→List.length ["form","measure","lowest"]=fds.length→RpL K (mask F' H') fds ws→Q .non H'),Ko xF th r,xF,Dq (by simp),rfl,hx,cl,no,?_,fun fds w ws H' s1 h1 h2 h3=>w ws H' s1 h1 h2 h3⟩
  revert h
  generalize (fun fds:List Dt=>∀ (ws:List V) (H':Hp),Same (mask [x] H) H'→H' x=some (.ins C dx (List.zip ["form","measure","lowest"] ws))→List.length ["form","measure","lowest"]=fds.length→RpL K (mask F' H') fds ws→Q .non H')=S
  intro h
  obtain ⟨f,rfl,⟨hb,hw⟩,hq⟩:=h
  have e:Im ["self","form"] [t3 f]=[none,some (.is (t3 f))]:=rfl
  rw [e]
  walk_at "rd"
  refine Av f ⟨hb,hw⟩ fun d hd=>?_
  refine Ly (f,d) hb ?_
  rintro _ rfl
  exact hq _ ⟨d,hd,rfl⟩
theorem WK (T:Txt K mg)
    (GC_Shape:PmC P w K mg base 2 "Shape" ["form","measure","lowest"] Mh)
    (G_lowered:Pm P w K mg base 7 "lowered" GQ ["form"] Qh)
    : PmI P w K mg base 8 "Saddle" ["form","measure","lowest"] O7:=by
  obtain ⟨C0,f,fd,M,F,B⟩:=T.o_Saddle
  obtain ⟨gC,fdC,psC,MC,BC,GC⟩:=GC_Shape
  refine ⟨C0,f,fd,_,M,B,F.ok Wu (fun vs H Q E ⟨x,C,dx,ys,F',ds,e,_,_,_,_,_,r,h⟩=>by obtain ⟨p,ed,_⟩:=h;rw [e,List.length_cons,r.len,ed];rfl) fun cdv A outer s H vs Q E hr ⟨x,C,dx,ys,F',ds,e,hx,cl,no,xF,th,r,h⟩=>?_⟩
  subst e
  refine ⟨_,Ur Jf MC rfl GC BC (hr.mono (by decide)) (Aa (dv 1) (Aa (Ag Ae G_lowered (hr.mono (by decide)) rfl (Aa (dv 1) Af)) Af)),mask [x] H,F',Im ["self","form"] ds,x,C,dx,(fun fds:List Dt=>∀ (ws:List V) (H':Hp),Same (mask [x] H) H'→H' x=some (.ins C dx (List.zip ["form","measure","lowest"] ws))→List.length ["form","measure","lowest"]=fds.length→RpL K (mask F' H') fds ws→Q .non H'),Ko xF th r,xF,Dq (by simp),rfl,hx,cl,no,?_,fun fds w ws H' s1 h1 h2 h3=>w ws H' s1 h1 h2 h3⟩
  revert h
  generalize (fun fds:List Dt=>∀ (ws:List V) (H':Hp),Same (mask [x] H) H'→H' x=some (.ins C dx (List.zip ["form","measure","lowest"] ws))→List.length ["form","measure","lowest"]=fds.length→RpL K (mask F' H') fds ws→Q .non H')=S
  intro h
  obtain ⟨f,rfl,⟨hb,hw⟩,hq⟩:=h
  have e:Im ["self","form"] [t3 f]=[none,some (.is (t3 f))]:=rfl
  rw [e]
  walk_at "rd"
  refine Av f ⟨hb,hw⟩ fun d hd=>?_
  refine Ly (f,d) hb ?_
  rintro _ rfl
  exact hq _ ⟨d,hd,rfl⟩
noncomputable abbrev Rz:DSp:=BL (fun p:Str × I3 × Dt=>[Zc p.1 p.2.1 p.2.2]) (fun p=>p.1="Bowl"∨p.1="Saddle") fun p=>p.2.2
theorem Y8 (T:Txt K mg)
    : PmM P w K mg base 1 ["Bowl","Saddle"] "least" Rz:=by
  obtain ⟨g,fd,hm,kp,F,B⟩:=T.me_least
  refine ⟨g,fd,_,hm,kp,B,F.okD YF (by walk_at "lE") fun cdv A outer s H E hr=>⟨_,(Ah (Aq (JD (dv 0)))),fun ds Q h=>?_⟩⟩
  obtain ⟨⟨c,f,d⟩,rfl,hc,q⟩:=h
  have q':=q _ rfl
  walk_at "go"
  have na:Qf K c "lowest":=by
    rcases hc with e | e
    · have e:c="Bowl":=e
      rw [e];exact T.na_Bowl_lowest
    · have e:c="Saddle":=e
      rw [e];exact T.na_Saddle_lowest
  exact ⟨na,d,rfl,q'⟩
noncomputable abbrev Gk:DSp:=spec (fun f:I3=>[t3 f]) (fun f=>B3 1500 f∧(Bm f∨Sad f)) fun f d=>∃ l,(Bm f∧JK f l∧d=Zc "Bowl" f l)∨(Sad f∧Low f l∧d=Zc "Saddle" f l)
theorem Ua (T:Txt K mg)
    (GI_Bowl:PmI P w K mg base 6 "Bowl" ["form","measure","lowest"] Vj)
    (GI_Saddle:PmI P w K mg base 8 "Saddle" ["form","measure","lowest"] O7)
    (G_shape:Pm P w K mg base 3 "shape" Hs ["form"] K1)
    : Pm P w K mg base 10 "shape_of" Ds ["form"] Gk:=by
  obtain ⟨f,fd,F⟩:=T.t_shape_of
  refine ⟨f,fd,F,F.fn.okD Uh (by walk_at "lE") fun cdv A outer s H E hr=>⟨_,(Ad (Ci (O3 hr.units (Ag Ae G_shape (hr.mono (by decide)) rfl (Aa (dv 0) Af)) Ku) (Ah (Aq (Ub Jf GI_Bowl (hr.mono (by decide)) rfl (Aa (dv 0) Af)))) Bf) (Ah (Aq (Ub Jf GI_Saddle (hr.mono (by decide)) rfl (Aa (dv 0) Af))))),fun ds Q h=>?_⟩⟩
  obtain ⟨f,rfl,⟨hb,hw⟩,q⟩:=h
  have hb:B3 1500 f:=hb
  have hw:Bm f∨Sad f:=hw
  walk_at "go"
  refine Av f hb ?_
  rintro _ hs
  have fb:∀ x:Str,(PySem.PyData.str x).canLay0=true→Dt.flat 8 (.str x)=true:=fun x h=>by rw [R8];exact h
  have f1:Dt.flat 8 (.str "bowl")=true:=fb _ (by decide +kernel)
  have f2:Dt.flat 8 (.str "saddle")=true:=fb _ (by decide +kernel)
  have mkS:Sad f→Ri (fun f:I3=>[t3 f]) (fun f=>B3 1500 f∧Sad f) (fun f fds=>∃ d,Low f d∧fds=[t3 f,Dt.int (meas f),d]) [t3 f] fun fds=>Q (Dt.obj "Saddle" ["form","measure","lowest"] fds):=fun hS=>by
    refine Ly f ⟨hb,hS⟩ ?_
    rintro _ ⟨l,hl,rfl⟩
    exact q _ ⟨l,.inr ⟨hS,hl,rfl⟩⟩
  cases hs with
  | flat z =>
    rcases hw with hw | hw
    · exact absurd z (KY hw.2)
    · exact absurd z hw.no
  | saddle _ z =>
    rcases hw with hw | hw
    · have:=hw.2;omega
    · exact ⟨⟨f2,f1⟩,Es (by rw [Ul];rfl) (mkS hw)⟩
  | dome _ z1 z2 =>
    rcases hw with hw | hw
    · exact absurd hw.1 z2
    · exact absurd hw.pos z1
  | bowl _ z1 z2 =>
    rcases hw with hw | hw
    · refine ⟨⟨f1,f1⟩,ift (by rw [Ul];rfl) (Ly f ⟨hb,hw⟩ ?_)⟩
      rintro _ ⟨l,hl,rfl⟩
      exact q _ ⟨l,.inl ⟨hw,hl,rfl⟩⟩
    · exact absurd hw.pos z1
noncomputable def LF (f g:I3):Prop:=(Bm f∧∃ t,det t=1∧DQ (mov f t)∧g=mov f t)∨(Sad f∧∃ t0 far N j,Iv f t0 far N∧j≤N∧(∀ i,i≤N→HT.lexLt (Hg (rF far i (mov f t0))) (Hg (rF far j (mov f t0)))=false)∧g=rF far j (mov f t0))
theorem Xd {f g:I3} (h1:HT.lexLt (Hg f) (Hg g)=false) (h2:HT.lexLt (Hg g) (Hg f)=false):f=g:=by
  obtain ⟨x1,x2,x3⟩:=f
  obtain ⟨y1,y2,y3⟩:=g
  simp only [Hg,HT.Ez,HT.Gi] at h1 h2
  have e1:x1=y1:=by
    rcases Int.lt_trichotomy x1 y1 with z | z | z
    · rw [if_neg (by omega)] at h1;simp at h1;omega
    · exact z
    · rw [if_neg (by omega)] at h2;simp at h2;omega
  subst e1
  rw [if_pos rfl] at h1 h2
  have e2:x2=y2:=by
    rcases Int.lt_trichotomy x2 y2 with z | z | z
    · rw [if_neg (by omega)] at h1;simp at h1;omega
    · exact z
    · rw [if_neg (by omega)] at h2;simp at h2;omega
  subst e2
  rw [if_pos rfl] at h1 h2
  have e3:x3=y3:=by
    rcases Int.lt_trichotomy x3 y3 with z | z | z
    · rw [if_neg (by omega)] at h1;simp at h1;omega
    · exact z
    · rw [if_neg (by omega)] at h2;simp at h2;omega
  rw [e3]
theorem Kr {far:Int} {g:I3} {N:Nat} (e:rF far N g=g):∀ q,rF far (N*q) g=g
  | 0=>rfl
  | q+1=>by rw [Nat.mul_succ,Cg,Kr e q,e]
theorem JB {far:Int} {g:I3} {N:Nat} (e:rF far N g=g) (n0:0 < N) (n:Nat):∃ i,i≤N∧rF far n g=rF far i g:=by
  have h1:=Nat.mod_lt n n0
  have h2:=Nat.div_add_mod n N
  refine ⟨n % N,by omega,?_⟩
  have:rF far (N*(n / N)+n % N) g=rF far (n % N) g:=by rw [Cg,Kr e]
  rw [h2] at this
  exact this
theorem JT {far:Int} {g h:I3} {N m:Nat} (e:rF far N h=h) (n0:0 < N) (k:rF far m h=g):∃ j,rF far j g=h:=by
  refine ⟨N*m - m,?_⟩
  rw [←k,←Cg]
  have:m≤N*m:=Nat.le_mul_of_pos_left m n0
  rw [show m+(N*m - m)=N*m by omega,Kr e]
theorem LF.uniq {f g h:I3} (A:LF f g) (B:LF f h):g=h:=by
  rcases A with ⟨hb,t,dt,Lt,rfl⟩ | ⟨hS,t0,far,N,j,R,jl,lj,rfl⟩ <;> rcases B with ⟨hb',u,du,Lu,rfl⟩ | ⟨hS',t1,far1,N1,k,R1,kl,lk,rfl⟩
  · have e:mov (mov f t) (Ao (Ar t) u)=mov f u:=by rw [←Bg,Bq dt]
    have:=DQ.one Lt (t:=Ao (Ar t) u) (by rw [e];exact Lu) (by rw [Cj,CV,dt,du];rfl)
    rw [e] at this
    exact this.symm
  · have:=hb.2;have:=hS'.pos;omega
  · have:=hb'.2;have:=hS.pos;omega
  · have ef:far=far1:=R.r.uniq R1.r
    subst ef
    have e1:mov (mov f t0) (Ao (Ar t0) t1)=mov f t1:=by rw [←Bg,Bq R.d]
    have d1:det (Ao (Ar t0) t1)=1:=by rw [Cj,CV,R.d,R1.d];rfl
    have en:N=N1:=(Rv R.v R1.v d1 e1 R.e R.l R1.e R1.l R.n R1.n).1
    subst en
    have hm:∃ m,rF far m (mov f t0)=mov f t1:=by
      rcases K6 R.v R1.v d1 e1 with ⟨m,s⟩ | ⟨m,s⟩
      · exact ⟨m,by rw [←Ey,←s.mov,e1]⟩
      · have e2:mov (mov f t1) (Ar (Ao (Ar t0) t1))=mov f t0:=by rw [←e1,Bq d1]
        exact JT (m:=m) R1.e R1.n (by rw [←Ey,←s.mov,e2])
    obtain ⟨m,hm⟩:=hm
    obtain ⟨m',hm'⟩:=JT R.e R.n hm
    obtain ⟨i1,a1,b1⟩:=JB R.e R.n (m+k)
    obtain ⟨i2,a2,b2⟩:=JB R1.e R1.n (m'+j)
    have h1:=lj i1 a1
    have h2:=lk i2 a2
    rw [←b1,Cg,hm] at h1
    rw [←b2,Cg,hm'] at h2
    exact (Xd h1 h2).symm
theorem Aby {f:I3} {l:Dt} (h:(Bm f∧JK f l)∨(Sad f∧Low f l)):∃ g:I3,∃ x:Dt,l=.tup [t3 g,x]∧LF f g:=by
  rcases h with ⟨hb,t,rfl,dt,L,_⟩ | ⟨hS,t0,far,N,j,R,jl,lj,rfl,_⟩
  · exact ⟨_,_,rfl,.inl ⟨hb,t,dt,L,rfl⟩⟩
  · exact ⟨_,_,rfl,.inr ⟨hS,t0,far,N,j,R,jl,lj,rfl⟩⟩
noncomputable abbrev Nh:DSp:=spec (fun f:I3=>[t3 f]) (fun f=>B3 1500 f∧(Bm f∨Sad f)) fun f d=>∃ g,d=t3 g∧LF f g
theorem Us (T:Txt K mg)
    (G_shape_of:Pm P w K mg base 10 "shape_of" Ds ["form"] Gk)
    : Pm P w K mg base 11 "least_of" Gb ["form"] Nh:=by
  obtain ⟨f,fd,F⟩:=T.t_least_of
  refine ⟨f,fd,F,F.fn.okD Vt (by walk_at "lE") fun cdv A outer s H E hr=>⟨_,(Ah (Aq (Ac (JD (Ag Ae G_shape_of (hr.mono (by decide)) rfl (Aa (dv 0) Af))) Ab))),fun ds Q h=>?_⟩⟩
  obtain ⟨f,rfl,⟨hb,hw⟩,q⟩:=h
  walk_at "go"
  refine Av f ⟨hb,hw⟩ ?_
  rintro _ ⟨l,⟨hf,hl,rfl⟩ | ⟨hf,hl,rfl⟩⟩
  · obtain ⟨g,x,rfl,L⟩:=Aby (.inl ⟨hf,hl⟩)
    walk_at "rd"
    exact ⟨T.na_Bowl_lowest,_,rfl,q _ ⟨g,rfl,L⟩⟩
  · obtain ⟨g,x,rfl,L⟩:=Aby (.inr ⟨hf,hl⟩)
    walk_at "rd"
    exact ⟨T.na_Saddle_lowest,_,rfl,q _ ⟨g,rfl,L⟩⟩
noncomputable def N8 (f:I3) (l:Dt):Prop:=(Bm f∧JK f l)∨(Sad f∧Low f l)
theorem N8.uniq {f:I3} {l m:Dt} (A:N8 f l) (B:N8 f m):l=m:=by
  rcases A with ⟨hb,t,rfl,_,_,_,a⟩ | ⟨hS,t0,far,N,j,R,_,_,rfl,ej⟩ <;> rcases B with ⟨hb',u,rfl,_,_,_,b⟩ | ⟨hS',t1,far1,N1,k,R1,_,_,rfl,ek⟩
  · rw [a.uniq b]
  · have:=hb.2;have:=hS'.pos;omega
  · have:=hb'.2;have:=hS.pos;omega
  · have ef:far=far1:=R.r.uniq R1.r
    subst ef
    have et:=R.a.uniq R1.a
    subst et
    have en:N=N1:=by
      rcases Nat.lt_trichotomy N N1 with z | z | z
      · exact absurd R.e (R1.l N R.n z)
      · exact z
      · exact absurd R1.e (R.l N1 R1.n z)
    subst en
    rw [ej,ek]
theorem LF.same {f h g g':I3} {x:I4} (A:LF f g) (B:LF h g') (dx:det x=1) (ex:mov f x=h):g=g':=by
  have hm:meas h=meas f:=by rw [←ex,Bu dx]
  rcases A with ⟨hb,t,dt,Lt,rfl⟩ | ⟨hS,t0,far,N,j,R,jl,lj,rfl⟩ <;> rcases B with ⟨hb',u,du,Lu,rfl⟩ | ⟨hS',t1,far1,N1,k,R1,kl,lk,rfl⟩
  · have e:mov (mov f t) (Ao (Ar t) (Ao x u))=mov h u:=by rw [←Bg,Bq dt,←Bg,ex]
    have:=DQ.one Lt (t:=Ao (Ar t) (Ao x u)) (by rw [e];exact Lu) (by rw [Cj,Cj,CV,dt,dx,du];rfl)
    rw [e] at this
    exact this.symm
  · have:=hb.2;have:=hS'.pos;omega
  · have:=hb'.2;have:=hS.pos;omega
  · have ef:far=far1:=R.r.uniq (by rw [←hm];exact R1.r)
    subst ef
    have e1:mov (mov f t0) (Ao (Ar t0) (Ao x t1))=mov h t1:=by rw [←Bg,Bq R.d,←Bg,ex]
    have d1:det (Ao (Ar t0) (Ao x t1))=1:=by rw [Cj,Cj,CV,R.d,dx,R1.d];rfl
    have en:N=N1:=(Rv R.v R1.v d1 e1 R.e R.l R1.e R1.l R.n R1.n).1
    subst en
    have hm:∃ m,rF far m (mov f t0)=mov h t1:=by
      rcases K6 R.v R1.v d1 e1 with ⟨m,s⟩ | ⟨m,s⟩
      · exact ⟨m,by rw [←Ey,←s.mov,e1]⟩
      · have e2:mov (mov h t1) (Ar (Ao (Ar t0) (Ao x t1)))=mov f t0:=by rw [←e1,Bq d1]
        exact JT (m:=m) R1.e R1.n (by rw [←Ey,←s.mov,e2])
    obtain ⟨m,hm⟩:=hm
    obtain ⟨m',hm'⟩:=JT R.e R.n hm
    obtain ⟨i1,a1,b1⟩:=JB R.e R.n (m+k)
    obtain ⟨i2,a2,b2⟩:=JB R1.e R1.n (m'+j)
    have h1:=lj i1 a1
    have h2:=lk i2 a2
    rw [←b1,Cg,hm] at h1
    rw [←b2,Cg,hm'] at h2
    exact (Xd h1 h2).symm
theorem ZC {f:I3} {l:Dt} (h:N8 f l):∃ (g:I3) (t:I4),l=.tup [t3 g,t4 t]∧LF f g∧det t=1∧mov f t=g∧B4 90000 t:=by
  rcases h with ⟨hb,t,rfl,dt,L,bt,_⟩ | ⟨hS,t0,far,N,j,R,jl,lj,rfl,_⟩
  · exact ⟨_,t,rfl,.inl ⟨hb,t,dt,L,rfl⟩,dt,rfl,bt.le (by decide)⟩
  · exact ⟨_,_,rfl,.inr ⟨hS,t0,far,N,j,R,jl,lj,rfl⟩,by rw [Cj,R.d,Mj];rfl,by rw [←Bg,Ey],R.bt j jl⟩
theorem Lg {f:I3} {d:Dt} (h:∃ l,(Bm f∧JK f l∧d=Zc "Bowl" f l)∨(Sad f∧Low f l∧d=Zc "Saddle" f l)):∃ (c:Str) (l:Dt),(c="Bowl"∨c="Saddle")∧d=Zc c f l∧N8 f l:=by
  obtain ⟨l,⟨h1,h2,rfl⟩ | ⟨h1,h2,rfl⟩⟩:=h
  · exact ⟨_,l,.inl rfl,rfl,.inl ⟨h1,h2⟩⟩
  · exact ⟨_,l,.inr rfl,rfl,.inr ⟨h1,h2⟩⟩
theorem Aan {K:PySem.W.Frag} {mg:Str→Option Value} (T:Txt K mg) {c:Str} (hc:c="Bowl"∨c="Saddle"):Qf K c "lowest":=by
  rcases hc with e | e <;> rw [e]
  · exact T.na_Bowl_lowest
  · exact T.na_Saddle_lowest
theorem Xq {K:PySem.W.Frag} {mg:Str→Option Value} (T:Txt K mg) {c:Str} (hc:c="Bowl"∨c="Saddle"):Qf K c "measure":=by
  rcases hc with e | e <;> rw [e]
  · exact T.na_Bowl_measure
  · exact T.na_Saddle_measure
noncomputable abbrev Jq:DSp:=BL (fun p:(I3 × I4) × (I3 × I4)=>[.tup [t3 p.1.1,t4 p.1.2],.tup [t3 p.2.1,t4 p.2.2]]) (fun p=>B4 90000 p.1.2∧B4 90000 p.2.2∧det p.2.2=1) fun p=>if p.1.1=p.2.1 then t4 (Ao p.1.2 (Ar p.2.2)) else .non
theorem Qg (T:Txt K mg)
    (G_put_behind:Pm P w K mg base 1 "put_behind" Dc ["one","other"] Ge)
    (G_back:Pm P w K mg base 3 "back" Kq ["turn"] SQ)
    : Pm P w K mg base 4 "way_between" Dz ["one","other"] Jq:=by
  obtain ⟨f,fd,F⟩:=T.t_way_between
  refine ⟨f,fd,F,F.fn.okD Ou (by walk_at "lE") fun cdv A outer s H E hr=>⟨_,(Ad (Ci (Gm hr.units (Ac (dv 0) Ab) (Ac (dv 1) Ab)) (Ah (Aq Abt)) Bf) (Ah (Aq (Ag Ae G_put_behind (hr.mono (by decide)) rfl (Aa (Ac (dv 0) Ab) (Aa (Ag Ae G_back (hr.mono (by decide)) rfl (Aa (Ac (dv 1) Ab) Af)) Af)))))),fun ds Q h=>?_⟩⟩
  obtain ⟨⟨⟨g,t⟩,h,u⟩,rfl,⟨bt,bu,du⟩,q⟩:=h
  have bt:B4 90000 t:=bt
  have bu:B4 90000 u:=bu
  have q':Q (if g=h then t4 (Ao t (Ar u)) else .non):=q _ rfl
  walk_at "go"
  by_cases e:g=h
  · rw [if_pos e] at q'
    subst e
    exact Es (by simp) (Aj u ⟨bu.le (by decide),du⟩ (Aj (t,Ar u) ⟨bt.le (by decide),bu.back.le (by decide)⟩ q'))
  · rw [if_neg e] at q'
    refine ift ?_ q'
    rw [Bool.not_eq_true',Bool.eq_false_iff]
    intro w
    simp only [Bool.and_eq_true,decide_eq_true_eq] at w
    exact e (Prod.ext w.1 (Prod.ext w.2.1 w.2.2))
theorem Hr {n:Nat} {a b:Int} (ha:Bt n a) (h:b≠0):Bt (n+1) (a.fdiv b):=by
  have hb:1≤b.natAbs:=by omega
  have h1:=Je (a:=a) h
  have e:b*a.fdiv b=a - a.fmod b:=by rw [Dv];grind
  have e2:b.natAbs*(a.fdiv b).natAbs=(a - a.fmod b).natAbs:=by rw [←Int.natAbs_mul,e]
  unfold Bt at *
  rw [Nat.pow_succ]
  by_cases h0:a.fdiv b=0
  · rw [h0];have:=Nat.two_pow_pos n;simp;omega
  · rcases Nat.lt_or_ge a.natAbs b.natAbs with hc | hc
    · have h3:(a - a.fmod b).natAbs < 2*b.natAbs:=by omega
      have h4:(a.fdiv b).natAbs < 2:=by
        refine Nat.lt_of_mul_lt_mul_left (a:=b.natAbs) ?_
        rw [e2];omega
      have:=Nat.two_pow_pos n
      omega
    · have h3:(a - a.fmod b).natAbs≤2*a.natAbs:=by omega
      have h4:(a.fdiv b).natAbs≤b.natAbs*(a.fdiv b).natAbs:=Nat.le_mul_of_pos_left _ hb
      omega
theorem Q7 {n:Nat} {t b:Int} (h:Bt n (t*b)) (hb:b≠0):Bt n t:=by
  unfold Bt at *
  rw [Int.natAbs_mul] at h
  have h4:t.natAbs≤t.natAbs*b.natAbs:=Nat.le_mul_of_pos_right _ (by omega)
  omega
structure Rows (a b n u v m s t:Int):Prop where
  r1:n=u*a+v*b
  r2:m=s*a+t*b
  g:Int.gcd n m=Int.gcd a b
  n0:Bt 800 n
  m0:Bt 800 m
  u0:Bt 801 u
  s0:Bt 801 s
  v0:Bt 2000 v
  t0:Bt 2000 t
structure Lat (b n u m s:Int):Prop where
  ex:∃ e d N M U S B:Int,n=e*N∧m=e*M∧u=d*U∧s=d*S∧b=e*B∧(e=1∨e=-1)∧(d=1∨d=-1)∧0 < N∧0≤M∧U≤0∧0≤S∧N*S - M*U=B∧-U≤B
theorem Lat.first {a b:Int} (h:b≠0):Lat b b 0 (a.fmod b) 1:=by
  rcases Int.lt_or_lt_of_ne h with h | h
  · have e:a.fmod b=-((-a).fmod (-b)):=by rw [Dv,Dv,Int.neg_fdiv_neg];grind
    have h1:=Int.fmod_nonneg_of_pos (-a) (show 0 < -b by omega)
    exact ⟨-1,1,-b,(-a).fmod (-b),0,1,-b,by omega,by omega,by omega,by omega,by omega,.inr rfl,.inl rfl,by omega,h1,by omega,by omega,by simp,by omega⟩
  · have h1:=Int.fmod_nonneg_of_pos a h
    exact ⟨1,1,b,a.fmod b,0,1,b,by omega,by omega,by omega,by omega,by omega,.inl rfl,.inl rfl,by omega,h1,by omega,by omega,by simp,by omega⟩
theorem Lat.step {b n u m s:Int} (L:Lat b n u m s) (h:m≠0):Lat b m s (n - n.fdiv m*m) (u - n.fdiv m*s):=by
  obtain ⟨e,d,N,M,U,S,B,hn,hm,hu,hs,hb,he,hd,hN,hM,hU,hS,hE,hUB⟩:=L.ex
  have hM':0 < M:=by
    rcases Int.lt_or_eq_of_le hM with z | z
    · exact z
    · rw [←z] at hm;simp at hm;exact absurd hm h
  have q1:n.fdiv m=N.fdiv M:=by
    rw [hn,hm]
    rcases he with rfl | rfl
    · simp
    · simp [Int.neg_fdiv_neg]
  have q2:0≤N.fdiv M:=Int.fdiv_nonneg (by omega) (by omega)
  have q3:0≤N - M*N.fdiv M:=by rw [←Dv];exact Int.fmod_nonneg_of_pos N hM'
  rw [q1]
  generalize N.fdiv M=q at *
  have hSB:S≤B:=by
    have z1:0≤M*(-U):=Int.mul_nonneg hM (by omega)
    have z2:0≤(N - 1)*S:=Int.mul_nonneg (by omega) hS
    have:N*S - M*U=(N - 1)*S+S+M*(-U):=by grind
    omega
  have z3:0≤q*S:=Int.mul_nonneg q2 hS
  refine ⟨e,-d,M,N - M*q,-S,q*S - U,B,hm,?_,?_,?_,hb,he,?_,hM',q3,by omega,by omega,?_,by omega⟩
  · rw [hn,hm];grind
  · rw [hs];grind
  · rw [hu,hs];grind
  · rcases hd with rfl | rfl
    · exact .inr rfl
    · exact .inl rfl
  · rw [←hE];grind
theorem Lat.bounds {b n u m s:Int} (L:Lat b n u m s):u.natAbs≤b.natAbs∧s.natAbs≤b.natAbs:=by
  obtain ⟨e,d,N,M,U,S,B,hn,hm,hu,hs,hb,he,hd,hN,hM,hU,hS,hE,hUB⟩:=L.ex
  have z1:0≤M*(-U):=Int.mul_nonneg hM (by omega)
  have z2:0≤(N - 1)*S:=Int.mul_nonneg (by omega) hS
  have:N*S - M*U=(N - 1)*S+S+M*(-U):=by grind
  have hSB:S≤B:=by omega
  rcases he with rfl | rfl <;> rcases hd with rfl | rfl <;> omega
theorem Rows.first {a b:Int} (ha:Bt 800 a) (hb:Bt 800 b):Rows a b a 1 0 b 0 1 :=
  ⟨by omega,by omega,rfl,ha,hb,Bt.one.le (by decide),Bt.zero.le (by decide),Bt.zero.le (by decide),Bt.one.le (by decide)⟩
theorem Rows.step {a b n u v m s t:Int} (R:Rows a b n u v m s t) (ha:Bt 800 a) (hb:Bt 800 b) (hbn:b≠0) (h:m≠0) (L:Lat b m s (n - n.fdiv m*m) (u - n.fdiv m*s)) :
    Rows a b m s t (n - n.fdiv m*m) (u - n.fdiv m*s) (v - n.fdiv m*t):=by
  have e:n - n.fdiv m*m=n.fmod m:=by rw [Dv];grind
  have hl:=Je (a:=n) h
  have hm:=R.m0
  have hs:Bt 801 (u - n.fdiv m*s):=by
    have:=L.bounds.2
    have hb':=hb.le (m:=801) (by decide)
    unfold Bt at *
    omega
  have hr:Bt 800 (n - n.fdiv m*m):=by rw [e];unfold Bt at *;omega
  have er:n - n.fdiv m*m=(u - n.fdiv m*s)*a+(v - n.fdiv m*t)*b:=by
    have h1:=R.r1
    have h2:=R.r2
    generalize n.fdiv m=q at *
    rw [h1,h2];grind
  refine ⟨R.r2,er,?_,R.m0,hr,R.s0,hs,R.t0,?_⟩
  · rw [e,K3];exact R.g
  · refine Q7 (b:=b) ?_ hbn
    have:(v - n.fdiv m*t)*b=(n - n.fdiv m*m) - (u - n.fdiv m*s)*a:=by rw [er];grind
    rw [this]
    exact (hr.sub (hs.mul ha)).le (by decide)
noncomputable abbrev M7:DSp:=BL (fun p:(Int × Int × Int) × (Int × Int × Int) × Int=>[T3 p.1.1 p.1.2.1 p.1.2.2,T3 p.2.1.1 p.2.1.2.1 p.2.1.2.2,.int p.2.2]) (fun p=>Bt 2000 p.2.2∧Bt 2000 p.2.1.1∧Bt 2000 p.2.1.2.1∧Bt 2000 p.2.1.2.2)
  fun p=>T3 (p.1.1 - p.2.2*p.2.1.1) (p.1.2.1 - p.2.2*p.2.1.2.1) (p.1.2.2 - p.2.2*p.2.1.2.2)
noncomputable abbrev Rq:DSp:=spec (fun p:I2=>[.int p.1,.int p.2]) (fun p=>Bt 800 p.1∧Bt 800 p.2) fun p d=>∃ u v:Int,d=T3 ((Int.gcd p.1 p.2:Nat):Int) u v∧u*p.1+v*p.2=((Int.gcd p.1 p.2:Nat):Int)∧Bt 2000 u∧Bt 2000 v
theorem Ut (T:Txt K mg)
    : Pm P w K mg base 1 "row_less" Gd ["row","lower","often"] M7:=by
  obtain ⟨f,fd,F⟩:=T.t_row_less
  refine ⟨f,fd,F,F.fn.okD Vs (by walk_at "lE") fun cdv A outer s H E hr=>⟨_,(Ah (Aq (Bo (Aa (BK (Ac (dv 0) Ab) (Al (dv 2) (Ac (dv 1) Ab))) (Aa (BK (Ac (dv 0) Ab) (Al (dv 2) (Ac (dv 1) Ab))) (Aa (BK (Ac (dv 0) Ab) (Al (dv 2) (Ac (dv 1) Ab))) Af)))))),fun ds Q h=>?_⟩⟩
  obtain ⟨⟨⟨n,u,v⟩,⟨m,s,t⟩,q⟩,rfl,⟨hq,hm,hs,ht⟩,k⟩:=h
  walk_at "go"
  walk_at "muls"
  exact k _ rfl
theorem Yv (T:Txt K mg)
    (G_row_less:Pm P w K mg base 1 "row_less" Gd ["row","lower","often"] M7)
    : Pm P w K mg base 2 "shares" Ig ["one","other"] Rq:=by
  obtain ⟨f,fd,F⟩:=T.t_shares
  refine ⟨f,fd,F,F.fn.okD GP (by walk_at "lE") fun cdv A outer s H E hr=>⟨_,(Ad (Ak 2 GP.nd (Bo (Aa (dv 0) (Aa Ab (Aa Ab Af))))) (Ad (Ak 3 GP.nd (Bo (Aa (dv 1) (Aa Ab (Aa Ab Af))))) (Ad (Gj PassesOwn.never (Gm hr.units (Ac (dv 3) Ab) Ab) (Ad (Ak 4 GP.nd (Ag Ae G_row_less (hr.mono (by decide)) rfl (Aa (dv 2) (Aa (dv 3) (Aa (BJ (Ac (dv 2) Ab) (Ac (dv 3) Ab)) Af))))) (Ad (Ak 2 GP.nd (dv 3)) (Ah (Ak 3 GP.nd (dv 4)))))) (Ad (Ci (Rm (Ac (dv 2) Ab) Ab) (Ah (Aq (Bo (Aa (Gs (Ac (dv 2) Ab)) (Aa (Gs (Ac (dv 2) Ab)) (Aa (Gs (Ac (dv 2) Ab)) Af)))))) Bf) (Ah (Aq (dv 2))))))),fun ds Q h=>?_⟩⟩
  obtain ⟨⟨a,b⟩,rfl,⟨ha,hb⟩,k⟩:=h
  walk_at "go"
  refine ⟨Az (by decide),Az (by decide),?_⟩
  refine Gn (fun m ρ=>∃ n u v x s t z,ρ=[some (.is (.int a)),some (.is (.int b)),some (.is (T3 n u v)),some (.is (T3 x s t)),z]∧Rows a b n u v x s t∧((n=a∧u=1∧x=b∧s=0)∨(b≠0∧Lat b n u x s))∧m=x.natAbs) _ ⟨a,1,0,b,0,1,none,rfl,Rows.first ha hb,.inl ⟨rfl,rfl,rfl,rfl⟩,rfl⟩ ?_
  rintro m _ ⟨n,u,v,x,s,t,z,rfl,R,hc,rfl⟩
  walk_at "rd"
  have hG:=R.g
  by_cases hx:x=0
  · subst hx
    rw [Int.gcd_zero_right] at hG
    simp only [decide_true,Bool.not_true]
    walk_at "rd"
    have r1:=R.r1
    refine NK (fun hn=>⟨Az (by decide),k _ ⟨-u,-v,?_,?_,(R.u0.neg).le (by decide),R.v0.neg⟩⟩) (fun hn=>k _ ⟨u,v,?_,?_,R.u0.le (by decide),R.v0⟩)
    · have hn:=of_decide_eq_true hn
      have e:-n=((Int.gcd a b:Nat):Int):=by omega
      rw [e]
    · have hn:=of_decide_eq_true hn
      have e:-n=((Int.gcd a b:Nat):Int):=by omega
      show -u*a + -v*b=_
      rw [←e,r1];grind
    · have hn:¬ n < 0:=fun z=>hn (decide_eq_true z)
      have e:n=((Int.gcd a b:Nat):Int):=by omega
      rw [←e]
    · have hn:¬ n < 0:=fun z=>hn (decide_eq_true z)
      have e:n=((Int.gcd a b:Nat):Int):=by omega
      show u*a+v*b=_
      rw [←e,←r1]
  · simp only [decide_eq_false hx,Bool.not_false,if_true]
    have hbn:b≠0:=by
      rcases hc with ⟨_,_,e,_⟩ | ⟨e,_⟩
      · rw [←e];exact hx
      · exact e
    have L:Lat b x s (n - n.fdiv x*x) (u - n.fdiv x*s):=by
      rcases hc with ⟨rfl,rfl,rfl,rfl⟩ | ⟨_,L⟩
      · have:=Lat.first (a:=n) hx
        have e:n - n.fdiv x*x=n.fmod x:=by rw [Dv];grind
        have e2:(1:Int) - n.fdiv x*0=1:=by omega
        rw [e,e2];exact this
      · exact L.step hx
    have hq:=Hr R.n0 hx
    refine ⟨Bt.divOk R.m0 hx,?_⟩
    refine Aj ((n,u,v),(x,s,t),n.fdiv x) ⟨hq.le (by decide),R.m0.le (by decide),R.s0.le (by decide),R.t0⟩ ?_
    refine ⟨_,?_,_,_,_,_,_,_,_,rfl,Rows.step R ha hb hbn hx L,.inr ⟨hbn,L⟩,rfl⟩
    have e:n - n.fdiv x*x=n.fmod x:=by rw [Dv];grind
    rw [e]
    exact Je hx
noncomputable def gJ (f h:I3):Int:=((Int.gcd ((Int.gcd f.1 h.1:Nat):Int) (jS f h):Nat):Int)
theorem MP {f h:I3} (ha:f.1≠0):0 < gJ f h:=by
  unfold gJ
  have:Int.gcd ((Int.gcd f.1 h.1:Nat):Int) (jS f h)≠0:=fun z=>by
    have h1:=(Int.gcd_eq_zero_iff.mp z).1
    have h2:Int.gcd f.1 h.1=0:=by omega
    exact ha (Int.gcd_eq_zero_iff.mp h2).1
  omega
theorem Kw {f h:I3}:gJ f h∣f.1∧gJ f h∣h.1∧gJ f h∣jS f h:=by
  unfold gJ
  have h1:((Int.gcd ((Int.gcd f.1 h.1:Nat):Int) (jS f h):Nat):Int)∣((Int.gcd f.1 h.1:Nat):Int):=Int.gcd_dvd_left ..
  exact ⟨Int.dvd_trans h1 (Int.gcd_dvd_left ..),Int.dvd_trans h1 (Int.gcd_dvd_right ..),Int.gcd_dvd_right ..⟩
structure Pair (f h:I3):Prop where
  bf:B3 800 f
  bh:B3 800 h
  kf:Bm f∨Sad f
  kh:Bm h∨Sad h
  m:meas f=meas h
  pf:g3 f=1
  ph:g3 h=1
  bm:Bt 600 (meas f)
  bA:Bt 1400 (jA f h (gJ f h))
theorem Ft {f:I3} (h:Bm f∨Sad f):f.1≠0:=by
  rcases h with h | h
  · have:=h.1;omega
  · exact Rg h
noncomputable abbrev Jl:DSp:=BL (fun f:I3=>[t3 f]) (fun f=>g3 f=1) fun _=>.non
theorem Pa (T:Txt K mg)
    (G_content:Pm P w K mg base 2 "content" FQ ["form"] Ke)
    : Pm P w K mg base 3 "check_plain" Dy ["form"] Jl:=by
  obtain ⟨f,fd,F⟩:=T.t_check_plain
  refine ⟨f,fd,F,F.fn.okD Qm (by walk_at "lE") fun cdv A outer s H E hr=>⟨_,(Ah (Ci (Gm hr.units (Ag Ae G_content (hr.mono (by decide)) rfl (Aa (dv 0) Af)) Ab) (Ah Fp) Bf)),fun ds Q h=>?_⟩⟩
  obtain ⟨f,rfl,hf,q⟩:=h
  have hf:g3 f=1:=hf
  have q':=q _ rfl
  walk_at "go"
  refine Aj f trivial ⟨Kl,Es ?_ q'⟩
  rw [hf,OD]
  rfl
noncomputable abbrev J5:DSp:=BL (fun p:I3 × I3=>[t3 p.1,t3 p.2]) (fun p=>Pair p.1 p.2) fun _=>.non
theorem Qs (T:Txt K mg)
    (G_shape_of:Pm P w K mg base 10 "shape_of" Ds ["form"] Gk)
    (G_check_plain:Pm P w K mg base 3 "check_plain" Dy ["form"] Jl)
    : Pm P w K mg base 11 "check_pair" Ej ["one","other"] J5:=by
  obtain ⟨f,fd,F⟩:=T.t_check_pair
  refine ⟨f,fd,F,F.fn.okD Hw (by walk_at "lE") fun cdv A outer s H E hr=>⟨_,(Ad (Ak 2 Hw.nd (Ag Ae G_shape_of (hr.mono (by decide)) rfl (Aa (dv 0) Af))) (Ad (Ak 3 Hw.nd (Ag Ae G_shape_of (hr.mono (by decide)) rfl (Aa (dv 1) Af))) (Ad (Ci (Gm hr.units (JD (dv 2)) (JD (dv 3))) (Ah Fp) Bf) (Ad (Ek (Ag Ae G_check_plain (hr.mono (by decide)) rfl (Aa (dv 0) Af))) (Ah (Ek (Ag Ae G_check_plain (hr.mono (by decide)) rfl (Aa (dv 1) Af)))))))),fun ds Q h=>?_⟩⟩
  obtain ⟨⟨f,h⟩,rfl,hP,q⟩:=h
  have hP:Pair f h:=hP
  have q':=q _ rfl
  walk_at "go"
  refine Av f ⟨hP.bf.le (by decide),hP.kf⟩ ?_
  rintro _ ho
  obtain ⟨c1,l1,hc1,rfl,low1⟩:=Lg ho
  refine Av h ⟨hP.bh.le (by decide),hP.kh⟩ ?_
  rintro _ ho
  obtain ⟨c2,l2,hc2,rfl,low2⟩:=Lg ho
  refine ⟨Xq T hc1,.int (meas f),rfl,Xq T hc2,.int (meas h),rfl,⟨Kl,Kl⟩,Es ?_ (Aj f hP.pf (Aj h hP.ph q'))⟩
  rw [OD,decide_eq_true hP.m]
  rfl
noncomputable abbrev Dn:DSp:=BL (fun p:I3 × I3=>[t3 p.1,t3 p.2]) (fun _=>True) fun p=>.int (jS p.1 p.2)
theorem Kp (T:Txt K mg)
    : Pm P w K mg base 1 "half_of_middles" Bs ["one","other"] Dn:=by
  obtain ⟨f,fd,F⟩:=T.t_half_of_middles
  refine ⟨f,fd,F,F.fn.okD Kz (by walk_at "lE") fun cdv A outer s H E hr=>⟨_,(Ah (Aq (BJ (Br (Ac (dv 0) Ab) (Ac (dv 1) Ab)) Ab))),fun ds Q h=>?_⟩⟩
  obtain ⟨⟨f,h⟩,rfl,_,q⟩:=h
  have q':=q _ rfl
  walk_at "go"
  exact ⟨⟨by decide,by decide⟩,q'⟩
theorem O2 {n:Nat} {f h:I3} (hf:B3 n f) (hh:B3 n h) (hm:meas f=meas h):Bt n (jS f h):=by
  have:=Rw hm
  have h1:=hf.2.1
  have h2:=hh.2.1
  unfold Bt at *
  omega
noncomputable def Common (f h:I3) (g j k:Int):Prop:=g=gJ f h∧(∃ i,i*f.1+j*h.1+k*jS f h=g)∧Bt 4001 j∧Bt 2000 k
noncomputable abbrev HJ:DSp:=spec (fun p:I3 × I3=>[t3 p.1,t3 p.2]) (fun p=>Pair p.1 p.2) fun p d=>∃ g j k,d=T3 g j k∧Common p.1 p.2 g j k
theorem MK (T:Txt K mg)
    (G_shares:Pm P w K mg base 2 "shares" Ig ["one","other"] Rq)
    (G_half_of_middles:Pm P w K mg base 1 "half_of_middles" Bs ["one","other"] Dn)
    : Pm P w K mg base 3 "common_shares" CT ["one","other"] HJ:=by
  obtain ⟨f,fd,F⟩:=T.t_common_shares
  refine ⟨f,fd,F,F.fn.okD Ga (by walk_at "lE") fun cdv A outer s H E hr=>⟨_,(Ad (Ak 2 Ga.nd (Ag Ae G_shares (hr.mono (by decide)) rfl (Aa (Ac (dv 0) Ab) (Aa (Ac (dv 1) Ab) Af)))) (Ad (Ak 3 Ga.nd (Ag Ae G_shares (hr.mono (by decide)) rfl (Aa (Ac (dv 2) Ab) (Aa (Ag Ae G_half_of_middles (hr.mono (by decide)) rfl (Aa (dv 0) (Aa (dv 1) Af))) Af)))) (Ah (Aq (Bo (Aa (Ac (dv 3) Ab) (Aa (Al (Ac (dv 3) Ab) (Ac (dv 2) Ab)) (Aa (Ac (dv 3) Ab) Af)))))))),fun ds Q h=>?_⟩⟩
  obtain ⟨⟨f,h⟩,rfl,hP,q⟩:=h
  have hP:Pair f h:=hP
  have q:∀ d,(∃ g j k,d=T3 g j k∧Common f h g j k)→Q d:=q
  walk_at "go"
  refine Av (f.1,h.1) ⟨hP.bf.1,hP.bh.1⟩ ?_
  rintro _ ⟨x,y,rfl,e1,bx,by'⟩
  have e1:x*f.1+y*h.1=((Int.gcd f.1 h.1:Nat):Int):=e1
  walk_at "rd"
  refine Aj (f,h) trivial (Av (((Int.gcd f.1 h.1:Nat):Int),jS f h) ⟨Kc hP.bf.1 hP.bh.1,O2 hP.bf hP.bh hP.m⟩ ?_)
  rintro _ ⟨u,v,rfl,e2,bu,bv⟩
  have e2:u*((Int.gcd f.1 h.1:Nat):Int)+v*jS f h=gJ f h:=e2
  walk_at "rd"
  refine ⟨bu.mulOk by',Az (by decide),q _ ⟨_,_,_,rfl,rfl,⟨u*x,?_⟩,(bu.mul by').le (by decide),bv⟩⟩
  show _=gJ f h
  rw [←e2,←e1]
  grind
theorem AgB {f h:I3} {g j k:Int} (h0:jA f h g≠0):(jB f h g j k).natAbs < 2*(jA f h g).natAbs:=by
  have:=Je (a:=h.2.1+2*h.1.fdiv g*(j*(jS f h - h.2.1) - k*h.2.2)) (b:=2*jA f h g) (by omega)
  unfold jB
  omega
theorem AgQ {A B C D:Int} (e:B*B - D=4*A*C) (h0:A≠0) (hB:B.natAbs < 2*A.natAbs) (hA:Bt 1400 A) (hD:Bt 600 D):Bt 1401 C:=by
  have e1:4*(A.natAbs*C.natAbs)=(B*B - D).natAbs:=by rw [e,Int.mul_assoc,Int.natAbs_mul,Int.natAbs_mul];rfl
  have e2:(B*B - D).natAbs≤B.natAbs*B.natAbs+D.natAbs:=by
    have:=Int.natAbs_mul B B
    omega
  have e3:B.natAbs*B.natAbs≤(2*A.natAbs)*(2*A.natAbs):=Nat.mul_le_mul (by omega) (by omega)
  have e4:(2*A.natAbs)*(2*A.natAbs)=4*(A.natAbs*A.natAbs):=by grind
  have a1:1≤A.natAbs:=by omega
  have e5:A.natAbs*C.natAbs≤A.natAbs*(A.natAbs+D.natAbs):=by
    have:D.natAbs≤4*(A.natAbs*D.natAbs):=by
      have:=Nat.le_mul_of_pos_left D.natAbs a1
      omega
    rw [Nat.mul_add]
    omega
  have e6:C.natAbs≤A.natAbs+D.natAbs:=Nat.le_of_mul_le_mul_left e5 a1
  have d1:D.natAbs < 2 ^ 1400:=Nat.lt_of_lt_of_le hD (Nat.pow_le_pow_right (by decide) (by decide))
  unfold Bt at *
  have:(2:Nat) ^ 1401=2*2 ^ 1400:=by rw [Nat.pow_succ];omega
  omega
theorem Pair.joint {f h:I3} {g j k:Int} (P:Pair f h) (C:Common f h g j k):FA (jP f h g (jB f h g j k)) (jQ f h g)=f∧FB (jP f h g (jB f h g j k)) (jQ f h g)=h∧FC (jP f h g (jB f h g j k)) (jQ f h g)=jF f h g j k:=by
  obtain ⟨rfl,⟨i,e⟩,_⟩:=C
  have g0:=MP (h:=h) (Ft P.kf)
  exact Zm (Ft P.kf) (Ft P.kh) P.m (by omega) Kw.1 Kw.2.1 Kw.2.2 e
theorem Pair.ja {f h:I3} {g j k:Int} (P:Pair f h) (C:Common f h g j k):jA f h g*(g*g)=f.1*h.1:=by
  obtain ⟨rfl,_⟩:=C
  have g0:=MP (h:=h) (Ft P.kf)
  obtain ⟨x,hx⟩:=(Kw (f:=f) (h:=h)).1
  obtain ⟨y,hy⟩:=(Kw (f:=f) (h:=h)).2.1
  unfold jA
  have:f.1*h.1=gJ f h*gJ f h*(x*y):=by
    have:f.1*h.1=(gJ f h*x)*(gJ f h*y):=by rw [←hx,←hy]
    rw [this];grind
  rw [this,Int.mul_fdiv_cancel_left _ (Int.mul_ne_zero (by omega) (by omega)),Int.mul_comm]
theorem Pair.ja0 {f h:I3} {g j k:Int} (P:Pair f h) (C:Common f h g j k):jA f h g≠0:=fun z=>by
  have e:=P.ja C
  rw [z,Int.zero_mul] at e
  exact Int.mul_ne_zero (Ft P.kf) (Ft P.kh) e.symm
theorem Pair.comp {f h:I3} {g j k:Int} (P:Pair f h) (C:Common f h g j k):Comp f h (jF f h g j k):=⟨_,_,P.joint C⟩
theorem Pair.kind {f h:I3} {g j k:Int} (P:Pair f h) (C:Common f h g j k):Bm (jF f h g j k)∨Sad (jF f h g j k):=by
  have hm:=(P.comp C).meas.2
  rw [←P.m] at hm
  rcases P.kf with kf | kf
  · refine .inl ⟨?_,by rw [hm];exact kf.2⟩
    have kh:0 < h.1:=by
      rcases P.kh with z | z
      · exact z.1
      · have h1:=kf.2;have h2:=z.pos;have h3:=P.m;omega
    have e:=P.ja C
    have p1:=Int.mul_pos kf.1 kh
    show 0 < jA f h g
    rcases Int.lt_or_le 0 (jA f h g) with z | z
    · exact z
    · have:=Int.mul_nonneg (show 0≤-jA f h g by omega) (sq_nonneg g)
      have:-jA f h g*(g*g)=-(jA f h g*(g*g)):=by grind
      omega
  · exact .inr ⟨by rw [hm];exact kf.no,by rw [hm];exact kf.pos,by rw [hm];exact kf.most⟩
theorem Pair.bF {f h:I3} {g j k:Int} (P:Pair f h) (C:Common f h g j k):B3 1402 (jF f h g j k):=by
  have h0:=P.ja0 C
  have hB:=AgB (j:=j) (k:=k) h0
  have hA:Bt 1400 (jA f h g):=by rw [C.1];exact P.bA
  have hm:(jB f h g j k)*(jB f h g j k) - 4*(jF f h g j k).1*(jF f h g j k).2.2=meas f:=by
    have:=(P.comp C).meas.2
    rw [P.m];exact this
  refine ⟨hA.le (by decide),?_,(AgQ (A:=jA f h g) (B:=jB f h g j k) (D:=meas f) ?_ h0 hB hA P.bm).le (by decide)⟩
  · show Bt 1402 (jB f h g j k)
    have:(2:Nat) ^ 1402=4*2 ^ 1400:=by decide +kernel
    unfold Bt at *
    omega
  · show _=4*(jF f h g j k).1*(jF f h g j k).2.2
    omega
noncomputable abbrev J3:DSp:=BL (fun p:(I3 × I3) × I3=>[t3 p.1.1,t3 p.1.2,t3 p.2]) (fun p=>Pair p.1.1 p.1.2∧Common p.1.1 p.1.2 p.2.1 p.2.2.1 p.2.2.2) fun p=>t3 (jF p.1.1 p.1.2 p.2.1 p.2.2.1 p.2.2.2)
theorem Qw (T:Txt K mg)
    (G_half_of_middles:Pm P w K mg base 1 "half_of_middles" Bs ["one","other"] Dn)
    (G_measure:Pm P w K mg base 1 "measure" CJ ["form"] DY)
    : Pm P w K mg base 2 "joint_form" Em ["one","other","common"] J3:=by
  obtain ⟨f,fd,F⟩:=T.t_joint_form
  refine ⟨f,fd,F,F.fn.okD Dj (by walk_at "lE") fun cdv A outer s H E hr=>⟨_,(Ad (Ak 3 Dj.nd (Ac (dv 2) Ab)) (Ad (Ak 4 Dj.nd (Ac (dv 1) Ab)) (Ad (Ak 5 Dj.nd (Ac (dv 1) Ab)) (Ad (Ak 6 Dj.nd (BJ (Al (Ac (dv 0) Ab) (dv 4)) (Al (dv 3) (dv 3)))) (Ad (Ak 7 Dj.nd (BK (Al (Ac (dv 2) Ab) (BK (Ag Ae G_half_of_middles (hr.mono (by decide)) rfl (Aa (dv 0) (Aa (dv 1) Af))) (dv 5))) (Al (Ac (dv 2) Ab) (Ac (dv 1) Ab)))) (Ad (Ak 8 Dj.nd (DK (Br (dv 5) (Al (Al Ab (BJ (dv 4) (dv 3))) (dv 7))) (Al Ab (dv 6)))) (Ah (Aq (Bo (Aa (dv 6) (Aa (dv 8) (Aa (BJ (BK (Al (dv 8) (dv 8)) (Ag Ae G_measure (hr.mono (by decide)) rfl (Aa (dv 0) Af))) (Al Ab (dv 6))) Af)))))))))))),fun ds Q h=>?_⟩⟩
  obtain ⟨⟨⟨f,h⟩,g,j,k⟩,rfl,⟨hP,hC⟩,q⟩:=h
  have hP:Pair f h:=hP
  have hC:Common f h g j k:=hC
  have q':Q (t3 (jF f h g j k)):=q _ rfl
  have g0:0 < g:=by rw [hC.1];exact MP (Ft hP.kf)
  have bg:Bt 800 g:=by rw [hC.1];exact Kc (Kc hP.bf.1 hP.bh.1) (O2 hP.bf hP.bh hP.m)
  have bs:=O2 hP.bf hP.bh hP.m
  have h0:=hP.ja0 hC
  have hF:=hP.bF hC
  have hA:Bt 1400 (jA f h g):=by rw [hC.1];exact hP.bA
  have hB:Bt 1402 (jB f h g j k):=hF.2.1
  have two:Bt 2 2:=Bt.of_abs (by decide)
  have four:Bt 3 4:=Bt.of_abs (by decide)
  have bd:Bt 801 (h.1.fdiv g):=Hr hP.bh.1 (by omega)
  have bj:=hC.2.2.1
  have bk:=hC.2.2.2
  have bm2:Bt 4803 (j*(jS f h - h.2.1) - k*h.2.2):=((bj.mul (bs.sub hP.bh.2.1)).sub ((bk.mul hP.bh.2.2).le (m:=4802) (by decide))).le (by decide)
  have A0:(f.1*h.1).fdiv (g*g)≠0:=h0
  walk_at "go"
  refine ⟨hP.bf.1.mulOk hP.bh.1,bg.mulOk bg,Bt.divOk (bg.mul bg) (Int.mul_ne_zero (by omega) (by omega)),Aj (f,h) trivial ⟨bj.mulOk (bs.sub hP.bh.2.1),bk.mulOk hP.bh.2.2,Bt.divOk bg (by omega),two.mulOk bd,(two.mul bd).mulOk bm2,two.mulOk hA,by omega,hB.mulOk hB,Aj f (hP.bf.le (by decide)) ⟨four.mulOk hA,Bt.divOk (four.mul hA) (by show 4*(f.1*h.1).fdiv (g*g)≠0;omega),Az (by decide),q'⟩⟩⟩
noncomputable abbrev Qo (p q:I4):Dt:=.tup [t4 p,t4 q]
noncomputable abbrev J0:DSp:=BL (fun p:(I3 × I3) × I3=>[t3 p.1.1,t3 p.1.2,.int p.2.1,.int (jB p.1.1 p.1.2 p.2.1 p.2.2.1 p.2.2.2)]) (fun p=>Pair p.1.1 p.1.2∧Common p.1.1 p.1.2 p.2.1 p.2.2.1 p.2.2.2) fun p=>Qo (jP p.1.1 p.1.2 p.2.1 (jB p.1.1 p.1.2 p.2.1 p.2.2.1 p.2.2.2)) (jQ p.1.1 p.1.2 p.2.1)
theorem QF (T:Txt K mg)
    (G_half_of_middles:Pm P w K mg base 1 "half_of_middles" Bs ["one","other"] Dn)
    (G_measure:Pm P w K mg base 1 "measure" CJ ["form"] DY)
    : Pm P w K mg base 2 "joint_rows" Ec ["one","other","g","middle"] J0:=by
  obtain ⟨f,fd,F⟩:=T.t_joint_rows
  refine ⟨f,fd,F,F.fn.okD Cq (by walk_at "lE") fun cdv A outer s H E hr=>⟨_,(Ad (Ak 4 Cq.nd (Ac (dv 0) Ab)) (Ad (Ak 5 Cq.nd (Ac (dv 0) Ab)) (Ad (Ak 6 Cq.nd (Ac (dv 1) Ab)) (Ad (Ak 7 Cq.nd (Ac (dv 1) Ab)) (Ad (Ak 8 Cq.nd (Ag Ae G_half_of_middles (hr.mono (by decide)) rfl (Aa (dv 0) (Aa (dv 1) Af)))) (Ad (Ak 9 Cq.nd (BJ (Al (dv 2) (BK (Br (Al (dv 5) (dv 7)) (Ag Ae G_measure (hr.mono (by decide)) rfl (Aa (dv 0) Af))) (Al (Al Ab (dv 3)) (dv 8)))) (Al (Al Ab (dv 4)) (dv 6)))) (Ad (Ak 10 Cq.nd (Bo (Aa (dv 2) (Aa (BJ (Al (dv 2) (BK (dv 7) (dv 3))) (Al Ab (dv 6))) (Aa (BJ (Al (dv 2) (BK (dv 5) (dv 3))) (Al Ab (dv 4))) (Aa (dv 9) Af)))))) (Ah (Aq (Bo (Aa (dv 10) (Aa (Bo (Aa Ab (Aa (BJ (dv 4) (dv 2)) (Aa (BJ (dv 6) (dv 2)) (Aa (BJ (dv 8) (dv 2)) Af))))) Af)))))))))))),fun ds Q h=>?_⟩⟩
  obtain ⟨⟨⟨f,h⟩,g,j,k⟩,rfl,⟨hP,hC⟩,q⟩:=h
  have hP:Pair f h:=hP
  have hC:Common f h g j k:=hC
  have q':Q (Qo (jP f h g (jB f h g j k)) (jQ f h g)):=q _ rfl
  have g0:0 < g:=by rw [hC.1];exact MP (Ft hP.kf)
  have bg:Bt 800 g:=by rw [hC.1];exact Kc (Kc hP.bf.1 hP.bh.1) (O2 hP.bf hP.bh hP.m)
  have bs:=O2 hP.bf hP.bh hP.m
  have hB:Bt 1402 (jB f h g j k):=(hP.bF hC).2.1
  have a0:=Ft hP.kf
  have d0:=Ft hP.kh
  have two:Bt 2 2:=Bt.of_abs (by decide)
  have four:Bt 3 4:=Bt.of_abs (by decide)
  walk_at "go"
  dsimp only at *
  generalize jB f h g j k=B at *
  have bme:Bt 2300 (f.2.1*h.2.1+meas f - 2*B*jS f h):=(((hP.bf.2.1.mul hP.bh.2.1).add (hP.bm.le (m:=1600) (by decide))).sub (((two.mul hB).mul bs).le (m:=2299) (by decide))).le (by decide)
  have n4:4*f.1*h.1≠0:=Int.mul_ne_zero (by omega) d0
  refine Aj (f,h) trivial ⟨hP.bf.2.1.mulOk hP.bh.2.1,Aj f (hP.bf.le (by decide)) ⟨two.mulOk hB,(two.mul hB).mulOk bs,bg.mulOk bme,four.mulOk hP.bf.1,(four.mul hP.bf.1).mulOk hP.bh.1,Bt.divOk ((four.mul hP.bf.1).mul hP.bh.1) n4,bg.mulOk ((hP.bh.2.1.le (m:=1402) (by decide)).sub hB),two.mulOk hP.bh.1,Bt.divOk (two.mul hP.bh.1) (by omega),bg.mulOk ((hP.bf.2.1.le (m:=1402) (by decide)).sub hB),two.mulOk hP.bf.1,Bt.divOk (two.mul hP.bf.1) (by omega),Az (by decide),Bt.divOk bg (by omega),Bt.divOk bg (by omega),Bt.divOk bg (by omega),Az (by decide),Az (by decide),q'⟩⟩
theorem AiB {f h:I3} {g j k:Int} (hP:Pair f h) (hC:Common f h g j k):B4 9000 (jP f h g (jB f h g j k))∧B4 9000 (jQ f h g):=by
  have g0:0 < g:=by rw [hC.1];exact MP (Ft hP.kf)
  have bg:Bt 800 g:=by rw [hC.1];exact Kc (Kc hP.bf.1 hP.bh.1) (O2 hP.bf hP.bh hP.m)
  have bs:=O2 hP.bf hP.bh hP.m
  have hB:Bt 1402 (jB f h g j k):=(hP.bF hC).2.1
  have a0:=Ft hP.kf
  have d0:=Ft hP.kh
  have two:Bt 2 2:=Bt.of_abs (by decide)
  generalize jB f h g j k=B at *
  have bme:Bt 2300 (f.2.1*h.2.1+meas f - 2*B*jS f h):=(((hP.bf.2.1.mul hP.bh.2.1).add (hP.bm.le (m:=1600) (by decide))).sub (((two.mul hB).mul bs).le (m:=2299) (by decide))).le (by decide)
  have n4:4*f.1*h.1≠0:=Int.mul_ne_zero (by omega) d0
  exact ⟨⟨bg.le (by decide),(Hr (bg.mul ((hP.bh.2.1.le (m:=1402) (by decide)).sub hB)) (by omega)).le (by decide),(Hr (bg.mul ((hP.bf.2.1.le (m:=1402) (by decide)).sub hB)) (by omega)).le (by decide),(Hr (bg.mul bme) n4).le (by decide)⟩,
    Bt.zero.le (by decide),(Hr hP.bf.1 (by omega)).le (by decide),(Hr hP.bh.1 (by omega)).le (by decide),(Hr bs (by omega)).le (by decide)⟩
noncomputable def Akk (t:I4):Dt→Dt
  | .tup [.int x,.int y]=>t2 (Hq t (x,y))
  | _=>.non
noncomputable def AlL:Dt→Dt
  | .tup [.int x,.int _]=>.int x
  | _=>.non
noncomputable def AlO:Dt→Dt
  | .tup [.int _,.int y]=>.int y
  | _=>.non
noncomputable abbrev Nm:DSp:=BL (fun p:I4 × I4 × I4=>[t4 (Ar p.1),Qo p.2.1 p.2.2]) (fun p=>B4 90000 p.1∧det p.1=1∧B4 9000 p.2.1∧B4 9000 p.2.2) fun p=>Qo (Nu p.2.1 p.2.2 p.1) (Nx p.2.1 p.2.2 p.1)
theorem Vb (T:Txt K mg)
    (G_led:Pm P w K mg base 3 "led" Ru ["turn","point"] Aaf)
    : Pm P w K mg base 4 "rows_led" Dr ["turn","rows"] Nm:=by
  obtain ⟨f,fd,F⟩:=T.t_rows_led
  refine ⟨f,fd,F,F.fn.okD M8 (by walk_at "lE") fun cdv A outer s H E hr=>⟨_,(Ad (Zr 2 M8.nd (FP (sc:=Ai Dr) (NN:=["turn","rows","pairs"]) (x:="pair") (N:=["turn"]) (sl:=[0]) rfl rfl (by decide +kernel)) rfl (AfU rfl T.z_zip (Aa (Ac (dv 1) Ab) (Aa (Ac (dv 1) Ab) Af))) (fun cl C s0 H0 ex=>(Ag Ae G_led (hr.mono (by decide)) rfl (Aa (dv 1) (Aa (dv 0) Af))))) (Ah (Aq (Bo (Aa (Rf T.z_tuple (Aa (XD (FP (sc:=Ai Dr) (NN:=["turn","rows","pairs"]) (x:="pair") (N:=[]) (sl:=[]) rfl rfl (by decide +kernel)) rfl (Ja (dv 2)) (fun cl C s0 H0 ex=>(Ac (dv 0) Ab))) Af)) (Aa (Rf T.z_tuple (Aa (XD (FP (sc:=Ai Dr) (NN:=["turn","rows","pairs"]) (x:="pair") (N:=[]) (sl:=[]) rfl rfl (by decide +kernel)) rfl (Ja (dv 2)) (fun cl C s0 H0 ex=>(Ac (dv 0) Ab))) Af)) Af)))))),fun ds Q h=>?_⟩⟩
  obtain ⟨⟨t,⟨p0,p1,p2,p3⟩,q0,q1,q2,q3⟩,rfl,⟨bt,dt,bp,bq⟩,q⟩:=h
  have q':=q _ rfl
  have bt:B4 90000 t:=bt
  have dt:det t=1:=dt
  obtain ⟨p0b,p1b,p2b,p3b⟩:B4 9000 (p0,p1,p2,p3):=bp
  obtain ⟨q0b,q1b,q2b,q3b⟩:B4 9000 (q0,q1,q2,q3):=bq
  have bx:∀ x∈[(p0,q0),(p1,q1),(p2,q2),(p3,q3)],B2 300000 x:=fun x hx=>by
    simp only [List.mem_cons,List.not_mem_nil,or_false] at hx
    rcases hx with rfl | rfl | rfl | rfl
    · exact ⟨p0b.le (by decide),q0b.le (by decide)⟩
    · exact ⟨p1b.le (by decide),q1b.le (by decide)⟩
    · exact ⟨p2b.le (by decide),q2b.le (by decide)⟩
    · exact ⟨p3b.le (by decide),q3b.le (by decide)⟩
  walk_at "go"
  refine JH ([(p0,q0),(p1,q1),(p2,q2),(p3,q3)].map t2) (Akk (Ar t)) (fun R hR=>?_) (Az (by show 4≤1000;decide)) (U7 rfl EY) (fun d hd R hR=>?_) ?_
  · walk_at "rd"
    exact ⟨_,_,rfl,rfl,hR⟩
  · obtain ⟨x,hx,rfl⟩:=List.mem_map.mp hd
    unfold inner
    walk_at "rd"
    exact Aj (Ar t,x) ⟨bt.back.le (by decide),by rw [CV];exact dt,bx x hx⟩ hR
  refine JH ([Hq (Ar t) (p0,q0),Hq (Ar t) (p1,q1),Hq (Ar t) (p2,q2),Hq (Ar t) (p3,q3)].map t2) AlL (fun R hR=>hR) (Az (by show 4≤1000;decide)) EY (fun d hd R hR=>?_) ?_
  · obtain ⟨x,hx,rfl⟩:=List.mem_map.mp hd
    unfold inner
    walk_at "rd"
    exact hR
  refine ⟨_,rfl,JH ([Hq (Ar t) (p0,q0),Hq (Ar t) (p1,q1),Hq (Ar t) (p2,q2),Hq (Ar t) (p3,q3)].map t2) AlO (fun R hR=>hR) (Az (by show 4≤1000;decide)) EY (fun d hd R hR=>?_) ?_⟩
  · obtain ⟨x,hx,rfl⟩:=List.mem_map.mp hd
    unfold inner
    walk_at "rd"
    exact hR
  refine ⟨_,rfl,Az (by decide),?_⟩
  have e:Qo (Nu (p0,p1,p2,p3) (q0,q1,q2,q3) t) (Nx (p0,p1,p2,p3) (q0,q1,q2,q3) t)=Dt.tup [Dt.tup ([Hq (Ar t) (p0,q0),Hq (Ar t) (p1,q1),Hq (Ar t) (p2,q2),Hq (Ar t) (p3,q3)].map fun x=>Dt.int x.1),Dt.tup ([Hq (Ar t) (p0,q0),Hq (Ar t) (p1,q1),Hq (Ar t) (p2,q2),Hq (Ar t) (p3,q3)].map fun x=>Dt.int x.2)]:=by
    obtain ⟨a,b,c,d⟩:=t
    simp only [Qo,Nu,Nx,Hq,Ar,List.map_cons,List.map_nil,T4,Dt.tup.injEq,List.cons.injEq,Dt.int.injEq,and_true]
    refine ⟨⟨?_,?_,?_,?_⟩,?_,?_,?_,?_⟩ <;> grind
  dsimp only at q'
  rw [e] at q'
  exact q'
noncomputable def Aac (f h:I3) (d:Dt):Prop:=∃ (F G:I3) (p q:I4),Comp f h F∧LF F G∧FA p q=f∧FB p q=h∧FC p q=G∧d=.tup [t3 G,Qo p q]∧B4 110000 p∧B4 110000 q
noncomputable abbrev Pg:DSp:=spec (fun p:I3 × I3=>[t3 p.1,t3 p.2]) (fun p=>Pair p.1 p.2) fun p d=>Aac p.1 p.2 d
theorem V7 (T:Txt K mg)
    (GM_least:PmM P w K mg base 1 ["Bowl","Saddle"] "least" Rz)
    (G_check_pair:Pm P w K mg base 11 "check_pair" Ej ["one","other"] J5)
    (G_common_shares:Pm P w K mg base 3 "common_shares" CT ["one","other"] HJ)
    (G_joint_form:Pm P w K mg base 2 "joint_form" Em ["one","other","common"] J3)
    (G_rows_led:Pm P w K mg base 4 "rows_led" Dr ["turn","rows"] Nm)
    (G_shape_of:Pm P w K mg base 10 "shape_of" Ds ["form"] Gk)
    (G_back:Pm P w K mg base 3 "back" Kq ["turn"] SQ)
    (G_joint_rows:Pm P w K mg base 2 "joint_rows" Ec ["one","other","g","middle"] J0)
    : Pm P w K mg base 12 "product" G7 ["one","other"] Pg:=by
  obtain ⟨f,fd,F⟩:=T.t_product
  refine ⟨f,fd,F,F.fn.okD IK (by walk_at "lE") fun cdv A outer s H E hr=>⟨_,(Ad (Ek (Ag Ae G_check_pair (hr.mono (by decide)) rfl (Aa (dv 0) (Aa (dv 1) Af)))) (Ad (Ak 2 IK.nd (Ag Ae G_common_shares (hr.mono (by decide)) rfl (Aa (dv 0) (Aa (dv 1) Af)))) (Ad (Ak 3 IK.nd (Ag Ae G_joint_form (hr.mono (by decide)) rfl (Aa (dv 0) (Aa (dv 1) (Aa (dv 2) Af))))) (Ad (Ak 4 IK.nd (Yu Ae GM_least (hr.mono (by decide)) (Ag Ae G_shape_of (hr.mono (by decide)) rfl (Aa (dv 3) Af)))) (Ah (Aq (Bo (Aa (Ac (dv 4) Ab) (Aa (Ag Ae G_rows_led (hr.mono (by decide)) rfl (Aa (Ag Ae G_back (hr.mono (by decide)) rfl (Aa (Ac (dv 4) Ab) Af)) (Aa (Ag Ae G_joint_rows (hr.mono (by decide)) rfl (Aa (dv 0) (Aa (dv 1) (Aa (Ac (dv 2) Ab) (Aa (Ac (dv 3) Ab) Af))))) Af))) Af))))))))),fun ds Q h=>?_⟩⟩
  obtain ⟨⟨f,h⟩,rfl,hP,q⟩:=h
  have hP:Pair f h:=hP
  have q:∀ d,Aac f h d→Q d:=q
  walk_at "go"
  refine Aj (f,h) hP (Av (f,h) hP ?_)
  rintro _ ⟨g,j,k,rfl,hC⟩
  have hC:Common f h g j k:=hC
  refine Aj ((f,h),g,j,k) ⟨hP,hC⟩ ?_
  dsimp only
  have bF:=hP.bF hC
  have kF:=hP.kind hC
  have cF:=hP.comp hC
  obtain ⟨j1,j2,j3⟩:=hP.joint hC
  have jb:=AiB hP hC
  refine Av (jF f h g j k) ⟨bF.le (by decide),kF⟩ ?_
  rintro _ ho
  obtain ⟨c,l,hc,rfl,h1⟩:=Lg ho
  obtain ⟨G,t,rfl,L,dt,mt,bt⟩:=ZC h1
  have cm:c∈([Str.ofString "Bowl",Str.ofString "Saddle"]:List Str):=by rcases hc with e | e <;> rw [e] <;> simp
  refine ⟨⟨cm,by decide⟩,Aj (c,_,_) hc ?_⟩
  walk_at "rd"
  refine Aj t ⟨bt.le (by decide),dt⟩ (Aj ((f,h),g,j,k) ⟨hP,hC⟩ (Aj (t,jP f h g (jB f h g j k),jQ f h g) ⟨bt,dt,jb.1,jb.2⟩ ⟨Az (by decide),q _ ?_⟩))
  dsimp only
  generalize jP f h g (jB f h g j k)=p at *
  generalize jQ f h g=r at *
  refine ⟨_,G,Nu p r t,Nx p r t,cF,L,by rw [AkC dt,j1],by rw [Akh dt,j2],by rw [AgE,j3,mt],rfl,?_,?_⟩
  · obtain ⟨⟨a1,a2,a3,a4⟩,b1,b2,b3,b4⟩:=jb
    obtain ⟨t1,t2,t3,t4⟩:=bt
    exact ⟨((t4.mul a1).sub (t2.mul b1)).le (by decide),((t4.mul a2).sub (t2.mul b2)).le (by decide),((t4.mul a3).sub (t2.mul b3)).le (by decide),((t4.mul a4).sub (t2.mul b4)).le (by decide)⟩
  · obtain ⟨⟨a1,a2,a3,a4⟩,b1,b2,b3,b4⟩:=jb
    obtain ⟨t1,t2,t3,t4⟩:=bt
    exact ⟨((t1.mul b1).sub (t3.mul a1)).le (by decide),((t1.mul b2).sub (t3.mul a2)).le (by decide),((t1.mul b3).sub (t3.mul a3)).le (by decide),((t1.mul b4).sub (t3.mul a4)).le (by decide)⟩
theorem Oo (ds:List Dt) (k:Nat) (h:k≤ds.length):cutD ds (some (k:Int)) none=ds.drop k:=by
  unfold cutD
  rw [HT.NQ,HT.Ui,Nat.min_eq_left h,List.take_of_length_le (by rw [List.length_drop];omega)]
theorem TY (ds:List Dt) (k:Nat) (h:k≤ds.length):cutD ds none (some (k:Int))=ds.take k:=by
  unfold cutD
  rw [HT.NQ,HT.Ui,Nat.min_eq_left h,List.drop_zero,Nat.sub_zero]
theorem Vw (cs:List Int):∃ u v:List Int,cutD (cs.map Dt.int) none (some ((((cs.map Dt.int).length:Nat):Int).fdiv 2))=u.map Dt.int∧cutD (cs.map Dt.int) (some ((((cs.map Dt.int).length:Nat):Int).fdiv 2)) none=v.map Dt.int∧u.length=cs.length / 2∧v.length=cs.length - cs.length / 2:=by
  have e:(((cs.map Dt.int).length:Nat):Int).fdiv 2=((cs.length / 2:Nat):Int):=by
    rw [List.length_map,Int.fdiv_eq_ediv_of_nonneg _ (by decide)]
    omega
  have l:cs.length / 2≤(cs.map Dt.int).length:=by rw [List.length_map];omega
  rw [e,TY _ _ l,Oo _ _ l]
  exact ⟨cs.take (cs.length / 2),cs.drop (cs.length / 2),by rw [List.map_take],by rw [List.map_drop],by rw [List.length_take];omega,by rw [List.length_drop]⟩
theorem LF.btn {f g:I3} {n:Nat} (L:LF f g) (h:Bt n (meas f)) (hn:7≤n):B3 n g:=by
  rcases L with ⟨_,t,dt,L,rfl⟩ | ⟨hS,t0,far,N,j,R,_,_,rfl⟩
  · exact L.bt (by rw [Bu dt];exact h)
  · have hv:=Lv.rF j R.v
    exact (UL hv.S hv.r hv.L).le hn
theorem LF.turn {f g:I3} (L:LF f g):∃ x,det x=1∧mov f x=g:=by
  rcases L with ⟨_,t,dt,_,rfl⟩ | ⟨_,t0,far,N,j,R,_,_,rfl⟩
  · exact ⟨t,dt,rfl⟩
  · exact ⟨Ao t0 (rT far j (mov f t0)),by rw [Cj,R.d,Mj];rfl,by rw [←Bg,Ey]⟩
noncomputable def Kd (s:Bool) (f:I3):Prop:=(s=true→Bm f)∧(s=false→Sad f)
theorem Kd.kind {s:Bool} {f:I3} (h:Kd s f):Bm f∨Sad f:=by
  cases s with
  | true=>exact .inl (h.1 rfl)
  | false=>exact .inr (h.2 rfl)
theorem Kd.of {s:Bool} {f g:I3} (h:Kd s f) (m:meas g=meas f) (p:s=true→0 < g.1):Kd s g :=
  ⟨fun z=>⟨p z,by rw [m];exact (h.1 z).2⟩,fun z=>⟨by rw [m];exact (h.2 z).no,by rw [m];exact (h.2 z).pos,by rw [m];exact (h.2 z).most⟩⟩
theorem Ti {f:I3}:meas (f.1,0 - f.2.1,f.2.2)=meas f:=by
  show (0 - f.2.1)*(0 - f.2.1) - 4*f.1*f.2.2=f.2.1*f.2.1 - 4*f.1*f.2.2
  grind
theorem ZD {f:I3}:g3 (f.1,0 - f.2.1,f.2.2)=g3 f:=by
  unfold g3
  rw [Int.zero_sub]
  simp
theorem UG {f:I3} {t:I4} (h:Bm f∨Sad f) (dt:det t=1):Bm (mov f t)∨Sad (mov f t):=by
  rcases h with h | h
  · exact .inl (OJ h dt)
  · exact .inr (h.mov dt)
theorem Ah3 {f h:I3} {n m:Nat} (bf:Bt n f.1) (bh:Bt m h.1) (ha:f.1≠0):Bt (n+m) (jA f h (gJ f h)):=by
  have g0:=MP (h:=h) ha
  obtain ⟨x,hx⟩:=(Kw (f:=f) (h:=h)).1
  obtain ⟨y,hy⟩:=(Kw (f:=f) (h:=h)).2.1
  have e:f.1*h.1=gJ f h*gJ f h*(x*y):=by
    have:f.1*h.1=(gJ f h*x)*(gJ f h*y):=by rw [←hx,←hy]
    rw [this];grind
  unfold jA
  rw [e,Int.mul_fdiv_cancel_left _ (Int.mul_ne_zero (by omega) (by omega))]
  refine Q7 (b:=gJ f h*gJ f h) ?_ (Int.mul_ne_zero (by omega) (by omega))
  rw [Int.mul_comm,←e]
  exact bf.mul bh
theorem Pair.of {f h:I3} (bf:B3 690 f) (bh:B3 690 h) (kf:Bm f∨Sad f) (kh:Bm h∨Sad h) (m:meas f=meas h) (pf:g3 f=1) (ph:g3 h=1) (bm:Bt 600 (meas f)):Pair f h :=
  ⟨bf.le (by decide),bh.le (by decide),kf,kh,m,pf,ph,bm,(Ah3 bf.1 bh.1 (Ft kf)).le (by decide)⟩
theorem Pk {sl:List Nat} {ti:DTI} {tt:DTT} {te:DTE} {ρ:BZ} {Q:Dt→Prop} (h:ti ρ fun items=>HY sl (fun _ R=>R items) tt te ρ Q):HY sl ti tt te ρ Q:=h
noncomputable def Bd (far:Int) (g:I3) (N:Nat):List (List Int):=(List.range N).map fun i=>Hg (rF far (i+1) g)
theorem UJ {far:Int} {g:I3} {N:Nat} (hv:Lv far g) (l:∀ j,0 < j→j < N→rF far j g≠g) {i j:Nat} (hij:i < j) (hj:j < N):rF far (i+1) g≠rF far (j+1) g:=fun e=>by
  have e2:rF far (j+1) g=rF far (i+1) (rF far (j - i) g):=by rw [←Cg,show j - i+(i+1)=j+1 by omega]
  rw [e2] at e
  have:=JN (i+1) hv (Lv.rF (j - i) hv) (Io (j - i) g).symm e
  exact l (j - i) (by omega) (by omega) this.symm
theorem Wt (f g:I3):HT.lexLt (Hg f) (Hg g)=true↔f.1 < g.1∨(f.1=g.1∧(f.2.1 < g.2.1∨(f.2.1=g.2.1∧f.2.2 < g.2.2))):=by
  unfold Hg
  rw [HT.Ez,HT.Ez,HT.Ez,HT.Gi]
  split
  · split
    · split
      · simp;omega
      · simp;omega
    · simp;omega
  · simp;omega
noncomputable abbrev Afa (far:Int) (z:I3) (N:Nat):Dt:=.lst ((List.range N).map fun i=>t3 (rF far i z))
noncomputable abbrev M9:DSp:=spec (fun f:I3=>[t3 f]) (fun f=>B3 1500 f∧Sad f) fun f d=>∃ t0 far N k,Iv f t0 far N∧k < N∧(∀ i,i < N→HT.lexLt (Hg (rF far (i+1) (mov f t0))) (Hg (rF far (k+1) (mov f t0)))=false)∧d=Afa far (rF far (k+1) (mov f t0)) N
theorem Um (T:Txt K mg)
    (G_check_saddle:Pm P w K mg base 4 "check_saddle" Ce ["form"] Eu)
    (G_stops_round:Pm P w K mg base 6 "stops_round" Dg ["form"] G9)
    : Pm P w K mg base 7 "round_of" Fb ["form"] M9:=by
  obtain ⟨f,fd,F⟩:=T.t_round_of
  refine ⟨f,fd,F,F.fn.okD Jk (by walk_at "lE") fun cdv A outer s H E hr=>⟨_,(Ad (Ek (Ag Ae G_check_saddle (hr.mono (by decide)) rfl (Aa (dv 0) Af))) (Ad (Adb 1 Jk.nd (FP (sc:=Ai Fb) (NN:=["form","forms","place"]) (x:="stop") (N:=[]) (sl:=[]) rfl rfl (by decide +kernel)) rfl (Ja (Lh (Ag Ae G_stops_round (hr.mono (by decide)) rfl (Aa (dv 0) Af)) (Jd Ab) Li)) (fun cl C s0 H0 ex=>(Ac (dv 0) Ab))) (Ad (Ak 2 Jk.nd (Za 1 hr.units (AdJ hr.units) (AdF T.z_min (Ae1 hr.units) (Aa (dv 1) Af)))) (Ah (Aq (DF.de (Afw (Vg (dv 1) (Jd (dv 2)) Li) (Vg (dv 1) Li (Jd (dv 2)))))))))),fun ds Q h=>?_⟩⟩
  obtain ⟨f,rfl,⟨hb,hS⟩,q⟩:=h
  have hS:Sad f:=hS
  have hb:B3 1500 f:=hb
  walk_at "go"
  refine Aj f ⟨hb,hS⟩ (Pk ?_)
  walk_at "rd"
  refine Av f ⟨hb,hS⟩ ?_
  rintro _ ⟨t0,far,N,R,rfl⟩
  walk_at "rd"
  have n0:=R.n
  have nm:=R.m
  have ec:cutD ((List.range (N+1)).map (Ep f t0 far)) (some 1) none=(List.range N).map fun i=>Ep f t0 far (i+1):=by
    have:=Oo ((List.range (N+1)).map (Ep f t0 far)) 1 (by rw [List.length_map,List.length_range];omega)
    refine this.trans ?_
    rw [List.range_succ_eq_map,List.map_cons,List.drop_succ_cons,List.drop_zero,List.map_map]
    rfl
  rw [ec]
  have hl:∀ {α:Type} (F:Nat→α),((List.range N).map F).length=N:=fun F=>by rw [List.length_map,List.length_range]
  refine JH _ (fun d=>match d with | .tup (a :: _)=>a | _=>.non) (fun R h=>h) (by rw [hl];exact Nat.le_of_lt (RN (by omega))) EY (fun d hd R hR=>?_) ?_
  · obtain ⟨i,_,rfl⟩:=List.mem_map.mp hd
    unfold inner
    walk_at "rd"
    exact hR
  have en:((List.range N).map fun i=>Ep f t0 far (i+1)).map (fun d=>match d with | .tup (a :: _)=>a | _=>.non)=(Bd far (mov f t0) N).map Cv:=by
    unfold Bd
    rw [List.map_map,List.map_map]
    rfl
  rw [en]
  have lr:(Bd far (mov f t0) N).length=N:=hl _
  have kl:Iw (Bd far (mov f t0) N) < N:=by
    have:=Ky (fun i j=>HT.lexLt ((Bd far (mov f t0) N).getD i []) ((Bd far (mov f t0) N).getD j [])) ((Bd far (mov f t0) N).length - 1)
    rw [lr] at this
    unfold Iw
    rw [lr]
    omega
  have at':∀ i,i < N→(Bd far (mov f t0) N).getD i []=Hg (rF far (i+1) (mov f t0)):=fun i hi=>by
    unfold Bd
    simp [List.getD,hi]
  have least:∀ i,i < N→HT.lexLt (Hg (rF far (i+1) (mov f t0))) (Hg (rF far (Iw (Bd far (mov f t0) N)+1) (mov f t0)))=false:=fun i hi=>by
    have cs:∀ n:Nat,(∃ h:I3,(Bd far (mov f t0) N).getD n []=Hg h)∨(Bd far (mov f t0) N).getD n []=[]:=fun n=>by
      rcases Nat.lt_or_ge n N with z | z
      · exact .inl ⟨_,at' n z⟩
      · exact .inr (by simp [Bd,List.getD,z])
    have un:Iw (Bd far (mov f t0) N)=argBest (fun i j=>HT.lexLt ((Bd far (mov f t0) N).getD i []) ((Bd far (mov f t0) N).getD j [])) ((Bd far (mov f t0) N).length - 1):=rfl
    rw [←at' i hi,←at' _ kl,un]
    refine Gg (fun i j=>HT.lexLt ((Bd far (mov f t0) N).getD i []) ((Bd far (mov f t0) N).getD j [])) (fun a=>?_) (fun a b c h1 h2=>?_) _ i (by omega)
    · rcases cs a with ⟨h,e⟩ | e
      · rw [e]
        exact Bool.eq_false_iff.mpr fun z=>by have:=(Wt h h).mp z;omega
      · rw [e];rfl
    · rcases cs a with ⟨x,ea⟩ | ea <;> rcases cs b with ⟨y,eb⟩ | eb <;> rcases cs c with ⟨z,ec'⟩ | ec' <;> rw [ea,eb] at h1 <;> rw [eb,ec'] at h2 <;> rw [ea,ec']
      · have a1:=(Wt _ _).mp h1
        have a2:=(Wt _ _).mp h2
        exact (Wt _ _).mpr (by omega)
      all_goals first | rfl | (cases h1;done) | (cases h2;done)
  generalize hk:Iw (Bd far (mov f t0) N)=k at *
  refine ⟨Bd far (mov f t0) N,rfl,?_⟩
  walk_at "rd"
  refine ⟨Bd far (mov f t0) N,rfl,by omega,by rw [hk,lr];exact kl,?_⟩
  rw [hk]
  have dl:((Bd far (mov f t0) N).map Cv).length=N:=by rw [List.length_map,lr]
  refine ⟨_,k,rfl,by omega,rfl,fun m hm e=>?_,?_⟩
  · rw [at' m (by omega),at' k kl] at e
    unfold Hg at e
    simp only [List.cons.injEq,and_true] at e
    exact UJ R.v R.l hm kl (Prod.ext e.1 (Prod.ext e.2.1 e.2.2))
  · rw [Oo _ k (by omega),TY _ k (by omega)]
    have er:=congrArg (List.map t3) (rotate R.e kl)
    have e5:((Bd far (mov f t0) N).map Cv).drop k ++ ((Bd far (mov f t0) N).map Cv).take k=(List.range N).map fun i=>t3 (rF far i (rF far (k+1) (mov f t0))):=by
      have e6:(Bd far (mov f t0) N).map Cv=((List.range N).map fun i=>rF far (i+1) (mov f t0)).map t3:=by
        unfold Bd
        rw [List.map_map,List.map_map]
        rfl
      rw [e6,←List.map_drop,←List.map_take,←List.map_append,rotate R.e kl,List.map_map]
      rfl
    rw [e5]
    refine ⟨?_,q _ ⟨t0,far,N,k,R,kl,least,rfl⟩⟩
    rw [List.length_drop,List.length_take,dl]
    have:=RN (n:=N) (by omega)
    omega
noncomputable abbrev Jg:DSp:=BL (fun p:I2=>[.int p.1,.int p.2]) (fun p=>(p.1.natAbs:Int)≤p.2) fun _=>.non
theorem Ny (T:Txt K mg)
    : Pm P w K mg base 1 "check_within" Dm ["number","most"] Jg:=by
  obtain ⟨f,fd,F⟩:=T.t_check_within
  refine ⟨f,fd,F,F.fn.okD Nt (by walk_at "lE") fun cdv A outer s H E hr=>⟨_,(Ah (Ci (QZ (Ml T.z_abs (Aa (dv 0) Af)) (dv 1)) (Ah Fp) Bf)),fun ds Q h=>?_⟩⟩
  obtain ⟨⟨n,m⟩,rfl,h0,q⟩:=h
  have h0:(n.natAbs:Int)≤m:=h0
  walk_at "go"
  exact Es (decide_eq_false (by omega)) (q _ rfl)
theorem Lq {n:Nat} (h:n≤20000):n < PySem.sizeLine:=by unfold PySem.sizeLine;omega
theorem PX {sl:List Nat} {ti:DTI} {tt:DTT} {te:DTE} {ρ:BZ} {Q:Dt→Prop} (fs:List I3) (p:I3→Bool) (hi:∀ R:List Dt→Prop,R (fs.map t3)→ti ρ R) (hl:fs.length≤20000) (hc:caught sl ρ)
    (ht:∀ f∈fs,∀ R:Bool→Prop,R (p f)→tt (inner sl ρ (t3 f)) R) (he:∀ f∈fs,∀ R:Dt→Prop,R (t3 f)→te (inner sl ρ (t3 f)) R) (hq:Q (.lst ((fs.filter p).map t3))):HY sl ti tt te ρ Q:=by
  refine KZ (fs.map t3) (fun d=>match d with | .tup [.int a,.int b,.int c]=>p (a,b,c) | _=>false) id hi (by rw [List.length_map];exact Nat.le_of_lt (Lq hl)) hc (fun d hd R hR=>?_) (fun d hd _ R hR=>?_) ?_
  · obtain ⟨f,hf,rfl⟩:=List.mem_map.mp hd
    exact ht f hf R hR
  · obtain ⟨f,hf,rfl⟩:=List.mem_map.mp hd
    exact he f hf R hR
  · rw [List.filter_map,List.map_id]
    exact hq
structure PG (n most:Int) (k j:Nat) (fs:List I3):Prop where
  srt:Srt fs
  mem:∀ f,f∈fs↔f.1≠0∧-most≤f.1∧(f.1 < -most+k∨(f.1=-most+k∧f.2.1 < -most+j))∧(-most≤f.2.1∧f.2.1≤most)∧meas f=n
  len:fs.length≤127*k+j
theorem PG.start {n most:Int}:PG n most 0 0 []:=⟨List.Pairwise.nil,fun f=>by
  constructor
  · intro z
    cases z
  · rintro ⟨_,h1,h2,h3,_⟩
    omega,Nat.zero_le _⟩
theorem PG.row {n most:Int} {k j:Nat} {fs:List I3} (h:PG n most k j fs) (hj:-most+j=most+1) (hm:most≤63):PG n most (k+1) 0 fs:=⟨h.srt,fun f=>by
  rw [h.mem f]
  constructor
  · rintro ⟨h0,h1,h2,h3,h4⟩
    exact ⟨h0,h1,by omega,h3,h4⟩
  · rintro ⟨h0,h1,h2,h3,h4⟩
    exact ⟨h0,h1,by omega,h3,h4⟩,by have:=h.len;omega⟩
theorem PG.skip {n most a b:Int} {k j:Nat} {fs:List I3} (h:PG n most k j fs) (ha:-most+k=a) (hb:-most+j=b) (no:∀ c,a≠0→b*b - n=4*a*c→False):PG n most k (j+1) fs:=⟨h.srt,fun f=>by
  rw [h.mem f]
  constructor
  · rintro ⟨h0,h1,h2,h3,h4⟩
    exact ⟨h0,h1,by omega,h3,h4⟩
  · rintro ⟨h0,h1,h2,h3,h4⟩
    refine ⟨h0,h1,?_,h3,h4⟩
    rcases Int.lt_or_le f.1 a with z | z
    · exact .inl (by omega)
    · refine .inr ⟨by omega,?_⟩
      rcases Int.lt_or_le f.2.1 b with y | y
      · omega
      · exfalso
        have e1:f.1=a:=by omega
        have e2:f.2.1=b:=by omega
        have h4:f.2.1*f.2.1 - 4*f.1*f.2.2=n:=h4
        rw [e1,e2] at h4
        exact no f.2.2 (by omega) (by omega),by have:=h.len;omega⟩
theorem PG.add {n most a b c:Int} {k j:Nat} {fs:List I3} (h:PG n most k j fs) (ha:-most+k=a) (hb:-most+j=b) (hb2:b≤most) (a0:a≠0) (e:b*b - n=4*a*c):PG n most k (j+1) (fs ++ [(a,b,c)]):=by
  refine ⟨List.pairwise_append.mpr ⟨h.srt,List.pairwise_singleton _ _,fun g hg x hx=>?_⟩,fun f=>?_,by rw [List.length_append,List.length_singleton];have:=h.len;omega⟩
  · rw [List.mem_singleton.mp hx]
    obtain ⟨_,_,h2,_⟩:=(h.mem g).mp hg
    unfold lt3
    show g.1 < a∨(g.1=a∧(g.2.1 < b∨_))
    omega
  · rw [List.mem_append,List.mem_singleton,h.mem f]
    constructor
    · rintro (⟨h0,h1,h2,h3,h4⟩ | rfl)
      · exact ⟨h0,h1,by omega,h3,h4⟩
      · refine ⟨a0,by show -most≤a;omega,.inr ⟨by show a=_;omega,by show b < _;omega⟩,⟨by show -most≤b;omega,hb2⟩,?_⟩
        show b*b - 4*a*c=n
        omega
    · rintro ⟨h0,h1,h2,h3,h4⟩
      by_cases z:f.1=a∧f.2.1=b
      · right
        have h4:f.2.1*f.2.1 - 4*f.1*f.2.2=n:=h4
        rw [z.1,z.2] at h4
        have e3:4*a*f.2.2=4*a*c:=by omega
        have e4:=Int.eq_of_mul_eq_mul_left (by omega) e3
        exact Prod.ext z.1 (Prod.ext z.2 e4)
      · left
        exact ⟨h0,h1,by omega,h3,h4⟩
noncomputable abbrev Hf:DSp:=spec (fun p:I2=>[.int p.1,.int p.2]) (fun p=>Bt 20 p.1∧0≤p.2∧p.2≤63) fun p d=>∃ fs:List I3,d=.lst (fs.map t3)∧Srt fs∧(∀ f,f∈fs↔PF p.1 p.2 f)∧fs.length≤16200
theorem Oj (T:Txt K mg)
    (G_content:Pm P w K mg base 2 "content" FQ ["form"] Ke)
    : Pm P w K mg base 3 "plain_forms" Cp ["number","most"] Hf:=by
  obtain ⟨f,fd,F⟩:=T.t_plain_forms
  refine ⟨f,fd,F,F.fn.okD Fv (by walk_at "lE") fun cdv A outer s H E hr=>⟨_,(Ad (Wk 2 Fv.nd Af) (Ad (MF PassesOwn.never rfl (Xe rfl T.z_range (Aa (Gs (dv 1)) (Aa (Br (dv 1) Ab) Af))) (BX 3 Fv.nd) (Ah (MF PassesOwn.never rfl (Xe rfl T.z_range (Aa (Gs (dv 1)) (Aa (Br (dv 1) Ab) Af))) (BX 4 Fv.nd) (Ah (Ci (DW.dt (Pj (Gm hr.units (dv 3) Ab) (Lx (O3 hr.units (DK (BK (Al (dv 4) (dv 4)) (dv 0)) (Al Ab (dv 3))) Ab)))) (Ah (S6 2 (Bo (Aa (dv 3) (Aa (dv 4) (Aa (BJ (BK (Al (dv 4) (dv 4)) (dv 0)) (Al Ab (dv 3))) Af)))))) Bf))))) (Ah (WR 2 (Aq (Oe (FP (sc:=Ai Cp) (NN:=["number","most","found","a","b"]) (x:="form") (N:=[]) (sl:=[]) rfl rfl (by decide +kernel)) rfl (Ja (dv 2)) (fun cl C s0 H0 ex=>(O3 hr.units (Ag Ae G_content (hr.mono (by decide)) rfl (Aa (dv 0) Af)) Ab)) (fun cl C s0 H0 ex=>(dv 0)))))))),fun ds Q h=>?_⟩⟩
  obtain ⟨⟨n,most⟩,rfl,⟨bn,m0,m6⟩,q⟩:=h
  have bn:Bt 20 n:=bn
  have m0:0≤most:=m0
  have m6:most≤63:=m6
  have q:∀ d,(∃ fs:List I3,d=.lst (fs.map t3)∧Srt fs∧(∀ f,f∈fs↔PF n most f)∧fs.length≤16200)→Q d:=q
  have four:Bt 3 4:=Bt.of_abs (by decide)
  have in7:∀ {k:Nat},k < (most+1 - -most).toNat→Bt 7 (-most+k)∧-most+(k:Int)≤most:=fun {k} h=>⟨Bt.of (by omega) (by omega),by omega⟩
  have rng:(-(2 ^ 62)≤-most∧-most < 2 ^ 62∧-(2 ^ 62)≤most+1∧most+1 < 2 ^ 62):=by omega
  have cnt:((most+1 - -most).toNat:Int)=2*most+1:=by omega
  walk_at "go"
  refine ⟨Nat.zero_le _,?_⟩
  refine Jz (ups (-most) (most+1 - -most).toNat) (fun R hR=>⟨rng,hR⟩) (fun k ρ=>∃ fs x y,ρ=[some (.is (.int n)),some (.is (.int most)),some (.own (fs.map t3)),x,y]∧PG n most k 0 fs) ⟨[],none,none,rfl,PG.start⟩ ?_ ?_
  · rintro k d _ hk ⟨fs,x,y,rfl,pg⟩
    obtain ⟨hk',rfl⟩:=Tv hk
    obtain ⟨ba,ha⟩:=in7 hk'
    generalize ea:-most+(k:Int)=a at *
    walk_at "rd"
    refine Jz (ups (-most) (most+1 - -most).toNat) (fun R hR=>⟨rng,hR⟩) (fun j ρ=>∃ fs y,ρ=[some (.is (.int n)),some (.is (.int most)),some (.own (fs.map t3)),some (.is (.int a)),y]∧PG n most k j fs) ⟨fs,y,rfl,pg⟩ ?_ ?_
    · rintro j d _ hj ⟨fs,y,rfl,pg⟩
      obtain ⟨hj',rfl⟩:=Tv hj
      obtain ⟨bb,hb⟩:=in7 hj'
      generalize eb:-most+(j:Int)=b at *
      have len:=pg.len
      have big:fs.length < sizeLine:=Lq (by omega)
      walk_at "rd"
      by_cases a0:a=0
      · exact Es (by simp [a0]) ⟨fs,_,rfl,pg.skip ea eb fun c z=>absurd a0 z⟩
      · have hd:=Int.fmod_add_mul_fdiv (b*b - n) (4*a)
        refine ift (by simp [a0]) ⟨bb.mulOk bb,four.mulOk ba,by omega,?_⟩
        by_cases hm:(b*b - n).fmod (4*a)=0
        · refine ift (decide_eq_true hm) ⟨bb.mulOk bb,four.mulOk ba,Bt.divOk (four.mul ba) (by omega),Az (by decide),big,fs ++ [(a,b,(b*b - n).fdiv (4*a))],_,by rw [List.map_append];rfl,pg.add ea eb hb a0 (by omega)⟩
        · refine Es (decide_eq_false hm) ⟨fs,_,rfl,pg.skip ea eb fun c _ e=>hm ?_⟩
          rw [e,Int.mul_comm (4*a) c,Int.mul_fmod_left]
    · rintro _ ⟨fs,y,rfl,pg⟩
      rw [Sh] at pg
      exact ⟨fs,_,_,rfl,pg.row (by omega) m6⟩
  · rintro _ ⟨fs,x,y,rfl,pg⟩
    rw [Sh] at pg
    have len:=pg.len
    walk_at "rd"
    refine PX fs (fun f=>decide (g3 f=1)) (fun R hR=>hR) (by omega) EY (fun f hf R hR=>?_) (fun f hf R hR=>hR) ?_
    · unfold inner
      walk_at "rd"
      refine Aj f trivial ⟨Kl,?_⟩
      rw [OD]
      have e:decide (((g3 f:Nat):Int)=1)=decide (g3 f=1):=decide_eq_decide.mpr ⟨fun z=>by omega,fun z=>by omega⟩
      rw [e]
      exact hR
    · exact q _ ⟨_,rfl,pg.srt.filter _,fun f=>by
        rw [List.mem_filter,pg.mem f,decide_eq_true_eq]
        constructor
        · rintro ⟨⟨h0,h1,h2,h3,h4⟩,h5⟩
          exact ⟨h0,⟨h1,by omega⟩,h3,h4,h5⟩
        · rintro ⟨h0,h1,h3,h4,h5⟩
          exact ⟨⟨h0,h1.1,by omega,h3,h4⟩,h5⟩,Nat.le_trans (List.length_filter_le _ _) (by omega)⟩
structure Nk (n:Int) (ls:List I3):Prop where
  srt:Srt ls
  mem:∀ f,f∈ls↔meas f=n∧g3 f=1∧LF f f
  len:ls.length≤16200
theorem LF.bowl {f:I3} (h:meas f < 0):LF f f↔DQ f:=by
  constructor
  · rintro (⟨_,t,dt,L,e⟩ | ⟨S,_⟩)
    · rw [e];exact L
    · have:=S.pos;omega
  · intro L
    exact .inl ⟨⟨L.1,h⟩,(1,0,0,1),rfl,by rw [Bp];exact L,by rw [Bp]⟩
theorem LF.tp {f:I3} {far:Int} (S:Sad f) (r:Sq (meas f) far):LF f f↔Lv far f∧Tp far f:=by
  constructor
  · rintro (⟨b,_⟩ | ⟨_,t0,far',N,j,R,jl,lj,e⟩)
    · have:=b.2;have:=S.pos;omega
    · obtain rfl:=R.r.uniq r
      have e:rF far' j (mov f t0)=f:=e.symm
      have L:Lv far' f:=by have:=Lv.rF j R.v;rw [e] at this;exact this
      refine ⟨L,fun g ⟨m,hm⟩ z=>?_⟩
      have hg:rF far' (j+m) (mov f t0)=g:=by rw [Cg,e];exact hm
      obtain ⟨i,hi,ei⟩:=JB R.e R.n (j+m)
      have:=lj i hi
      rw [←ei,hg,e] at this
      rw [(Wt g f).mpr z] at this
      cases this
  · rintro ⟨L,t⟩
    obtain ⟨N,n0,nm,ne,nl⟩:=Ht L
    have R:Iv f (1,0,0,1) far N:=⟨rfl,r,by rw [Bp];exact L,⟨Bt.one.le (by decide),Bt.zero.le (by decide),Bt.zero.le (by decide),Bt.one.le (by decide)⟩,n0,nm,by rw [Bp];exact ne,by rw [Bp];exact nl,0,rfl,fun i hi=>absurd hi (by omega),by show Level (mov f (1,0,0,1)) far;rw [Bp];exact L.L⟩
    refine .inr ⟨S,(1,0,0,1),far,N,0,R,Nat.zero_le _,fun i _=>?_,by show f=mov f _;rw [Bp]⟩
    rw [Bp]
    exact Bool.eq_false_iff.mpr fun z=>t _ ⟨i,rfl⟩ ((Wt _ _).mp z)
noncomputable abbrev Jw:DSp:=spec (fun n:Int=>[.int n]) (fun n=>n < 0∧-4000≤n) fun n d=>∃ ls,d=.lst (ls.map t3)∧Nk n ls
theorem O6 (T:Txt K mg)
    (G_plain_forms:Pm P w K mg base 3 "plain_forms" Cp ["number","most"] Hf)
    (G_stands_least:Pm P w K mg base 1 "stands_least" Cu ["form"] Gu)
    (G_root:Pm P w K mg base 1 "root" HB ["number"] JV)
    : Pm P w K mg base 4 "least_bowls" Df ["number"] Jw:=by
  obtain ⟨f,fd,F⟩:=T.t_least_bowls
  refine ⟨f,fd,F,F.fn.okD Od (by walk_at "lE") fun cdv A outer s H E hr=>⟨_,(Ah (Aq (Oe (FP (sc:=Ai Df) (NN:=["number"]) (x:="form") (N:=[]) (sl:=[]) rfl rfl (by decide +kernel)) rfl (Ja (Ag Ae G_plain_forms (hr.mono (by decide)) rfl (Aa (dv 0) (Aa (Ag Ae G_root (hr.mono (by decide)) rfl (Aa (BJ (Gs (dv 0)) Ab) Af)) Af)))) (fun cl C s0 H0 ex=>(FZ (Ag Ae G_stands_least (hr.mono (by decide)) rfl (Aa (dv 0) Af)))) (fun cl C s0 H0 ex=>(dv 0))))),fun ds Q h=>?_⟩⟩
  obtain ⟨n,rfl,⟨n0,n4⟩,q⟩:=h
  have n0:n < 0:=n0
  have n4:-4000≤n:=n4
  have q:∀ d,(∃ ls,d=.lst (ls.map t3)∧Nk n ls)→Q d:=q
  have x0:0≤(-n).fdiv 3:=by rw [Int.fdiv_eq_ediv_of_nonneg _ (by decide)];omega
  have x1:3*(-n).fdiv 3≤-n∧-n < 3*(-n).fdiv 3+3:=by rw [Int.fdiv_eq_ediv_of_nonneg _ (by decide)];omega
  walk_at "go"
  refine Pk ?_
  walk_at "rd"
  refine ⟨⟨by decide,by decide⟩,Av ((-n).fdiv 3) ⟨x0,(Bt.of (by omega) (by omega):Bt 20 _).le (by decide)⟩ ?_⟩
  rintro _ ⟨r,rfl,hr',_⟩
  have hr':Sq ((-n).fdiv 3) r:=hr'
  have r0:=hr'.1
  have r6:r≤63:=Mx hr' (by omega)
  refine Av (n,r) ⟨Bt.of (show -(2 ^ 20) < n by omega) (show n < 2 ^ 20 by omega),r0,r6⟩ ?_
  rintro _ ⟨fs,rfl,sr,mem,len⟩
  have mem:∀ f,f∈fs↔PF n r f:=mem
  refine PX fs stands (fun R hR=>hR) (by omega) EY (fun f hf R hR=>?_) (fun f hf R hR=>hR) ?_
  · unfold inner
    walk_at "rd"
    exact Aj f trivial hR
  · refine q _ ⟨_,rfl,sr.filter _,fun f=>?_,Nat.le_trans (List.length_filter_le _ _) len⟩
    rw [List.mem_filter,mem f]
    constructor
    · rintro ⟨⟨h0,h1,h2,h3,h4⟩,h5⟩
      refine ⟨h3,h4,(LF.bowl (by omega)).mpr (Bc ?_ h5)⟩
      simp only [stands,Bool.and_eq_true,Bool.or_eq_true,decide_eq_true_eq] at h5
      omega
    · rintro ⟨h3,h4,h5⟩
      have L:=(LF.bowl (by omega)).mp h5
      obtain ⟨a0,l1,l2,l3,_⟩:=L
      have ex:f.2.1*f.2.1 - 4*f.1*f.2.2=n:=h3
      have y1:f.2.1*f.2.1≤f.1*f.1:=by
        rcases Int.le_total 0 f.2.1 with z | z
        · exact Int.mul_le_mul l2 l2 z (by omega)
        · have:=Int.mul_le_mul (show -f.2.1≤f.1 by omega) (show -f.2.1≤f.1 by omega) (by omega) (by omega)
          have e:-f.2.1 * -f.2.1=f.2.1*f.2.1:=Int.neg_mul_neg _ _
          omega
      have y2:f.1*f.1≤f.1*f.2.2:=Int.mul_le_mul_of_nonneg_left l3 (by omega)
      have y3:4*f.1*f.2.2=4*(f.1*f.2.2):=Int.mul_assoc ..
      have ar:f.1≤r:=by
        rcases Int.lt_or_le r f.1 with z | z
        · have:=Int.mul_le_mul (show r+1≤f.1 by omega) (show r+1≤f.1 by omega) (by omega) (by omega)
          have:=hr'.2.2
          omega
        · exact z
      exact ⟨⟨by omega,by omega,by omega,h3,h4⟩,DQ.stands ((LF.bowl (by omega)).mp h5)⟩
theorem W0 {n:Nat} {t b:Int} (h:Bt n (t*b)) (hb:b≠0):Bt n t:=by
  unfold Bt at *
  rw [Int.natAbs_mul] at h
  exact Nat.lt_of_le_of_lt (Nat.le_mul_of_pos_right _ (by omega)) h
theorem AjE {n most:Int} {f:I3} (h:PF n most f) (hn:n.natAbs≤4000) (m6:most≤63):B3 14 f:=by
  obtain ⟨h0,h1,h2,h3,_⟩:=h
  have ex:f.2.1*f.2.1 - 4*f.1*f.2.2=n:=h3
  refine ⟨(Bt.of (by omega) (by omega):Bt 7 _).le (by decide),(Bt.of (by omega) (by omega):Bt 7 _).le (by decide),?_⟩
  have b2:Bt 7 f.2.1:=Bt.of (by omega) (by omega)
  have bn:Bt 13 n:=Bt.of (by omega) (by omega)
  have e:f.2.2*(4*f.1)=f.2.1*f.2.1 - n:=by rw [Int.mul_comm];omega
  have q0:=sq_nonneg f.2.1
  have q1:f.2.1*f.2.1≤63*63:=by
    rcases Int.le_total 0 f.2.1 with z | z
    · exact Int.mul_le_mul (by omega) (by omega) z (by decide)
    · have:=Int.mul_le_mul (show -f.2.1≤63 by omega) (show -f.2.1≤63 by omega) (by omega) (by decide)
      rw [Int.neg_mul_neg] at this
      exact this
  refine (W0 (t:=f.2.2) (b:=4*f.1) ?_ (by omega):Bt 14 _)
  rw [e]
  exact Bt.of (show -(2 ^ 14) < f.2.1*f.2.1 - n by omega) (show f.2.1*f.2.1 - n < 2 ^ 14 by omega)
noncomputable abbrev HX:DSp:=spec (fun n:Int=>[.int n]) (fun n=>0 < n∧n≤4000∧¬ Ia n) fun n d=>∃ ls,d=.lst (ls.map t3)∧Nk n ls
theorem Mv (T:Txt K mg)
    (G_root:Pm P w K mg base 1 "root" HB ["number"] JV)
    (G_plain_forms:Pm P w K mg base 3 "plain_forms" Cp ["number","most"] Hf)
    (G_stands_level:Pm P w K mg base 1 "stands_level" Cw ["form","far"] Gq)
    (G_round_of:Pm P w K mg base 7 "round_of" Fb ["form"] M9)
    : Pm P w K mg base 8 "least_saddles" CG ["number"] HX:=by
  obtain ⟨f,fd,F⟩:=T.t_least_saddles
  refine ⟨f,fd,F,F.fn.okD Cr (by walk_at "lE") fun cdv A outer s H E hr=>⟨_,(Ad (Ak 1 Cr.nd (Ag Ae G_root (hr.mono (by decide)) rfl (Aa (dv 0) Af))) (Ad (Wk 2 Cr.nd Af) (Ad (AeT 3 Cr.nd) (Ad (MF PassesOwn.never rfl (Ja (Ag Ae G_plain_forms (hr.mono (by decide)) rfl (Aa (dv 0) (Aa (dv 1) Af)))) (BX 4 Cr.nd) (Ah (Ci (DW.dt (Pj (FZ (Ag Ae G_stands_level (hr.mono (by decide)) rfl (Aa (dv 4) (Aa (dv 1) Af)))) (Lx (Aal 3 (un1 hr.units) (dv 4))))) (Ad (S6 2 (dv 4)) (Ah (MF PassesOwn.never rfl (Ja (Ag Ae G_round_of (hr.mono (by decide)) rfl (Aa (dv 4) Af))) (BX 5 Cr.nd) (Ah (Yx 3 (un1 hr.units) J1 (dv 5)))))) Bf))) (Ah (WR 2 (Aq (dv 2)))))))),fun ds Q h=>?_⟩⟩
  obtain ⟨n,rfl,⟨n0,n4,ns⟩,q⟩:=h
  have n0:0 < n:=n0
  have n4:n≤4000:=n4
  have ns:¬ Ia n:=ns
  have q:∀ d,(∃ ls,d=.lst (ls.map t3)∧Nk n ls)→Q d:=q
  walk_at "go"
  refine Av n ⟨by omega,(Bt.of (by omega) (by omega):Bt 20 _).le (by decide)⟩ ?_
  rintro _ ⟨far,rfl,hr',_⟩
  have hr':Sq n far:=hr'
  have r0:=hr'.1
  have r6:far≤63:=Mx hr' n4
  walk_at "rd"
  refine ⟨Nat.zero_le _,MN ?_⟩
  walk_at "rd"
  refine Av (n,far) ⟨Bt.of (show -(2 ^ 20) < n by omega) (show n < 2 ^ 20 by omega),r0,r6⟩ ?_
  rintro _ ⟨fs,rfl,sr,mem,len⟩
  have mem:∀ f,f∈fs↔PF n far f:=mem
  have len:fs.length≤16200:=len
  have cl:=ZW mem
  have sad:∀ {f:I3},meas f=n→Sad f:=fun {f} e=>⟨by rw [e];exact ns,by rw [e];exact n0,by rw [e];exact n4⟩
  refine Jz (fs.map t3) (fun R h=>h) (fun k ρ=>∃ fnd ks x y,ρ=[some (.is (.int n)),some (.is (.int far)),some (.own (fnd.map t3)),some (.tab ks),x,y]∧PIn far fs k fnd ks∧NdF fs ks∧fnd.length≤k) ⟨[],[],none,none,rfl,PIn.start,NdF.nil,Nat.le_refl _⟩ ?_ ?_
  · rintro k d _ hk ⟨fnd,ks,x,y,rfl,I,nd,lk⟩
    obtain ⟨f,hf,rfl⟩:∃ f,fs[k]? = some f∧d=t3 f:=by
      rw [List.getElem?_map] at hk
      cases e:fs[k]? with
      | none=>rw [e] at hk;cases hk
      | some f=>rw [e] at hk;cases hk;exact ⟨f,rfl,rfl⟩
    have hm:=List.mem_of_getElem? hf
    have P:=(mem f).mp hm
    have kl:k < fs.length:=(List.getElem?_eq_some_iff.mp hf).1
    have bf:B3 14 f:=AjE P (by omega) r6
    have S:=sad P.2.2.2.1
    walk_at "rd"
    refine Aj (f,far) (bf.le (by decide)) ?_
    by_cases hL:Level f far
    · have L:Lv far f:=⟨S,by rw [P.2.2.2.1];exact hr',hL⟩
      refine ift (decide_eq_true hL) ⟨rw3 f,rfl,?_⟩
      by_cases hs:rw3 f∈ks
      · exact Es (by rw [decide_eq_true hs];rfl) ⟨fnd,ks,_,_,rfl,I.no hf (.inr hs),nd,by omega⟩
      · refine ift (by rw [decide_eq_false hs];rfl) ⟨Lq (by omega),MN ?_⟩
        walk_at "rd"
        refine Av f ⟨bf.le (by decide),S⟩ ?_
        rintro _ ⟨t0,far',N,kk,R,kN,_,rfl⟩
        have R:Iv f t0 far' N:=R
        have ef:far'=far:=R.r.uniq L.r
        subst ef
        have rs:=Zx (k:=kk+1) L R.d R.v R.e R.n
        obtain ⟨z,ez⟩:∃ z,rF far' (kk+1) (mov f t0)=z:=⟨_,rfl⟩
        rw [ez] at rs ⊢
        walk_at "rd"
        refine Jz ((List.range N).map fun i=>t3 (rF far' i z)) (fun R h=>h) (fun j ρ=>∃ ks' y,ρ=[some (.is (.int n)),some (.is (.int far')),some (.own (fnd.map t3 ++ [t3 f])),some (.tab ks'),some (.is (t3 f)),y]∧(∀ x,rw3 x∈ks'↔rw3 x∈ks∨∃ i,i < j∧rF far' i z=x)∧NdF fs ks') ⟨ks,_,rfl,fun x=>⟨.inl,fun w=>w.resolve_right fun ⟨i,hi,_⟩=>absurd hi (by omega)⟩,nd⟩ ?_ ?_
        · rintro j d _ hj ⟨ks',y,rfl,h1,nd'⟩
          rw [List.getElem?_map] at hj
          obtain ⟨hjN,rfl⟩:j < N∧d=t3 (rF far' j z):=by
            rcases Nat.lt_or_ge j N with w | w
            · rw [List.getElem?_range w] at hj
              cases hj
              exact ⟨w,rfl⟩
            · rw [List.getElem?_eq_none (by rw [List.length_range];exact w)] at hj
              cases hj
          have inn:rF far' j z∈fs:=cl f hm L _ ((rs _).mp ⟨j,hjN,rfl⟩)
          have ln:=nd'.len
          walk_at "rd"
          refine ⟨⟨true,rfl⟩,rw3 (rF far' j z),rfl,Nat.le_of_lt (Lq (by omega)),_,_,rfl,fun x=>?_,nd'.put inn⟩
          rw [Qc,h1 x]
          constructor
          · rintro ((w | ⟨i,hi,e⟩) | w)
            · exact .inl w
            · exact .inr ⟨i,by omega,e⟩
            · exact .inr ⟨j,by omega,(Ac2 w).symm⟩
          · rintro (w | ⟨i,hi,e⟩)
            · exact .inl (.inl w)
            · rcases Nat.lt_or_ge i j with v | v
              · exact .inl (.inr ⟨i,v,e⟩)
              · have:i=j:=by omega
                subst this
                exact .inr (by rw [e])
        · rintro _ ⟨ks',y,rfl,h1,nd'⟩
          rw [List.length_map,List.length_range] at h1
          refine ⟨fnd ++ [f],ks',_,_,by rw [List.map_append];rfl,PIn.yes sr cl I hf L hs fun x=>?_,nd',by rw [List.length_append,List.length_singleton];omega⟩
          rw [h1 x,rs x]
    · exact Es (decide_eq_false hL) ⟨fnd,ks,_,_,rfl,I.no hf (.inl fun L=>hL L.L),nd,by omega⟩
  · rintro _ ⟨fnd,ks,x,y,rfl,I,nd,lk⟩
    rw [List.length_map] at I lk
    refine q _ ⟨fnd,rfl,I.srt,fun f=>?_,by omega⟩
    rw [I.mem f,List.take_length,mem f]
    constructor
    · rintro ⟨⟨h0,h1,h2,h3,h4⟩,L,t⟩
      exact ⟨h3,h4,(LF.tp L.S L.r).mpr ⟨L,t⟩⟩
    · rintro ⟨h3,h4,h5⟩
      obtain ⟨L,t⟩:=(LF.tp (sad h3) (by rw [h3];exact hr')).mp h5
      have ⟨i1,i2⟩:=Vo L.L
      exact ⟨⟨Rg L.S,i1,i2,h3,h4⟩,L,t⟩
structure Aam (n:Int):Prop where
  r:n % 4=0∨n % 4=1
  q:¬ Ia n
  m:n.natAbs≤4000
noncomputable abbrev HS:DSp:=BL (fun D:Int=>[.int D]) (fun D=>Aam D) fun _=>.non
theorem M4 (T:Txt K mg)
    (G_is_square:Pm P w K mg base 2 "is_square" DX ["number"] Iu)
    : Pm P w K mg base 3 "check_measure" CP ["number"] HS:=by
  obtain ⟨f,fd,F⟩:=T.t_check_measure
  refine ⟨f,fd,F,F.fn.okD Mt (by walk_at "lE") fun cdv A outer s H E hr=>⟨_,(Ah (Ci (DW.dt (Q0 (QZ (DK (dv 0) Ab) Ab) (Ol (FZ (Ag Ae G_is_square (hr.mono (by decide)) rfl (Aa (dv 0) Af)))))) (Ah Fp) Bf)),fun ds Q h=>?_⟩⟩
  obtain ⟨D,rfl,hD,q⟩:=h
  have hD:Aam D:=hD
  have q':=q _ rfl
  have e:D.fmod 4=D % 4:=Int.fmod_eq_emod_of_nonneg _ (by decide)
  have m:=hD.m
  walk_at "go"
  have hr:=hD.r
  refine ⟨by decide,Es (decide_eq_false (by omega)) (Av D ((Bt.of (by omega) (by omega):Bt 20 D).le (by decide)) ?_)⟩
  rintro _ ⟨k,rfl,hk⟩
  cases k with
  | true=>exact absurd (hk.mp rfl) hD.q
  | false=>exact Es rfl q'
noncomputable abbrev Ph:DSp:=spec (fun n:Int=>[.int n]) (fun n=>Aam n) fun n d=>∃ ls,d=.lst (ls.map t3)∧Nk n ls
theorem Wr (T:Txt K mg)
    (G_check_measure:Pm P w K mg base 3 "check_measure" CP ["number"] HS)
    (G_check_within:Pm P w K mg base 1 "check_within" Dm ["number","most"] Jg)
    (G_least_saddles:Pm P w K mg base 8 "least_saddles" CG ["number"] HX)
    (G_least_bowls:Pm P w K mg base 4 "least_bowls" Df ["number"] Jw)
    : Pm P w K mg base 9 "classes" GR ["number"] Ph:=by
  obtain ⟨f,fd,F⟩:=T.t_classes
  obtain ⟨t_MOST_MEASURE,m_MOST_MEASURE⟩:=T.m_MOST_MEASURE
  refine ⟨f,fd,F,F.fn.okD Wg (by walk_at "lE") fun cdv A outer s H E hr=>⟨_,(Ad (Ek (Ag Ae G_check_measure (hr.mono (by decide)) rfl (Aa (dv 0) Af))) (Ad (Ek (Ag Ae G_check_within (hr.mono (by decide)) rfl (Aa (dv 0) (Aa (N6 (v:=.int (4000)) (d:=.int (4000)) rfl m_MOST_MEASURE ⟨_,rfl⟩ (fun _=>Bj.mpr rfl)) Af)))) (Ad (Ci (Rm (dv 0) Ab) (Ah (Aq (Ag Ae G_least_bowls (hr.mono (by decide)) rfl (Aa (dv 0) Af)))) Bf) (Ah (Aq (Ag Ae G_least_saddles (hr.mono (by decide)) rfl (Aa (dv 0) Af))))))),fun ds Q h=>?_⟩⟩
  obtain ⟨n,rfl,hD,q⟩:=h
  have hD:Aam n:=hD
  have m:=hD.m
  walk_at "go"
  refine Aj n hD (Aj (n,4000) (by show ((n.natAbs:Nat):Int)≤4000;omega) ?_)
  rcases Int.lt_or_le n 0 with z | z
  · exact ift (decide_eq_true z) (Av n ⟨z,by show -4000≤n;omega⟩ q)
  · exact Es (decide_eq_false (by omega)) (Av n ⟨by
      show 0 < n
      have:n≠0:=fun e=>hD.q ⟨0,by rw [e];rfl⟩
      omega,by show n≤4000;omega,hD.q⟩ q)
theorem Ag3 (ds:List Dt):(cutD ds (some 7) (some 63)).length≤56:=by
  unfold cutD
  rw [show (7:Int)=((7:Nat):Int) from rfl,show (63:Int)=((63:Nat):Int) from rfl,HT.NQ,HT.NQ,List.length_take,List.length_drop]
  omega
noncomputable def KJ (f h:I3) (d:Dt):Prop:=(∃ y:I4,d=t4 y∧det y=1∧mov f y=h∧B4 190000 y)∨(d=.non∧∃ g g',LF f g∧LF h g'∧g≠g')
noncomputable abbrev Uz:DSp:=spec (fun p:I3 × I3=>[t3 p.1,t3 p.2]) (fun p=>(B3 1500 p.1∧(Bm p.1∨Sad p.1))∧(B3 1500 p.2∧(Bm p.2∨Sad p.2))) fun p d=>KJ p.1 p.2 d
theorem Aak (T:Txt K mg)
    (G_shape_of:Pm P w K mg base 10 "shape_of" Ds ["form"] Gk)
    (G_way_between:Pm P w K mg base 4 "way_between" Dz ["one","other"] Jq)
    : Pm P w K mg base 11 "alike" JW ["one","other"] Uz:=by
  obtain ⟨f,fd,F⟩:=T.t_alike
  refine ⟨f,fd,F,F.fn.okD O8 (by walk_at "lE") fun cdv A outer s H E hr=>⟨_,(Ad (Ak 2 O8.nd (Ag Ae G_shape_of (hr.mono (by decide)) rfl (Aa (dv 0) Af))) (Ad (Ak 3 O8.nd (Ag Ae G_shape_of (hr.mono (by decide)) rfl (Aa (dv 1) Af))) (Ah (Aq (Ag Ae G_way_between (hr.mono (by decide)) rfl (Aa (JD (dv 2)) (Aa (JD (dv 3)) Af))))))),fun ds Q h=>?_⟩⟩
  obtain ⟨⟨f,h⟩,rfl,⟨hf,hh⟩,q⟩:=h
  have q:∀ d,KJ f h d→Q d:=q
  walk_at "go"
  refine Av f hf ?_
  rintro _ ho
  obtain ⟨c,l,hc,rfl,h1⟩:=Lg ho
  obtain ⟨g,t,rfl,L,dt,mt,bt⟩:=ZC h1
  refine Av h hh ?_
  rintro _ ho2
  obtain ⟨c2,l2,hc2,rfl,h2⟩:=Lg ho2
  obtain ⟨g2,u,rfl,L2,du,mu,bu⟩:=ZC h2
  refine ⟨Aan T hc,_,rfl,Aan T hc2,_,rfl,Aj ((g,t),(g2,u)) ⟨bt,bu,du⟩ (q _ ?_)⟩
  dsimp only
  by_cases eg:g=g2
  · rw [if_pos eg]
    exact .inl ⟨Ao t (Ar u),rfl,by rw [Cj,CV,dt,du];rfl,by show mov f _=h;rw [←Bg,mt,eg,←mu,Bq du],(B4.then bt bu.back).le (by decide)⟩
  · rw [if_neg eg]
    exact .inr ⟨rfl,g,g2,L,L2,eg⟩
noncomputable abbrev GD:DSp:=BL (fun p:List Int × Int=>[.lst (p.1.map Dt.int),.int p.2]) (fun p=>0≤p.2) fun p=>.int (p.1.getD p.2.toNat 0)
theorem Jy {Q:Dt→Prop} (ns:List Int) (k:Int) (h:0≤k) (q:Q (.int (ns.getD k.toNat 0))):GD [.lst (ns.map Dt.int),.int k] Q:=Aj (ns,k) h q
theorem Sy (T:Txt K mg)
    : Pm P w K mg base 1 "_law_cell" DR ["_law_script","_law_k"] GD:=by
  obtain ⟨f,fd,F⟩:=T.t__law_cell
  refine ⟨f,fd,F,F.fn.okD RT (by walk_at "lE") fun cdv A outer s H E hr=>⟨_,(Ad (Ci (Rm (dv 1) (Kh T.z_len (Aa (dv 0) Af))) (Ah (Aq (Ac (dv 0) (dv 1)))) Bf) (Ah (Aq Ab))),fun ds Q h=>?_⟩⟩
  obtain ⟨⟨ns,k⟩,rfl,h0,q⟩:=h
  walk_at "go"
  by_cases hk:k < ns.length
  · simp only [decide_eq_true hk,Adp h0 hk,if_true]
    exact q _ rfl
  · simp only [decide_eq_false hk]
    have e:ns.getD k.toNat 0=0:=by
      have:ns.length≤k.toNat:=by have h0':0≤k:=h0;omega
      simp [this]
    have q':=q _ rfl
    dsimp only at q'
    rw [e] at q'
    exact q'
noncomputable abbrev JZ:DSp:=BL (fun n:Int=>[.int n]) (fun _=>True) fun _=>.bl true
theorem QC (T:Txt K mg)
    : Pm P w K mg base 1 "_law_whole" Ei ["_law_found"] JZ:=by
  obtain ⟨f,fd,F⟩:=T.t__law_whole
  refine ⟨f,fd,F,F.fn.okD Qx (by walk_at "lE") fun cdv A outer s H E hr=>⟨_,(Ah (Aq (Wh (Wj T.z_isinstance T.z_int Ade (dv 0)) (Td (AeR (Wj T.z_isinstance T.z_bool Abj (dv 0))))))),fun ds Q h=>?_⟩⟩
  obtain ⟨n,rfl,_,q⟩:=h
  have q':Q (.bl true):=q _ rfl
  walk_at "go"
  exact q'
noncomputable def isI:Dt→Bool
  | .int _=>true
  | _=>false
noncomputable abbrev FJ:DSp:=BL (fun p:List Int × Int=>[.tup (p.1.map Dt.int),.int p.2]) (fun p=>p.1.length≤1000) fun p=>.bl (decide ((p.1.length:Int)=p.2))
theorem YM {Q:Dt→Prop} (ns:List Int) (k:Int) (h:(ns.length:Int)=k) (hl:ns.length≤1000) (q:Q (.bl true)):FJ [.tup (ns.map Dt.int),.int k] Q :=
  Aj (ns,k) hl (by dsimp only;rw [decide_eq_true h];exact q)
theorem Adk {Q:Dt→Prop} (p:I4) (q:Q (.bl true)):FJ [t4 p,.int 4] Q:=YM [p.1,p.2.1,p.2.2.1,p.2.2.2] 4 rfl (by show 4≤1000;decide) q
theorem Ow (T:Txt K mg)
    (G__law_whole:Pm P w K mg base 1 "_law_whole" Ei ["_law_found"] JZ)
    : Pm P w K mg base 2 "_law_wholes" Di ["_law_found","_law_many"] FJ:=by
  obtain ⟨f,fd,F⟩:=T.t__law_wholes
  refine ⟨f,fd,F,F.fn.okD Pu (by walk_at "lE") fun cdv A outer s H E hr=>⟨_,(Ad (Ci (DW.dt (Q0 (Js (FZ (Wj T.z_isinstance T.z_tuple Y9 (dv 0)))) (Ol (Gm hr.units (Kh T.z_len (Aa (dv 0) Af)) (dv 1))))) (Ah (Aq J1)) Bf) (Ah (Aq (RD hr.units (Kh T.z_len (Aa (Oe (FP (sc:=Ai Di) (NN:=["_law_found","_law_many"]) (x:="_law_one") (N:=[]) (sl:=[]) rfl rfl (by decide +kernel)) rfl (AeQ (dv 0)) (fun cl C s0 H0 ex=>(FZ (Ag Ae G__law_whole (hr.mono (by decide)) rfl (Aa (dv 0) Af)))) (fun cl C s0 H0 ex=>(dv 0))) Af)) (dv 1))))),fun ds Q h=>?_⟩⟩
  obtain ⟨⟨ns,k⟩,rfl,h0,q⟩:=h
  walk_at "go"
  have q':=q _ rfl
  dsimp only at q'
  by_cases hk:(ns.length:Int)=k
  · rw [decide_eq_true hk] at q'
    simp only [decide_eq_true hk]
    walk_at "rd"
    refine KZ (ns.map Dt.int) isI id (fun R h=>h) (by rw [List.length_map];exact Az h0) EY (fun d hd R hR=>?_) (fun d hd hp R hR=>hR) ?_
    · unfold inner
      walk_at "rd"
      obtain ⟨n,_,rfl⟩:=List.mem_map.mp hd
      exact Aj n trivial hR
    · have e:(List.filter isI (ns.map Dt.int)).map id=ns.map Dt.int:=by
        rw [List.map_id,List.filter_eq_self]
        intro d hd
        obtain ⟨n,_,rfl⟩:=List.mem_map.mp hd
        rfl
      rw [e]
      walk_at "rd"
      rw [decide_eq_true hk]
      exact q'
  · rw [decide_eq_false hk] at q'
    simp only [decide_eq_false hk]
    exact q'
noncomputable abbrev Jr:DSp:=BL (fun f:I3=>[t3 f]) (fun f=>B3 2000 f) fun f=>.int (meas f)
theorem TJ (T:Txt K mg)
    : Pm P w K mg base 1 "_law_bar" Fd ["_law_form_here"] Jr:=by
  obtain ⟨f,fd,F⟩:=T.t__law_bar
  refine ⟨f,fd,F,F.fn.okD TV (by walk_at "lE") fun cdv A outer s H E hr=>⟨_,(Ah (Aq (BK (Al (Ac (dv 0) Ab) (Ac (dv 0) Ab)) (Al (Al Ab (Ac (dv 0) Ab)) (Ac (dv 0) Ab))))),fun ds Q h=>?_⟩⟩
  obtain ⟨f,rfl,hf,q⟩:=h
  have hf:B3 2000 f:=hf
  have q':=q _ rfl
  have four:Bt 3 4:=Bt.of_abs (by decide)
  walk_at "go"
  exact ⟨hf.2.1.mulOk hf.2.1,four.mulOk hf.1,(four.mul hf.1).mulOk hf.2.2,q'⟩
noncomputable abbrev K8:DSp:=spec (fun n:Int=>[.int n]) (fun n=>0≤n∧Bt 4000 n) fun n d=>∃ r,d=.int r∧Sq n r∧Bt 2001 r
theorem Tj (T:Txt K mg)
    : Pm P w K mg base 1 "_law_root" Fi ["_law_number"] K8:=by
  obtain ⟨f,fd,F⟩:=T.t__law_root
  refine ⟨f,fd,F,F.fn.okD Iz (by walk_at "lE") fun cdv A outer s H E hr=>⟨_,(Ad (Ak 1 Iz.nd (ZS Ab (BJ (Br (W6 (dv 0)) Ab) Ab))) (Ad (Gj PassesOwn.never (QZ (Al (dv 1) (dv 1)) (dv 0)) (Ah (Ak 1 Iz.nd (BJ (Br (dv 1) (BJ (dv 0) (dv 1))) Ab)))) (Ah (Aq (dv 1))))),fun ds Q h=>?_⟩⟩
  obtain ⟨n,rfl,⟨h0,hb⟩,q⟩:=h
  walk_at "go"
  obtain ⟨c1,c2,c3⟩:=Ng hb
  have hu:=Ug h0
  refine ⟨⟨by decide,by decide⟩,c1,?_⟩
  generalize (1*2 ^ ((((Builtin.Int.intBits n:Nat):Int)+1).fdiv 2).toNat:Int)=g at *
  refine Gn (fun m ρ=>∃ g:Int,ρ=[some (.is (.int n)),some (.is (.int g))]∧0≤g∧Bt 2001 g∧n < (g+1)*(g+1)∧m=g.toNat) _ ⟨g,rfl,by omega,c2,hu,rfl⟩ ?_
  rintro m _ ⟨g,rfl,hg,hgb,hgu,rfl⟩
  walk_at "rd"
  refine ⟨hgb.mulOk hgb,NK (fun hw=>?_) (fun hw=>?_)⟩
  · have hw:=of_decide_eq_true hw
    have hg0:0 < g:=by
      rcases Int.lt_or_le 0 g with z | z
      · exact z
      · have:g=0:=by omega
        subst this
        omega
    have hd:=Vk hg0 hw
    have hu':=Q8 h0 hg0
    have hp:0≤(g+n / g) / 2:=by
      have:=Int.ediv_nonneg h0 (show 0≤g by omega)
      omega
    have hbb:Bt 2001 ((g+n / g) / 2):=by unfold Bt at *;omega
    refine ⟨Bt.divOk hgb (by omega),⟨by decide,by decide⟩,?_⟩
    rw [Tt hg0]
    exact ⟨_,by omega,_,rfl,hp,hbb,hu',rfl⟩
  · have hw:¬ n < g*g:=fun z=>hw (decide_eq_true z)
    exact q _ ⟨g,rfl,⟨by omega,by omega,hgu⟩,hgb⟩
noncomputable abbrev Lr:DSp:=spec (fun f:I3=>[t3 f]) (fun f=>B3 1500 f∧0≤meas f) fun f d=>∃ b:Bool,d=.bl b∧(b=true↔Ia (meas f))
theorem Sv (T:Txt K mg)
    (G__law_bar:Pm P w K mg base 1 "_law_bar" Fd ["_law_form_here"] Jr)
    (G__law_root:Pm P w K mg base 1 "_law_root" Fi ["_law_number"] K8)
    : Pm P w K mg base 2 "_law_flat" Fj ["_law_form_here"] Lr:=by
  obtain ⟨f,fd,F⟩:=T.t__law_flat
  refine ⟨f,fd,F,F.fn.okD Il (by walk_at "lE") fun cdv A outer s H E hr=>⟨_,(Ad (Ak 1 Il.nd (Ag Ae G__law_bar (hr.mono (by decide)) rfl (Aa (dv 0) Af))) (Ad (Ak 2 Il.nd (Ag Ae G__law_root (hr.mono (by decide)) rfl (Aa (dv 1) Af))) (Ah (Aq (RD hr.units (Al (dv 2) (dv 2)) (dv 1)))))),fun ds Q h=>?_⟩⟩
  obtain ⟨f,rfl,⟨hf,h0⟩,q⟩:=h
  have hf:B3 1500 f:=hf
  have h0:0≤meas f:=h0
  have four:Bt 3 4:=Bt.of_abs (by decide)
  have bm:Bt 4000 (meas f):=((hf.2.1.mul hf.2.1).sub (((four.mul hf.1).mul hf.2.2).le (m:=3010) (by decide))).le (by decide)
  walk_at "go"
  refine Aj f (hf.le (by decide)) (Av (meas f) ⟨h0,bm⟩ ?_)
  rintro _ ⟨r,rfl,hs,hb⟩
  walk_at "rd"
  refine ⟨hb.mulOk hb,q _ ⟨_,rfl,?_⟩⟩
  rw [decide_eq_true_eq]
  refine ⟨fun e=>⟨r,e⟩,fun ⟨x,e⟩=>?_⟩
  obtain ⟨r0,r1,r2⟩:=hs
  have e2:(x.natAbs:Int)*x.natAbs=meas f:=(Int.natAbs_mul_self' x).trans e
  obtain ⟨k,ek,k0⟩:∃ k:Int,(x.natAbs:Int)=k∧0≤k:=⟨_,rfl,by omega⟩
  rw [ek] at e2
  rcases Int.lt_trichotomy r k with z | z | z
  · have:=Int.mul_le_mul (show r+1≤k by omega) (show r+1≤k by omega) (by omega) k0
    omega
  · rw [z];exact e2
  · have:=Int.mul_le_mul (show k+1≤r by omega) (show k+1≤r by omega) (by omega) r0
    have:(k+1)*(k+1)=k*k+2*k+1:=by grind
    omega
noncomputable abbrev KN:DSp:=spec (fun p:Int × List Int=>[.int p.1,.lst (p.2.map Dt.int)]) (fun p=>p.1=0∧p.2.length≤63) fun p d=>∃ t:I4,d=t4 t∧det t=1∧B4 210 t∧(p.2.length≤28→B4 94 t)
theorem Sx (T:Txt K mg)
    : Pm P w K mg base 1 "_law_turn" Fg ["_law_first","_law_cells"] KN:=by
  obtain ⟨f,fd,F⟩:=T.t__law_turn
  refine ⟨f,fd,F,F.fn.okD BP (by walk_at "lE") fun cdv A outer s H E hr=>⟨_,(Ad (R6 (Bo (Aa Ab (Aa (dv 0) (Aa Ab (Aa Ab Af))))) (Oi (n:=4) rfl (Cd (BX 2 BP.nd) (Cd (BX 3 BP.nd) (Cd (BX 4 BP.nd) (Cd (BX 5 BP.nd) Lp)))))) (Ad (MF PassesOwn.never rfl (Ja (dv 1)) (BX 6 BP.nd) (Ad (Ak 7 BP.nd (BK (DK (dv 6) Ab) Ab)) (Ah (R6 (Bo (Aa (dv 3) (Aa (BK (Al (dv 7) (dv 3)) (dv 2)) (Aa (dv 5) (Aa (BK (Al (dv 7) (dv 5)) (dv 4)) Af))))) (Oi (n:=4) rfl (Cd (BX 2 BP.nd) (Cd (BX 3 BP.nd) (Cd (BX 4 BP.nd) (Cd (BX 5 BP.nd) Lp))))))))) (Ah (Aq (Bo (Aa (dv 2) (Aa (dv 3) (Aa (dv 4) (Aa (dv 5) Af))))))))),fun ds Q h=>?_⟩⟩
  obtain ⟨⟨f,cs⟩,rfl,⟨hf,hl⟩,q⟩:=h
  have hf:f=0:=hf
  walk_at "go"
  refine ⟨Az (by decide),?_⟩
  have low:∀ {i:Nat} {x:Int},i≤63→x.natAbs≤10 ^ i→Bt 210 x:=fun {i x} hi h=>by
    have h1:(10:Nat) ^ i≤10 ^ 63:=Nat.pow_le_pow_right (by decide) hi
    have h2:(10:Nat) ^ 63 < 2 ^ 210:=by decide
    exact Nat.lt_of_le_of_lt h (Nat.lt_of_le_of_lt h1 h2)
  have low2:∀ {x:Int},cs.length≤28→x.natAbs≤10 ^ cs.length→Bt 94 x:=fun {x} hi h=>by
    have h1:(10:Nat) ^ cs.length≤10 ^ 28:=Nat.pow_le_pow_right (by decide) hi
    have h2:(10:Nat) ^ 28 < 2 ^ 94:=by decide
    exact Nat.lt_of_le_of_lt h (Nat.lt_of_le_of_lt h1 h2)
  have hl:cs.length≤63:=hl
  refine Jz (cs.map Dt.int) (fun R h=>h) (fun i ρ=>∃ p q r s x y,ρ=[some (.is (.int f)),some (.is (.lst (cs.map Dt.int))),some (.is (.int p)),some (.is (.int q)),some (.is (.int r)),some (.is (.int s)),x,y]∧p*s - q*r=1∧p.natAbs≤10 ^ i∧q.natAbs≤10 ^ i∧r.natAbs≤10 ^ i∧s.natAbs≤10 ^ i) ?_ ?_ ?_
  · exact ⟨1,f,0,1,none,none,rfl,by omega,by decide,by rw [hf];decide,by decide,by decide⟩
  · rintro i d _ hi ⟨p,q,r,s,x,y,rfl,hd,hp,hq,hr,hs⟩
    obtain ⟨n,hn,rfl⟩:=ints_get hi
    have hk0:n.fmod 19=n % 19:=Int.fmod_eq_emod_of_nonneg n (by decide)
    have hk:Bt 4 (n.fmod 19 - 9):=by
      rw [hk0]
      exact Bt.of (by omega) (by omega)
    have hi6:i < 63:=by
      have:=(List.getElem?_eq_some_iff.mp hn).1
      omega
    have hq':Bt 210 q:=low (by omega) hq
    have hs':Bt 210 s:=low (by omega) hs
    have e10:10 ^ (i+1)=10*10 ^ i:=by rw [Nat.pow_succ,Nat.mul_comm]
    have up:∀ {x y k:Int},k.natAbs≤9→x.natAbs≤10 ^ i→y.natAbs≤10 ^ i→(k*x - y).natAbs≤10 ^ (i+1):=fun {x y k} h1 h2 h3=>by
      have a1:(k*x).natAbs≤9*10 ^ i:=by rw [Int.natAbs_mul];exact Nat.mul_le_mul h1 h2
      rw [e10]
      omega
    have k9:(n.fmod 19 - 9).natAbs≤9:=by rw [hk0];omega
    walk_at "rd"
    refine ⟨by decide,by walk_at "mul",by walk_at "mul",Az (by decide),?_⟩
    refine ⟨q,(n.fmod 19 - 9)*q - p,s,(n.fmod 19 - 9)*s - r,_,_,rfl,by grind,by omega,up k9 hq hp,by omega,up k9 hs hr⟩
  · rintro _ ⟨p,q',r,s,x,y,rfl,hd,hp,hq,hr,hs⟩
    walk_at "rd"
    rw [List.length_map] at hp hq hr hs
    refine ⟨Az (by decide),q _ ⟨(p,q',r,s),rfl,hd,⟨low hl hp,low hl hq,low hl hr,low hl hs⟩,fun z=>⟨low2 z hp,low2 z hq,low2 z hr,low2 z hs⟩⟩⟩
noncomputable abbrev K7:DSp:=BL (fun p:I2=>[.int p.1,.int p.2]) (fun _=>True) fun p=>.int ((Int.gcd p.1 p.2:Nat):Int)
theorem SN (T:Txt K mg)
    : Pm P w K mg base 1 "_law_rest" Fo ["_law_one","_law_other"] K7:=by
  obtain ⟨f,fd,F⟩:=T.t__law_rest
  refine ⟨f,fd,F,F.fn.okD KQ (by walk_at "lE") fun cdv A outer s H E hr=>⟨_,(Ad (Gj PassesOwn.never (Gm hr.units (dv 1) Ab) (Ah (Acy rfl KQ.nd 0 1 (Aa (dv 1) (Aa (DK (dv 0) (dv 1)) Af))))) (Ah (Aq (Ml T.z_abs (Aa (dv 0) Af))))),fun ds Q h=>?_⟩⟩
  obtain ⟨⟨a,b⟩,rfl,_,q⟩:=h
  simp only [PN,Qp,Py]
  refine Gn (fun m ρ=>∃ x y,ρ=[some (.is (.int x)),some (.is (.int y))]∧Int.gcd x y=Int.gcd a b∧m=y.natAbs) _ ⟨a,b,rfl,rfl,rfl⟩ ?_
  rintro m _ ⟨x,y,rfl,hg,rfl⟩
  walk_at "rd"
  by_cases hy:y=0
  · subst hy
    simp only [decide_true,Bool.not_true]
    walk_at "rd"
    have q':=q _ rfl
    have e:(if x < 0 then -x else x)=((Int.gcd a b:Nat):Int):=by rw [←hg,Int.gcd_zero_right];split <;> omega
    rw [e]
    exact q'
  · simp only [decide_eq_false hy,Bool.not_false,if_true]
    exact ⟨hy,_,Je hy,y,x.fmod y,rfl,(K3 x y).trans hg,rfl⟩
noncomputable abbrev J9:DSp:=BL (fun p:I3 × I2=>[t3 p.1,.int p.2.1,.int p.2.2]) (fun p=>B3 20000 p.1∧B2 300100 p.2) fun p=>.int (val p.1 p.2)
theorem QG (T:Txt K mg)
    : Pm P w K mg base 1 "_law_value" Eo ["_law_form_here","_law_x","_law_y"] J9:=by
  obtain ⟨f,fd,F⟩:=T.t__law_value
  refine ⟨f,fd,F,F.fn.okD Gh (by walk_at "lE") fun cdv A outer s H E hr=>⟨_,(Ad (R6 (dv 0) (Oi (n:=3) rfl (Cd (BX 3 Gh.nd) (Cd (BX 4 Gh.nd) (Cd (BX 5 Gh.nd) Lp))))) (Ah (Aq (Br (Br (Al (Al (dv 3) (dv 1)) (dv 1)) (Al (Al (dv 4) (dv 1)) (dv 2))) (Al (Al (dv 5) (dv 2)) (dv 2)))))),fun ds Q h=>?_⟩⟩
  obtain ⟨⟨⟨a,b,c⟩,x,y⟩,rfl,⟨⟨ha,hb,hc⟩,hx,hy⟩,q⟩:=h
  walk_at "go"
  walk_at "muls"
  exact q _ rfl
noncomputable abbrev Hz:DSp:=BL (fun p:I3 × I4=>[t3 p.1,t4 p.2]) (fun p=>B3 20000 p.1∧B4 300000 p.2) fun p=>t3 (mov p.1 p.2)
theorem Qv (T:Txt K mg)
    (G__law_value:Pm P w K mg base 1 "_law_value" Eo ["_law_form_here","_law_x","_law_y"] J9)
    : Pm P w K mg base 2 "_law_moved" Dp ["_law_form_here","_law_turn_here"] Hz:=by
  obtain ⟨f,fd,F⟩:=T.t__law_moved
  refine ⟨f,fd,F,F.fn.okD Dk (by walk_at "lE") fun cdv A outer s H E hr=>⟨_,(Ad (R6 (dv 1) (Oi (n:=4) rfl (Cd (BX 2 Dk.nd) (Cd (BX 3 Dk.nd) (Cd (BX 4 Dk.nd) (Cd (BX 5 Dk.nd) Lp)))))) (Ad (Ak 6 Dk.nd (Ag Ae G__law_value (hr.mono (by decide)) rfl (Aa (dv 0) (Aa (dv 2) (Aa (dv 4) Af))))) (Ad (Ak 7 Dk.nd (Ag Ae G__law_value (hr.mono (by decide)) rfl (Aa (dv 0) (Aa (dv 3) (Aa (dv 5) Af))))) (Ah (Aq (Bo (Aa (dv 6) (Aa (BK (BK (Ag Ae G__law_value (hr.mono (by decide)) rfl (Aa (dv 0) (Aa (Br (dv 2) (dv 3)) (Aa (Br (dv 4) (dv 5)) Af)))) (dv 6)) (dv 7)) (Aa (dv 7) Af))))))))),fun ds Q h=>?_⟩⟩
  obtain ⟨⟨f,e,g,i,j⟩,rfl,⟨hf,he,hg,hi,hj⟩,q⟩:=h
  walk_at "go"
  have h1:B2 300100 (e+g,i+j):=⟨(he.add hg).le (by decide),(hi.add hj).le (by decide)⟩
  have h2:B2 300100 (e,i):=⟨he.le (by decide),hi.le (by decide)⟩
  have h3:B2 300100 (g,j):=⟨hg.le (by decide),hj.le (by decide)⟩
  refine Aj (f,(e,i)) ⟨hf,h2⟩ (Aj (f,(g,j)) ⟨hf,h3⟩ (Aj (f,(e+g,i+j)) ⟨hf,h1⟩ ?_))
  walk_at "rd"
  refine ⟨Az (by decide),?_⟩
  have q':=q _ rfl
  dsimp only [mov] at q'
  have em:val f (e+g,i+j) - val f (e,i) - val f (g,j)=mid f (e,i) (g,j):=by
    obtain ⟨a,b,c⟩:=f
    simp only [val,mid];grind
  rw [em]
  exact q'
noncomputable abbrev Ih:DSp:=BL (fun f:I3=>[t3 f]) (fun _=>True) fun f=>t3 (f.1,0 - f.2.1,f.2.2)
theorem Mp (T:Txt K mg)
    : Pm P w K mg base 1 "_law_opposite" CK ["_law_form_here"] Ih:=by
  obtain ⟨f,fd,F⟩:=T.t__law_opposite
  refine ⟨f,fd,F,F.fn.okD Mg (by walk_at "lE") fun cdv A outer s H E hr=>⟨_,(Ah (Aq (Bo (Aa (Ac (dv 0) Ab) (Aa (BK Ab (Ac (dv 0) Ab)) (Aa (Ac (dv 0) Ab) Af)))))),fun ds Q h=>?_⟩⟩
  obtain ⟨f,rfl,_,q⟩:=h
  have q':=q _ rfl
  walk_at "go"
  exact ⟨Az (by decide),q'⟩
theorem Ahu (f:I3):Dt.flat 8 (t3 f)=true:=by simp only [Xy,Xn,Xr,Kl,Bool.and_true]
noncomputable abbrev JX:DSp:=BL (fun p:I4 × I3 × I3=>[t4 p.1,t3 p.2.1,t3 p.2.2]) (fun p=>B4 190000 p.1∧det p.1=1∧B3 20000 p.2.1∧mov p.2.1 p.1=p.2.2) fun _=>.bl true
theorem QM (T:Txt K mg)
    (G__law_moved:Pm P w K mg base 2 "_law_moved" Dp ["_law_form_here","_law_turn_here"] Hz)
    (G__law_wholes:Pm P w K mg base 2 "_law_wholes" Di ["_law_found","_law_many"] FJ)
    : Pm P w K mg base 3 "_law_moves" Ed ["_law_way","_law_one","_law_other"] JX:=by
  obtain ⟨f,fd,F⟩:=T.t__law_moves
  refine ⟨f,fd,F,F.fn.okD QL (by walk_at "lE") fun cdv A outer s H E hr=>⟨_,(Ad (Ci (DW.dt (Q0 (Js (FZ (Ag Ae G__law_wholes (hr.mono (by decide)) rfl (Aa (dv 0) (Aa Ab Af))))) (Ol (Gm hr.units (BK (Al (Ac (dv 0) Ab) (Ac (dv 0) Ab)) (Al (Ac (dv 0) Ab) (Ac (dv 0) Ab))) Ab)))) (Ah (Aq J1)) Bf) (Ah (Aq (RD hr.units (Ag Ae G__law_moved (hr.mono (by decide)) rfl (Aa (dv 1) (Aa (dv 0) Af))) (dv 2))))),fun ds Q h=>?_⟩⟩
  obtain ⟨⟨y,f,h⟩,rfl,⟨by4,dy,bf,ey⟩,q⟩:=h
  have by4:B4 190000 y:=by4
  have dy:y.1*y.2.2.2 - y.2.1*y.2.2.1=1:=dy
  have bf:B3 20000 f:=bf
  have ey:mov f y=h:=ey
  have q':Q (.bl true):=q _ rfl
  walk_at "go"
  refine Adk _ (Es rfl ⟨by4.1.mulOk by4.2.2.2,by4.2.1.mulOk by4.2.2.1,Es (by rw [dy];rfl) (Aj (f,y) ⟨bf,by4.le (by decide)⟩ ?_)⟩)
  rw [ey]
  refine ⟨Ahu h,?_⟩
  rw [AgK,decide_eq_true rfl]
  exact q'
structure Aat (f:I3):Prop where
  p:g3 f=1
  a:f.1≠0
  r:meas f % 4=0∨meas f % 4=1
  m:(meas f).natAbs≤4000
  k:meas f < 0→0 < f.1
  b:B3 20 f
noncomputable abbrev Le:DSp:=spec (fun ns:List Int=>[.lst (ns.map Dt.int)]) (fun _=>True) fun _ d=>∃ f,d=t3 f∧Aat f
theorem Tf (T:Txt K mg)
    (G__law_cell:Pm P w K mg base 1 "_law_cell" DR ["_law_script","_law_k"] GD)
    (G__law_rest:Pm P w K mg base 1 "_law_rest" Fo ["_law_one","_law_other"] K7)
    : Pm P w K mg base 2 "_law_form" Fl ["_law_script"] Le:=by
  obtain ⟨f,fd,F⟩:=T.t__law_form
  refine ⟨f,fd,F,F.fn.okD Ca (by walk_at "lE") fun cdv A outer s H E hr=>⟨_,(Ad (Ak 1 Ca.nd (Ag Ae G__law_cell (hr.mono (by decide)) rfl (Aa (dv 0) (Aa Ab Af)))) (Ad (Ak 2 Ca.nd (Br Ab (DK (BJ (dv 1) Ab) Ab))) (Ad (Ak 3 Ca.nd (DK (Ag Ae G__law_cell (hr.mono (by decide)) rfl (Aa (dv 0) (Aa Ab Af))) (Al Ab (dv 2)))) (Ad (Ak 4 Ca.nd (DK (Al (dv 3) (dv 3)) (Al Ab (dv 2)))) (Ad (Ci (O3 hr.units (DK (dv 1) Ab) Ab) (Ad (Ak 5 Ca.nd (BJ (Br Ab (dv 4)) (Al Ab (dv 2)))) (Ah (Ak 6 Ca.nd (BK (dv 4) (Al (Al Ab (dv 2)) (Br Ab (DK (Ag Ae G__law_cell (hr.mono (by decide)) rfl (Aa (dv 0) (Aa Ab Af))) (dv 5)))))))) (Ad (Ak 5 Ca.nd (BJ (BK Ab (dv 4)) (Al Ab (dv 2)))) (Ah (Ak 6 Ca.nd (Br (dv 4) (Al (Al Ab (dv 2)) (DK (Ag Ae G__law_cell (hr.mono (by decide)) rfl (Aa (dv 0) (Aa Ab Af))) (Br Ab (dv 5))))))))) (Ad (Ak 7 Ca.nd (BJ (BK (Al (dv 3) (dv 3)) (dv 6)) (Al Ab (dv 2)))) (Ad (Ci (Gm hr.units (Ag Ae G__law_rest (hr.mono (by decide)) rfl (Aa (Ag Ae G__law_rest (hr.mono (by decide)) rfl (Aa (dv 2) (Aa (dv 3) Af))) (Aa (dv 7) Af))) Ab) (Ah (Aq (Bo (Aa Ab (Aa (DK (dv 6) Ab) (Aa (BJ (BK (DK (dv 6) Ab) (dv 6)) Ab) Af)))))) Bf) (Ad (Ci (O3 hr.units (DK (dv 1) Ab) Ab) (Ah (Aq (Bo (Aa (BK Ab (dv 2)) (Aa (dv 3) (Aa (BK Ab (dv 7)) Af)))))) Bf) (Ah (Aq (Bo (Aa (dv 2) (Aa (dv 3) (Aa (dv 7) Af)))))))))))))),fun ds Q h=>?_⟩⟩
  obtain ⟨ns,rfl,_,q⟩:=h
  have q:∀ d,(∃ f,d=t3 f∧Aat f)→Q d:=q
  have two:Bt 2 2:=Bt.of_abs (by decide)
  have four:Bt 3 4:=Bt.of_abs (by decide)
  walk_at "go"
  refine Jy ns 0 (by decide) ?_
  obtain ⟨c0,e0⟩:∃ c0,ns.getD (Int.toNat 0) 0=c0:=⟨_,rfl⟩
  rw [e0]
  walk_at "rd"
  have r30:=Er (c0.fdiv 4) (m:=30) (by decide)
  obtain ⟨m,em⟩:∃ m,1+(c0.fdiv 4).fmod 30=m:=⟨_,rfl⟩
  rw [em]
  have m1:1≤m:=by omega
  have m3:m≤30:=by omega
  have bm:Bt 6 m:=Bt.of (by omega) (by omega)
  refine ⟨⟨by decide,by decide⟩,by decide,Jy ns 1 (by decide) ?_⟩
  walk_at "rd"
  have rb:=Er (ns.getD (Int.toNat 1) 0) (m:=2*m) (by omega)
  obtain ⟨b,eb⟩:∃ b,(ns.getD (Int.toNat 1) 0).fmod (2*m)=b:=⟨_,rfl⟩
  rw [eb]
  have bb:Bt 7 b:=Bt.of (by omega) (by omega)
  have q0:=sq_nonneg b
  have q1:b*b≤59*59:=Int.mul_le_mul (by omega) (by omega) (by omega) (by decide)
  have dr:=Er (b*b) (m:=4*m) (by omega)
  have dq:=Int.fmod_add_mul_fdiv (b*b) (4*m)
  obtain ⟨rest,er⟩:∃ rest,(b*b).fmod (4*m)=rest:=⟨_,rfl⟩
  obtain ⟨quo,eu⟩:∃ quo,(b*b).fdiv (4*m)=quo:=⟨_,rfl⟩
  rw [er,eu] at dq
  rw [er] at dr ⊢
  have c2:c0.fmod 2=c0 % 2:=Int.fmod_eq_emod_of_nonneg _ (by decide)
  have c4:c0.fmod 4=c0 % 4:=Int.fmod_eq_emod_of_nonneg _ (by decide)
  refine ⟨two.mulOk bm,by omega,bb.mulOk bb,four.mulOk bm,by omega,by decide,NK (fun hs=>?_) (fun hs=>?_)⟩
  case' refine_1 =>
    have hs:=of_decide_eq_true hs
    have mq:=Int.fmod_add_mul_fdiv (4000+rest) (4*m)
    have mr:=Er (4000+rest) (m:=4*m) (by omega)
    obtain ⟨most,eo⟩:∃ most,(4000+rest).fdiv (4*m)=most:=⟨_,rfl⟩
    rw [eo] at mq ⊢
    have mo1:1≤most:=by
      rcases Int.lt_or_le most 1 with z | z
      · have:=Int.mul_le_mul_of_nonneg_left (show most≤0 by omega) (show 0≤4*m by omega)
        omega
      · exact z
    refine ⟨four.mulOk bm,Bt.divOk (four.mul bm) (by omega),four.mulOk bm,Jy ns 2 (by decide) ?_⟩
    walk_at "rd"
    have rx:=Er (ns.getD (Int.toNat 2) 0) (m:=most) (by omega)
    obtain ⟨x,ex⟩:∃ x,1+(ns.getD (Int.toNat 2) 0).fmod most=x:=⟨_,rfl⟩
    rw [ex]
    have x1:=Int.mul_le_mul_of_nonneg_left (show x≤most by omega) (show 0≤4*m by omega)
    have x2:=Int.mul_le_mul_of_nonneg_left (show 1≤x by omega) (show 0≤4*m by omega)
    obtain ⟨D,eD⟩:∃ D,rest - 4*m*x=D:=⟨_,rfl⟩
    rw [eD]
    have bx:Bt 13 x:=by
      have:=Int.mul_le_mul_of_nonneg_right (show 1≤4*m by omega) (show 0≤x by omega)
      exact Bt.of (by omega) (by omega)
    have key:D.natAbs≤4000∧((D < 0∧c0 % 2=0)∨0≤D):=⟨by omega,.inl ⟨by omega,by omega⟩⟩
    obtain ⟨l,el⟩:∃ l,quo+x=l:=⟨_,rfl⟩
    have hl:b*b - D=4*m*l:=by rw [←el,Int.mul_add];omega
    refine ⟨by omega,(four.mul bm).mulOk bx,?_⟩
  case' refine_2 =>
    have hs:¬ c0.fmod 2=0:=fun z=>hs (decide_eq_true z)
    have mq:=Int.fmod_add_mul_fdiv (4000 - rest) (4*m)
    have mr:=Er (4000 - rest) (m:=4*m) (by omega)
    obtain ⟨most,eo⟩:∃ most,(4000 - rest).fdiv (4*m)=most:=⟨_,rfl⟩
    rw [eo] at mq ⊢
    have mo1:0≤most:=by
      rcases Int.lt_or_le most 0 with z | z
      · have:=Int.mul_le_mul_of_nonneg_left (show most≤-1 by omega) (show 0≤4*m by omega)
        omega
      · exact z
    refine ⟨four.mulOk bm,Bt.divOk (four.mul bm) (by omega),four.mulOk bm,Jy ns 2 (by decide) ?_⟩
    walk_at "rd"
    have rx:=Er (ns.getD (Int.toNat 2) 0) (m:=1+most) (by omega)
    obtain ⟨x,ex⟩:∃ x,(ns.getD (Int.toNat 2) 0).fmod (1+most)=x:=⟨_,rfl⟩
    rw [ex]
    have x1:=Int.mul_le_mul_of_nonneg_left (show x≤most by omega) (show 0≤4*m by omega)
    have x2:=Int.mul_le_mul_of_nonneg_left (show 0≤x by omega) (show 0≤4*m by omega)
    obtain ⟨D,eD⟩:∃ D,rest+4*m*x=D:=⟨_,rfl⟩
    rw [eD]
    have bx:Bt 13 x:=by
      have:=Int.mul_le_mul_of_nonneg_right (show 1≤4*m by omega) (show 0≤x by omega)
      exact Bt.of (by omega) (by omega)
    have key:D.natAbs≤4000∧((D < 0∧c0 % 2=0)∨0≤D):=⟨by omega,.inr (by omega)⟩
    obtain ⟨l,el⟩:∃ l,quo - x=l:=⟨_,rfl⟩
    have hl:b*b - D=4*m*l:=by rw [←el,Int.mul_sub];omega
    refine ⟨by omega,(four.mul bm).mulOk bx,?_⟩
  all_goals
    have e1:(b*b - D).fdiv (4*m)=l:=by rw [hl,Int.mul_fdiv_cancel_left _ (by omega)]
    rw [e1]
    obtain ⟨k1,k2⟩:=key
    have me:meas (m,b,l)=D:=by show b*b - 4*m*l=D;omega
    have bl:Bt 20 l:=by
      refine (W0 (t:=l) (b:=4*m) ?_ (by omega):Bt 20 l)
      rw [Int.mul_comm,←hl]
      exact Bt.of (by omega) (by omega)
    have D4:D % 4=0∨D % 4=1:=by
      have e5:4*m*l=4*(m*l):=Int.mul_assoc ..
      rcases Int.emod_two_eq b with z | z
      · obtain ⟨k,hk⟩:∃ k,b=2*k:=⟨b / 2,by omega⟩
        have:b*b=4*(k*k):=by rw [hk];grind
        omega
      · obtain ⟨k,hk⟩:∃ k,b=2*k+1:=⟨b / 2,by omega⟩
        have:b*b=4*(k*k+k)+1:=by rw [hk];grind
        omega
    refine ⟨bb.mulOk bb,four.mulOk bm,Bt.divOk (four.mul bm) (by omega),Aj (m,b) trivial (Aj (((Int.gcd m b:Nat):Int),l) trivial ⟨Kl,?_⟩)⟩
    have gz:((Int.gcd ((Int.gcd m b:Nat):Int) l:Nat):Int)=((g3 (m,b,l):Nat):Int):=rfl
    dsimp only
    rw [gz,OD]
    by_cases hg:g3 (m,b,l)=1
    · refine Es (by rw [hg];rfl) ⟨by decide,NK (fun h3=>⟨Az (by decide),q _ ⟨(0 - m,b,0 - l),rfl,?_⟩⟩) (fun _=>⟨Az (by decide),q _ ⟨(m,b,l),rfl,hg,by show m≠0;omega,by rw [me];exact D4,by rw [me];exact k1,fun _=>by show 0 < m;omega,bm.le (by decide),bb.le (by decide),bl⟩⟩)⟩
      have h3:=of_decide_eq_true h3
      have me':meas (0 - m,b,0 - l)=D:=by
        rw [←me]
        show b*b - 4*(0 - m)*(0 - l)=b*b - 4*m*l
        grind
      refine ⟨?_,by show 0 - m≠0;omega,by rw [me'];exact D4,by rw [me'];exact k1,fun z=>?_,?_,bb.le (by decide),?_⟩
      · rw [←hg]
        unfold g3
        simp only [Int.zero_sub,Int.neg_gcd,Int.gcd_neg]
      · rw [me'] at z
        omega
      · show Bt 20 (0 - m)
        rw [Int.zero_sub];exact bm.neg.le (by decide)
      · show Bt 20 (0 - l)
        rw [Int.zero_sub];exact bl.neg
    · refine ift (by rw [decide_eq_false (by omega)];rfl) ⟨by decide,by decide,⟨by decide,by decide⟩,Az (by decide),q _ ⟨(1,D.fmod 4,(D.fmod 4 - D).fdiv 4),rfl,?_⟩⟩
      have f4:D.fmod 4=D % 4:=Int.fmod_eq_emod_of_nonneg _ (by decide)
      have f5:(D % 4 - D).fdiv 4=(D % 4 - D) / 4:=Int.fdiv_eq_ediv_of_nonneg _ (by decide)
      rw [f4,f5]
      have me':meas (1,D % 4,(D % 4 - D) / 4)=D:=by
        show D % 4*(D % 4) - 4*1*((D % 4 - D) / 4)=D
        rcases D4 with z | z <;> rw [z] <;> omega
      refine ⟨?_,by show (1:Int)≠0;decide,by rw [me'];exact D4,by rw [me'];exact k1,fun _=>by show (0:Int) < 1;decide,Bt.one.le (by decide),Bt.of (by show -(2 ^ 20) < D % 4;omega) (by show D % 4 < 2 ^ 20;omega),Bt.of (by show -(2 ^ 20) < (D % 4 - D) / 4;omega) (by show (D % 4 - D) / 4 < 2 ^ 20;omega)⟩
      show Int.gcd ((Int.gcd 1 (D % 4):Nat):Int) _=1
      rw [Int.one_gcd]
      exact Int.one_gcd
noncomputable abbrev opF (f:I3):I3:=(f.1,0 - f.2.1,f.2.2)
theorem Comp.op {f h F:I3} (C:Comp f h F):Comp (opF f) (opF h) (opF F):=by
  obtain ⟨⟨p0,p1,p2,p3⟩,⟨q0,q1,q2,q3⟩,rfl,rfl,rfl⟩:=C
  refine ⟨(p0,-p1,-p2,p3),(-q0,q1,q2,-q3),?_,?_,?_⟩ <;> refine VN ?_ ?_ ?_ <;> simp only [FA,FB,FC,opF] <;> grind
theorem Afh {f:I3} {t:I4}:opF (mov f t)=mov (opF f) (t.1,-t.2.1,-t.2.2.1,t.2.2.2):=by
  obtain ⟨a,b,c⟩:=f
  obtain ⟨p,q,r,s⟩:=t
  refine VN ?_ ?_ ?_ <;> simp only [mov,val,mid,opF] <;> grind
theorem Aa1 {t:I4} (h:det t=1):det (t.1,-t.2.1,-t.2.2.1,t.2.2.2)=1:=by
  have h:t.1*t.2.2.2 - t.2.1*t.2.2.1=1:=h
  show t.1*t.2.2.2 - -t.2.1 * -t.2.2.1=1
  rw [Int.neg_mul_neg]
  exact h
theorem LF.self {f g:I3} (L:LF f g):LF g g:=by
  rcases L with ⟨hb,t,dt,Lt,rfl⟩ | ⟨hS,t0,far,N,j,R,jl,lj,rfl⟩
  · exact .inl ⟨OJ hb dt,(1,0,0,1),rfl,by rw [Bp];exact Lt,by rw [Bp]⟩
  · have hv:=Lv.rF j R.v
    refine (LF.tp hv.S hv.r).mpr ⟨hv,fun g ⟨m,hm⟩ z=>?_⟩
    obtain ⟨i,hi,ei⟩:=JB R.e R.n (j+m)
    have:=lj i hi
    rw [←ei,Cg,hm,(Wt _ _).mpr z] at this
    cases this
theorem LF.kind {f g:I3} (L:LF f g):Bm g∨Sad g:=by
  rcases L.self with ⟨h,_⟩ | ⟨h,_⟩
  · exact .inl h
  · exact .inr h
theorem Nk.has {n:Int} {ls:List I3} {f g:I3} (C:Nk n ls) (L:LF f g) (m:meas f=n) (p:g3 f=1):g∈ls:=by
  obtain ⟨x,dx,ex⟩:=L.turn
  exact (C.mem g).mpr ⟨by rw [←ex,Bu dx];exact m,by rw [←ex,Qk dx];exact p,L.self⟩
theorem R5 {f:I3} (h:Bm f∨Sad f):Bm (opF f)∨Sad (opF f):=by
  have m:meas (opF f)=meas f:=Ti
  rcases h with h | h
  · exact .inl ⟨h.1,by rw [m];exact h.2⟩
  · exact .inr ⟨by rw [m];exact h.no,by rw [m];exact h.pos,by rw [m];exact h.most⟩
theorem Ro {f g h top:I3} {x:I4} {d:Dt} (A:KJ f h d) (L:LF f g) (Lt:LF top top) (dx:det x=1) (ex:mov top x=h) (e:top=g):∃ y:I4,d=t4 y∧det y=1∧mov f y=h∧B4 190000 y:=by
  rcases A with A | ⟨_,a,b,La,Lb,n⟩
  · exact A
  · exact absurd ((La.uniq L).trans (e.symm.trans (Lt.same Lb dx ex))) n
theorem AaW {f g h top:I3} {x:I4} {d:Dt} (A:KJ f h d) (L:LF f g) (Lt:LF top top) (dx:det x=1) (ex:mov top x=h) (e:top≠g):d=.non:=by
  rcases A with ⟨y,_,dy,ey,_⟩ | ⟨h,_⟩
  · refine absurd (L.same Lt (x:=Ao y (Ar x)) (by rw [Cj,CV,dy,dx];rfl) ?_) (Ne.symm e)
    rw [←Bg,ey,←ex,Bq dx]
  · exact h
noncomputable abbrev prD (p:I3 × I3):Dt:=.tup [t3 p.1,t3 p.2]
theorem Yg (ls:List I3):ls.map t3=(ls.map rw3).map Cv:=by
  rw [List.map_map]
  rfl
theorem Xc {ls:List I3} {k:Int} (h0:0≤k) (h1:k < ls.length):∃ g,g∈ls∧ixD k (.lst (ls.map t3))=some (t3 g):=by
  obtain ⟨d,e1,_,m⟩:=Aga (ds:=ls.map t3) h0 (by rw [List.length_map];exact h1)
  obtain ⟨g,hg,rfl⟩:=List.mem_map.mp (List.mem_of_getElem? m)
  exact ⟨g,hg,e1⟩
theorem Agm (T:Txt K mg)
    (G__law_form:Pm P w K mg base 2 "_law_form" Fl ["_law_script"] Le)
    (G__law_bar:Pm P w K mg base 1 "_law_bar" Fd ["_law_form_here"] Jr)
    (G__law_moved:Pm P w K mg base 2 "_law_moved" Dp ["_law_form_here","_law_turn_here"] Hz)
    (G_classes:Pm P w K mg base 9 "classes" GR ["number"] Ph)
    (G_least_of:Pm P w K mg base 11 "least_of" Gb ["form"] Nh)
    (G__law_flat:Pm P w K mg base 2 "_law_flat" Fj ["_law_form_here"] Lr)
    (G__law_turn:Pm P w K mg base 1 "_law_turn" Fg ["_law_first","_law_cells"] KN)
    (G_alike:Pm P w K mg base 11 "alike" JW ["one","other"] Uz)
    (G_product:Pm P w K mg base 12 "product" G7 ["one","other"] Pg)
    (G__law_opposite:Pm P w K mg base 1 "_law_opposite" CK ["_law_form_here"] Ih)
    (G__law_moves:Pm P w K mg base 3 "_law_moves" Ed ["_law_way","_law_one","_law_other"] JX)
    (G__law_cell:Pm P w K mg base 1 "_law_cell" DR ["_law_script","_law_k"] GD)
    : Pm P w K mg base 13 "law" K9 ["_law_script"] SM:=by
  obtain ⟨f,fd,F⟩:=T.t_law
  refine ⟨f,fd,F,F.fn.okD Fe (by walk_at "lE") fun cdv A outer s H E hr=>⟨_,(Ad (Ak 1 Fe.nd (Ag Ae G__law_form (hr.mono (by decide)) rfl (Aa (dv 0) Af))) (Ad (Ak 2 Fe.nd (Ag Ae G__law_bar (hr.mono (by decide)) rfl (Aa (dv 1) Af))) (Ad (Ci (DW.dt (Pj (AgX (dv 2) Ab) (Lx (FZ (Ag Ae G__law_flat (hr.mono (by decide)) rfl (Aa (dv 1) Af)))))) (Ah (Aq J1)) Bf) (Ad (Ak 3 Fe.nd (Lh (dv 0) (Jd Ab) (Jd Ab))) (Ad (Ak 4 Fe.nd (Ag Ae G__law_moved (hr.mono (by decide)) rfl (Aa (dv 1) (Aa (Ag Ae G__law_turn (hr.mono (by decide)) rfl (Aa Ab (Aa (Lh (dv 3) Li (Jd (BJ (Kh T.z_len (Aa (dv 3) Af)) Ab))) Af))) Af)))) (Ad (Ak 5 Fe.nd (Ag Ae G_classes (hr.mono (by decide)) rfl (Aa (dv 2) Af))) (Ad (Ak 6 Fe.nd (Ag Ae G_least_of (hr.mono (by decide)) rfl (Aa (dv 4) Af))) (Ad (Ci (DW.dt (Q0 (Xa hr.units (dv 6) (dv 5)) (Ol (Js (FZ (Ag Ae G__law_moves (hr.mono (by decide)) rfl (Aa (Ag Ae G_alike (hr.mono (by decide)) rfl (Aa (dv 4) (Aa (dv 6) Af))) (Aa (dv 4) (Aa (dv 6) Af))))))))) (Ah (Aq J1)) Bf) (Ad (Ak 7 Fe.nd (Ac (dv 5) (DK (Ag Ae G__law_cell (hr.mono (by decide)) rfl (Aa (dv 0) (Aa Ab Af))) (Kh T.z_len (Aa (dv 5) Af))))) (Ad (Ak 8 Fe.nd (Ac (dv 5) (DK (Ag Ae G__law_cell (hr.mono (by decide)) rfl (Aa (dv 0) (Aa Ab Af))) (Kh T.z_len (Aa (dv 5) Af))))) (Ad (Ak 9 Fe.nd (Ag Ae G__law_moved (hr.mono (by decide)) rfl (Aa (dv 7) (Aa (Ag Ae G__law_turn (hr.mono (by decide)) rfl (Aa Ab (Aa (Lh (dv 3) (Jd (BJ (Kh T.z_len (Aa (dv 3) Af)) Ab)) Li) Af))) Af)))) (Ad (MF PassesOwn.never rfl (Ja (Agq (Aa (Bo (Aa (dv 9) (Aa (dv 7) Af))) (Aa (Bo (Aa (dv 8) (Aa (dv 8) Af))) Af)))) (Oi (n:=2) rfl (Cd (BX 10 Fe.nd) (Cd (BX 11 Fe.nd) Lp))) (Ad (Ak 12 Fe.nd (Ag Ae G_alike (hr.mono (by decide)) rfl (Aa (dv 4) (Aa (dv 10) Af)))) (Ad (Ci (DW.dt (Pj (Gm hr.units (dv 11) (dv 6)) (Lx (AbE (dv 12) Abt)))) (Ah (Aq J1)) Bf) (Ah (Ci (DW.dt (Pj (O3 hr.units (dv 11) (dv 6)) (Lx (Js (FZ (Ag Ae G__law_moves (hr.mono (by decide)) rfl (Aa (dv 12) (Aa (dv 4) (Aa (dv 10) Af))))))))) (Ah (Aq J1)) Bf))))) (Ad (Ak 13 Fe.nd (Ac (Ag Ae G_product (hr.mono (by decide)) rfl (Aa (dv 4) (Aa (dv 9) Af))) Ab)) (Ad (Ci (DW.dt (Q0 (Xa hr.units (dv 13) (dv 5)) (Q0 (Gm hr.units (Ac (Ag Ae G_product (hr.mono (by decide)) rfl (Aa (dv 6) (Aa (dv 7) Af))) Ab) (dv 13)) (Ol (Gm hr.units (Ac (Ag Ae G_product (hr.mono (by decide)) rfl (Aa (dv 9) (Aa (dv 4) Af))) Ab) (dv 13)))))) (Ah (Aq J1)) Bf) (Ad (Ak 14 Fe.nd (Ag Ae G_least_of (hr.mono (by decide)) rfl (Aa (Ag Ae G__law_opposite (hr.mono (by decide)) rfl (Aa (dv 13) Af)) Af))) (Ah (Aq (RD hr.units (Ac (Ag Ae G_product (hr.mono (by decide)) rfl (Aa (Ag Ae G__law_opposite (hr.mono (by decide)) rfl (Aa (dv 4) Af)) (Aa (Ag Ae G__law_opposite (hr.mono (by decide)) rfl (Aa (dv 9) Af)) Af))) Ab) (dv 14))))))))))))))))))),fun ds Q h=>?_⟩⟩
  obtain ⟨ns,rfl,hl,q⟩:=h
  have q':Q (.bl true):=q _ rfl
  walk_at "go"
  refine Av ns trivial ?_
  rintro _ ⟨f,rfl,D⟩
  have D:Aat f:=D
  have l56:=Ag3 (ns.map Dt.int)
  obtain ⟨cs,ec,hcs⟩:=AaE ns (some 7) (some 63)
  rw [ec,List.length_map] at l56
  walk_at "rd"
  rw [ec] at *
  obtain ⟨us,vs,eu,ev,lu,lv⟩:=Vw cs
  have bf:=D.b
  have bm:Bt 13 (meas f):=by have:=D.m;exact Bt.of (by omega) (by omega)
  refine Aj f (bf.le (by decide)) (NK (fun hz=>Av f ⟨bf.le (by decide),of_decide_eq_true hz⟩ ?_) (fun hz=>?_))
  case' refine_1 =>
    rintro _ ⟨kb,rfl,hk⟩
    have hz':=of_decide_eq_true hz
    refine NK (fun _=>q') (fun hk'=>?_)
    have hns:¬ Ia (meas f):=fun z=>hk' (hk.mpr z)
    have kf:Bm f∨Sad f:=.inr (by
      have:=D.m
      have:meas f≠0:=fun e=>hns ⟨0,by rw [e];rfl⟩
      exact ⟨hns,by omega,by omega⟩)
  case' refine_2 =>
    have hz':¬ 0≤meas f:=fun z=>hz (decide_eq_true z)
    have hns:¬ Ia (meas f):=KY (by omega)
    have kf:Bm f∨Sad f:=.inl ⟨D.k (by omega),by omega⟩
  all_goals
    refine ⟨⟨by decide,by decide⟩,?_⟩
    rw [eu,ev]
    refine Av (0,us) ⟨rfl,by show us.length≤63;omega⟩ ?_
    rintro _ ⟨t,rfl,dt,_,bt⟩
    have bt:B4 94 t:=bt (by show us.length≤28;omega)
    have dt:det t=1:=dt
    refine Aj (f,t) ⟨bf.le (by decide),bt.le (by decide)⟩ ?_
    obtain ⟨F,eF⟩:∃ F,mov f t=F:=⟨_,rfl⟩
    dsimp only
    rw [eF]
    have W:Aam (meas f):=⟨D.r,hns,D.m⟩
    have bF:B3 300 F:=by rw [←eF];exact (B3.mov bf bt).le (by decide)
    have mF:meas F=meas f:=by rw [←eF,Bu dt]
    have pF:g3 F=1:=by rw [←eF,Qk dt];exact D.p
    have kF:Bm F∨Sad F:=by rw [←eF];exact UG kf dt
    refine Av (meas f) W ?_
    rintro _ ⟨ls,rfl,C⟩
    have C:Nk (meas f) ls:=C
    refine Av F ⟨bF.le (by decide),kF⟩ ?_
    rintro _ ⟨G,rfl,L⟩
    have L:LF F G:=L
    have inG:=C.has L mF pF
    have in2:∀ {g:I3},g∈ls→rw3 g∈ls.map rw3:=fun {g} h=>List.mem_map.mpr ⟨g,h,rfl⟩
    have bG:B3 13 G:=L.btn (by rw [mF];exact bm) (by decide)
    have l0:0 < ls.length:=List.length_pos_of_mem inG
    refine ⟨rw3 G,ls.map rw3,rfl,by rw [←Yg],Es (by rw [decide_eq_true (in2 inG)];rfl) (Av (F,G) ⟨⟨bF.le (by decide),kF⟩,bG.le (by decide),L.kind⟩ ?_)⟩
    rintro _ A
    obtain ⟨y,rfl,dy,ey,by4⟩:=Ro A L L.self (x:=(1,0,0,1)) rfl Bp rfl
    refine Aj (y,F,G) ⟨by4,dy,bF.le (by decide),ey⟩ (Es rfl (Jy ns 3 (by decide) ?_))
    walk_at "rd"
    have i3:=Er (ns.getD (Int.toNat 3) 0) (m:=(ls.length:Int)) (by omega)
    have i4:=Er (ns.getD (Int.toNat 4) 0) (m:=(ls.length:Int)) (by omega)
    obtain ⟨one,in1,e1⟩:=Xc i3.1 i3.2
    obtain ⟨two,inn2,e2⟩:=Xc i4.1 i4.2
    rw [e1]
    obtain ⟨m1,p1,L1⟩:=(C.mem one).mp in1
    obtain ⟨m2,p2,L2⟩:=(C.mem two).mp inn2
    have b1:B3 13 one:=L1.btn (by rw [m1];exact bm) (by decide)
    have b2:B3 13 two:=L2.btn (by rw [m2];exact bm) (by decide)
    refine ⟨by omega,Jy ns 4 (by decide) ?_⟩
    walk_at "rd"
    rw [e2]
    refine ⟨by omega,⟨by decide,by decide⟩,Av (0,vs) ⟨rfl,by show vs.length≤63;omega⟩ ?_⟩
    rintro _ ⟨u,rfl,du,_,bu⟩
    have bu:B4 94 u:=bu (by show vs.length≤28;omega)
    have du:det u=1:=du
    refine Aj (one,u) ⟨b1.le (by decide),bu.le (by decide)⟩ ?_
    obtain ⟨H',eH⟩:∃ H',mov one u=H':=⟨_,rfl⟩
    dsimp only
    rw [eH]
    have bH:B3 300 H':=by rw [←eH];exact (B3.mov b1 bu).le (by decide)
    have mH:meas H'=meas f:=by rw [←eH,Bu du];exact m1
    have pH:g3 H'=1:=by rw [←eH,Qk du];exact p1
    have kH:Bm H'∨Sad H':=by rw [←eH];exact UG L1.kind du
    refine MN ?_
    walk_at "rd"
    have items:∀ p∈[(H',one),(two,two)],(∃ x,det x=1∧mov p.2 x=p.1)∧LF p.2 p.2∧B3 300 p.1∧(Bm p.1∨Sad p.1):=fun p hp=>by
      simp only [List.mem_cons,List.not_mem_nil,or_false] at hp
      rcases hp with rfl | rfl
      · exact ⟨⟨u,du,eH⟩,L1,bH,kH⟩
      · exact ⟨⟨(1,0,0,1),rfl,Bp⟩,L2,b2.le (by decide),L2.kind⟩
    have s2:2≤sizeLine:=Az (by decide)
    refine ⟨s2,s2,s2,Jz ([(H',one),(two,two)].map prD) (fun R h=>h) (fun i ρ=>∃ x y z:Option En,ρ=[some (.is (.lst (ns.map Dt.int))),some (.is (t3 f)),some (.is (.int (meas f))),some (.is (.lst (cs.map Dt.int))),some (.is (t3 F)),some (.is (.lst (ls.map t3))),some (.is (t3 G)),some (.is (t3 one)),some (.is (t3 two)),some (.is (t3 H')),x,y,z,none,none]) ⟨none,none,none,rfl⟩ ?_ ?_⟩
    · rintro i d _ hi ⟨x',y',z',rfl⟩
      obtain ⟨⟨h,top⟩,hm,rfl⟩:=List.mem_map.mp (List.mem_of_getElem? hi)
      obtain ⟨⟨x,dx,ex⟩,Lt,bh,kh⟩:=items _ hm
      dsimp only at ex Lt bh kh
      walk_at "rd"
      refine Av (F,h) ⟨⟨bF.le (by decide),kF⟩,bh.le (by decide),kh⟩ ?_
      rintro _ A
      have A:KJ F h _:=A
      by_cases e:top=G
      · obtain ⟨y2,rfl,dy2,ey2,by42⟩:=Ro A L Lt dx ex e
        subst e
        walk_at "rd"
        exact Es (by simp) (ift (by simp) (Aj (y2,F,h) ⟨by42,dy2,bF.le (by decide),ey2⟩ (Es rfl ⟨_,_,_,rfl⟩)))
      · obtain rfl:=AaW A L Lt dx ex e
        walk_at "rd"
        have nb:(decide (top.1=G.1) && (decide (top.2.1=G.2.1) && decide (top.2.2=G.2.2)))=false:=by
          rw [Bool.eq_false_iff]
          intro w
          simp only [Bool.and_eq_true,decide_eq_true_eq] at w
          exact e (Prod.ext w.1 (Prod.ext w.2.1 w.2.2))
        rw [nb]
        exact ift rfl (Es rfl ⟨_,_,_,rfl⟩)
    · rintro _ ⟨x',y',z',rfl⟩
      walk_at "rd"
      have P:∀ {a b:I3},B3 300 a→B3 300 b→(Bm a∨Sad a)→(Bm b∨Sad b)→meas a=meas f→meas b=meas f→g3 a=1→g3 b=1→Pair a b:=fun {a b} h1 h2 h3 h4 h5 h6 h7 h8=>Pair.of (h1.le (by decide)) (h2.le (by decide)) h3 h4 (by rw [h5,h6]) h7 h8 (by rw [h5];exact bm.le (by decide))
      refine Av (F,H') (P bF bH kF kH mF mH pF pH) ?_
      rintro _ ⟨V,G',p,r,Cm,L',_,_,_,rfl,_⟩
      have Cm:Comp F H' V:=Cm
      have L':LF V G':=L'
      have mV:meas V=meas f:=by rw [Cm.meas.2];exact mH
      have pV:g3 V=1:=Cm.plain pF pH
      have inG':=C.has L' mV pV
      walk_at "rd"
      have bop:∀ {g:I3},B3 300 g→B3 300 (opF g):=fun {g} h=>⟨h.1,by show Bt 300 (0 - g.2.1);rw [Int.zero_sub];exact h.2.1.neg,h.2.2⟩
      obtain ⟨x,dx,ex⟩:=L.turn
      have mG:meas G=meas f:=by rw [←ex,Bu dx];exact mF
      have pG:g3 G=1:=by rw [←ex,Qk dx];exact pF
      have bG':B3 13 G':=L'.btn (by rw [mV];exact bm) (by decide)
      refine ⟨rw3 G',ls.map rw3,rfl,by rw [←Yg],Es (by rw [decide_eq_true (in2 inG')];rfl) (Av (G,one) (P (bG.le (by decide)) (b1.le (by decide)) L.kind L1.kind mG m1 pG p1) ?_)⟩
      rintro _ ⟨V2,G2,p2',r2,C2,L2',_,_,_,rfl,_⟩
      have C2:Comp G one V2:=C2
      have e2':G'=G2:=by
        have hb:mov H' (Ar u)=one:=by rw [←eH,Bq du]
        have C':=(Cm.movL dx).movR (t:=Ar u) (by rw [CV];exact du)
        rw [ex,hb] at C'
        obtain ⟨s,ds,es⟩:=C'.same C2 pG
        exact L'.same L2' ds es
      subst e2'
      walk_at "rd"
      refine Es (by simp) (Av (H',F) (P bH bF kH kF mH mF pH pF) ?_)
      rintro _ ⟨V3,G3,p3,r3,C3,L3,_,_,_,rfl,_⟩
      have C3:Comp H' F V3:=C3
      have e3:G'=G3:=by
        obtain ⟨s,ds,es⟩:=Cm.swap.same C3 pH
        exact L'.same L3 ds es
      subst e3
      walk_at "rd"
      refine Es (by simp) (Aj G' trivial (Av (opF G') ⟨(bop (bG'.le (by decide))).le (by decide),R5 L'.kind⟩ ?_))
      rintro _ ⟨T',rfl,LT⟩
      have LT:LF (opF G') T':=LT
      refine Aj F trivial (Aj H' trivial (Av (opF F,opF H') (P (bop bF) (bop bH) (R5 kF) (R5 kH) (Ti.trans mF) (Ti.trans mH) (ZD.trans pF) (ZD.trans pH)) ?_))
      rintro _ ⟨V4,G4,p4,r4,C4,L4,_,_,_,rfl,_⟩
      have C4:Comp (opF F) (opF H') V4:=C4
      have e4:G4=T':=by
        obtain ⟨s,ds,es⟩:=Cm.op.same C4 (ZD.trans pF)
        obtain ⟨z,dz,ez⟩:=L'.turn
        have h1:mov (opF V) (z.1,-z.2.1,-z.2.2.1,z.2.2.2)=opF G':=by rw [←Afh,ez]
        have h2:mov (opF G') (Ao (Ar (z.1,-z.2.1,-z.2.2.1,z.2.2.2)) s)=V4:=by rw [←Bg,←h1,Bq (Aa1 dz),es]
        exact (LT.same L4 (by rw [Cj,CV,Aa1 dz,ds];rfl) h2).symm
      subst e4
      walk_at "rd"
      simp only [decide_true,Bool.and_self]
      exact q'
end
noncomputable abbrev nF (K:PySem.W.Frag) (n:Str) (s:Stmt):Prop:=∃ (f:Addr) (oc:Value) (od:Option Addr) (kV dc pm:Value) (an:Option Addr) (cd ct:Value) (sl:Array (Option Value)),PySem.W.nsIn K mainGlobals n=some (some (.ref f))∧K.lookup f=some ⟨oc,od,.func (PySem.W.fnOf n n (Ef s) (Du s) (Ai s) .none kV dc pm an cd ct),sl⟩∧PySem.W.codeIn K cd n=true∧PySem.W.keepIn K (.ref f)=true
theorem Ad7 {K:PySem.W.Frag} {n:Str} {s:Stmt} {f:Addr} {od an:Option Addr} {sl:Array (Option Value)} {oc kV dc pm cd ct:Value} (a:PySem.W.nsIn K mainGlobals n=some (some (.ref f))) (l:K.lookup f=some ⟨oc,od,.func (PySem.W.fnOf n n (Ef s) (Du s) (Ai s) .none kV dc pm an cd ct),sl⟩) (c:PySem.W.codeIn K cd n=true) (k:PySem.W.keepIn K (.ref f)=true):nF K n s:=⟨f,oc,od,kV,dc,pm,an,cd,ct,sl,a,l,c,k⟩
theorem tM {K:PySem.W.Frag} {h:Heap} {mg:Str→Option Value} {n:Str} {s:Stmt} {ps:List Str} (X:K.In h) (G:h.Ns mainGlobals mg) (H:nF K n s)
    (hb:∀ (kV doc pm:Value) (an:Option Addr) (cdv ct:Value) (us:List Value),us.length=ps.length→bindArgs (PySem.W.fnOf n n (Ef s) (Du s) (Ai s) .none kV doc pm an cdv ct) ⟨us,[]⟩=pure (ps.zip us)):∃ f fd,FnT K mg n s ps f fd:=by
  obtain ⟨f,oc,od,kV,dc,pm,an,cd,ct,sl,a,l,c,k⟩:=H
  have F:=LR (st:=s) l c k
  exact ⟨_,_,F,PySem.W.mg_of X G a,F.binds hb⟩
set_option maxHeartbeats 8000000 in
theorem all_mk {l:PySem.W.OpenLaw} {w:World} {K:PySem.W.Frag} {h:Heap} {mg:Str→Option Value} {fa:Addr} (X:K.In h) (G:h.Ns mainGlobals mg) (hfa:mg "law"=some (.ref fa))
    (h0:nF K "divisor" GZ)
    (h1:nF K "shares" Ig)
    (h2:nF K "row_less" Gd)
    (h3:nF K "root" HB)
    (h4:nF K "is_square" DX)
    (h5:nF K "check_at_most" CN)
    (h6:nF K "check_within" Dm)
    (h7:nF K "is_turn" G5)
    (h8:nF K "check_turn" CW)
    (h9:nF K "led" Ru)
    (h10:nF K "put_behind" Dc)
    (h11:nF K "back" Kq)
    (h12:nF K "measure" CJ)
    (h13:nF K "value" Jx)
    (h14:nF K "content" FQ)
    (h15:nF K "moved" Jc)
    (h16:nF K "middle" Ik)
    (h17:nF K "shape" Hs)
    (h18:nF K "check_bowl" Eh)
    (h19:nF K "stands_least" Cu)
    (h20:nF K "settled" GX)
    (h21:nF K "turn_lower" El)
    (h22:nF K "check_saddle" Ce)
    (h23:nF K "stands_level" Cw)
    (h24:nF K "turn_behind" Dw)
    (h25:nF K "stop_behind" Dh)
    (h26:nF K "eased" JQ)
    (h27:nF K "stops_round" Dg)
    (h28:nF K "round_of" Fb)
    (h29:nF K "lowered" GQ)
    (h30:nF K "shape_of" Ds)
    (h31:nF K "way_between" Dz)
    (h32:nF K "least_of" Gb)
    (h33:nF K "alike" JW)
    (h34:nF K "product" G7)
    (h35:nF K "check_pair" Ej)
    (h36:nF K "check_plain" Dy)
    (h37:nF K "half_of_middles" Bs)
    (h38:nF K "common_shares" CT)
    (h39:nF K "joint_form" Em)
    (h40:nF K "joint_rows" Ec)
    (h41:nF K "rows_led" Dr)
    (h42:nF K "check_measure" CP)
    (h43:nF K "classes" GR)
    (h44:nF K "least_bowls" Df)
    (h45:nF K "least_saddles" CG)
    (h46:nF K "plain_forms" Cp)
    (h47:nF K "_law_cell" DR)
    (h48:nF K "_law_whole" Ei)
    (h49:nF K "_law_wholes" Di)
    (h50:nF K "_law_bar" Fd)
    (h51:nF K "_law_root" Fi)
    (h52:nF K "_law_flat" Fj)
    (h53:nF K "_law_rest" Fo)
    (h54:nF K "_law_turn" Fg)
    (h55:nF K "_law_value" Eo)
    (h56:nF K "_law_moved" Dp)
    (h57:nF K "_law_form" Fl)
    (h58:nF K "_law_moves" Ed)
    (h59:nF K "_law_opposite" CK)
    (h60:nF K "law" K9)
    (z_abs:PySem.W.nsIn K mainGlobals "abs"=some none)
    (z_bool:PySem.W.nsIn K mainGlobals "bool"=some none)
    (z_int:PySem.W.nsIn K mainGlobals "int"=some none)
    (z_isinstance:PySem.W.nsIn K mainGlobals "isinstance"=some none)
    (z_len:PySem.W.nsIn K mainGlobals "len"=some none)
    (z_max:PySem.W.nsIn K mainGlobals "max"=some none)
    (z_min:PySem.W.nsIn K mainGlobals "min"=some none)
    (z_range:PySem.W.nsIn K mainGlobals "range"=some none)
    (z_tuple:PySem.W.nsIn K mainGlobals "tuple"=some none)
    (z_zip:PySem.W.nsIn K mainGlobals "zip"=some none)
    {CS_Shape gS_Shape:Addr} {odS_Shape anS_Shape:Option Addr} {slS_Shape:Array (Option Value)} {ocS_Shape kVS_Shape dcS_Shape pmS_Shape cdS_Shape ctS_Shape:Value}
    (aS_Shape:PySem.W.nsIn K mainGlobals "Shape"=some (some (.ref CS_Shape))) (sS_Shape:PySem.W.specialIn K (.ref CS_Shape) "__getattribute__"=some (some (.builtin "type.__getattribute__"))) (rS_Shape:PySem.W.readsIn K CS_Shape (.type "type")=true) (fS_Shape:PySem.W.findCls K (.ref CS_Shape) (.type "type") "__init__"=some (.val (.ref gS_Shape)))
    (lS_Shape:K.lookup gS_Shape=some ⟨ocS_Shape,odS_Shape,.func (PySem.W.fnOf "__init__" "Shape.__init__" (Ef HW) (Du HW) (Ai HW) .none kVS_Shape dcS_Shape pmS_Shape anS_Shape cdS_Shape ctS_Shape),slS_Shape⟩) (cS_Shape:PySem.W.codeIn K cdS_Shape "Shape.__init__"=true) (kS_Shape:PySem.W.keepIn K (.ref gS_Shape)=true)
    {CO_Bowl fO_Bowl:Addr} {odO_Bowl anO_Bowl:Option Addr} {slO_Bowl:Array (Option Value)} {ocO_Bowl kVO_Bowl dcO_Bowl pmO_Bowl cdO_Bowl ctO_Bowl:Value}
    (aO_Bowl:PySem.W.nsIn K mainGlobals "Bowl"=some (some (.ref CO_Bowl))) (mO_Bowl:PySem.W.makesIn K CO_Bowl=true) (iO_Bowl:PySem.W.findIn K (.ref CO_Bowl) "__init__"=some (some (.ref fO_Bowl))) (nO_Bowl:PySem.W.isFn K (.ref fO_Bowl)=true) (kO_Bowl:PySem.W.keepIn K (.ref CO_Bowl)=true)
    (pgO_Bowl:PySem.W.plainGet K CO_Bowl Str.empty=true) (hdO_Bowl:PySem.W.hasDictIn K CO_Bowl=true) (poO_Bowl:PySem.W.plainOver K CO_Bowl=true) (saO_Bowl:PySem.W.findIn K (.ref CO_Bowl) "__setattr__"=some (some (.builtin "object.__setattr__")))
    (clO_Bowl:PySem.W.findIn K (.ref CO_Bowl) "__class__"=some (some (.builtin "object.__class__"))) (gg1_Bowl:PySem.W.specialIn K (.builtin "object.__class__") "__get__"=some (some (.builtin "getset_descriptor.__get__"))) (gt1_Bowl:PySem.W.takesIn K (.builtin "object.__class__")=some true) (mrO_Bowl:PySem.W.mroIn K CO_Bowl (.type "object")=some true)
    (lO_Bowl:K.lookup fO_Bowl=some ⟨ocO_Bowl,odO_Bowl,.func (PySem.W.fnOf "__init__" "Bowl.__init__" (Ef JR) (Du JR) (Ai JR) .none kVO_Bowl dcO_Bowl pmO_Bowl anO_Bowl cdO_Bowl ctO_Bowl),slO_Bowl⟩) (cO_Bowl:PySem.W.codeIn K cdO_Bowl "Bowl.__init__"=true) (kfO_Bowl:PySem.W.keepIn K (.ref fO_Bowl)=true)
    (nfO_Bowl_form:PySem.W.findIn K (.ref CO_Bowl) "form"=some none)
    (nfO_Bowl_measure:PySem.W.findIn K (.ref CO_Bowl) "measure"=some none)
    (nfO_Bowl_lowest:PySem.W.findIn K (.ref CO_Bowl) "lowest"=some none)
    {CO_Saddle fO_Saddle:Addr} {odO_Saddle anO_Saddle:Option Addr} {slO_Saddle:Array (Option Value)} {ocO_Saddle kVO_Saddle dcO_Saddle pmO_Saddle cdO_Saddle ctO_Saddle:Value}
    (aO_Saddle:PySem.W.nsIn K mainGlobals "Saddle"=some (some (.ref CO_Saddle))) (mO_Saddle:PySem.W.makesIn K CO_Saddle=true) (iO_Saddle:PySem.W.findIn K (.ref CO_Saddle) "__init__"=some (some (.ref fO_Saddle))) (nO_Saddle:PySem.W.isFn K (.ref fO_Saddle)=true) (kO_Saddle:PySem.W.keepIn K (.ref CO_Saddle)=true)
    (pgO_Saddle:PySem.W.plainGet K CO_Saddle Str.empty=true) (hdO_Saddle:PySem.W.hasDictIn K CO_Saddle=true) (poO_Saddle:PySem.W.plainOver K CO_Saddle=true) (saO_Saddle:PySem.W.findIn K (.ref CO_Saddle) "__setattr__"=some (some (.builtin "object.__setattr__")))
    (clO_Saddle:PySem.W.findIn K (.ref CO_Saddle) "__class__"=some (some (.builtin "object.__class__"))) (gg1_Saddle:PySem.W.specialIn K (.builtin "object.__class__") "__get__"=some (some (.builtin "getset_descriptor.__get__"))) (gt1_Saddle:PySem.W.takesIn K (.builtin "object.__class__")=some true) (mrO_Saddle:PySem.W.mroIn K CO_Saddle (.type "object")=some true)
    (lO_Saddle:K.lookup fO_Saddle=some ⟨ocO_Saddle,odO_Saddle,.func (PySem.W.fnOf "__init__" "Saddle.__init__" (Ef GK) (Du GK) (Ai GK) .none kVO_Saddle dcO_Saddle pmO_Saddle anO_Saddle cdO_Saddle ctO_Saddle),slO_Saddle⟩) (cO_Saddle:PySem.W.codeIn K cdO_Saddle "Saddle.__init__"=true) (kfO_Saddle:PySem.W.keepIn K (.ref fO_Saddle)=true)
    (nfO_Saddle_form:PySem.W.findIn K (.ref CO_Saddle) "form"=some none)
    (nfO_Saddle_measure:PySem.W.findIn K (.ref CO_Saddle) "measure"=some none)
    (nfO_Saddle_lowest:PySem.W.findIn K (.ref CO_Saddle) "lowest"=some none)
    {gM_least:Addr} {odM_least anM_least:Option Addr} {slM_least:Array (Option Value)} {ocM_least kVM_least dcM_least pmM_least cdM_least ctM_least:Value}
    (fM_least_Bowl:PySem.W.findIn K (.ref CO_Bowl) "least"=some (some (.ref gM_least)))
    (fM_least_Saddle:PySem.W.findIn K (.ref CO_Saddle) "least"=some (some (.ref gM_least)))
    (nM_least:PySem.W.isFn K (.ref gM_least)=true) (lM_least:K.lookup gM_least=some ⟨ocM_least,odM_least,.func (PySem.W.fnOf "least" "Shape.least" (Ef Ii) (Du Ii) (Ai Ii) .none kVM_least dcM_least pmM_least anM_least cdM_least ctM_least),slM_least⟩) (cM_least:PySem.W.codeIn K cdM_least "Shape.least"=true) (kM_least:PySem.W.keepIn K (.ref gM_least)=true)
    {C_SAME:Addr} {od_SAME:Option Addr} {sl_SAME:Array (Option Value)} {n_SAME:Nat} {t_SAME_0:Tok} {t_SAME_1:Tok} {t_SAME_2:Tok} {t_SAME_3:Tok}
    (a_SAME:PySem.W.nsIn K mainGlobals "SAME"=some (some (.ref C_SAME))) (l_SAME:K.lookup C_SAME=some ⟨.type "tuple",od_SAME,.seq #[.int (1) t_SAME_0,.int (0) t_SAME_1,.int (0) t_SAME_2,.int (1) t_SAME_3] n_SAME,sl_SAME⟩)
    {t_MOST_MEASURE:Tok} (a_MOST_MEASURE:PySem.W.nsIn K mainGlobals "MOST_MEASURE"=some (some (.int (4000) t_MOST_MEASURE)))
    : ∃ fd:FuncData,(∀ (s:Shared) (v:Value),BindsTo s fd ⟨[v],[]⟩ [("_law_script",v)])∧∀ base:Heap,K.In base→base.Ns mainGlobals mg→Ho l.prog w K mg base CX0 13 fa fd ["_law_script"] (lSp K SM):=by
  obtain ⟨f60,oc60,od60,kV60,dc60,pm60,an60,cd60,ct60,sl60,a60,l60,c60,k60⟩:=h60
  have e:=hfa.symm.trans (PySem.W.mg_of X G a60)
  cases e
  have F60:=LR (st:=K9) l60 c60 k60
  have FS_Shape:=LR (st:=HW) lS_Shape cS_Shape kS_Shape
  have FO_Bowl:=LR (st:=JR) lO_Bowl cO_Bowl kfO_Bowl
  have FO_Saddle:=LR (st:=GK) lO_Saddle cO_Saddle kfO_Saddle
  have FM_least:=LR (st:=Ii) lM_least cM_least kM_least
  have T:Txt K mg:={
    o_Bowl:=⟨_,_,_,⟨⟨mO_Bowl,iO_Bowl,nO_Bowl,kO_Bowl⟩,aO_Bowl,PySem.W.mg_of X G aO_Bowl,⟨pgO_Bowl,hdO_Bowl,poO_Bowl,saO_Bowl⟩,fun f hf=>by simp only [List.mem_cons,List.not_mem_nil,or_false] at hf;rcases hf with hf | hf | hf <;> (subst hf;first | exact nfO_Bowl_form | exact nfO_Bowl_measure | exact nfO_Bowl_lowest)⟩,FO_Bowl,FO_Bowl.binds (ps:=["self","form"]) fun _ _ _ _ _ _ us hl=>match us,hl with | [_,_],_=>rfl⟩
    ic_Bowl:=⟨(fun C e=>by rw [aO_Bowl] at e;cases e;exact clO_Bowl),gg1_Bowl,gt1_Bowl,(fun C e=>by rw [aO_Bowl] at e;cases e;exact mrO_Bowl)⟩
    na_Bowl_form:=fun C e=>by rw [aO_Bowl] at e;cases e;exact nfO_Bowl_form
    na_Bowl_measure:=fun C e=>by rw [aO_Bowl] at e;cases e;exact nfO_Bowl_measure
    na_Bowl_lowest:=fun C e=>by rw [aO_Bowl] at e;cases e;exact nfO_Bowl_lowest
    o_Saddle:=⟨_,_,_,⟨⟨mO_Saddle,iO_Saddle,nO_Saddle,kO_Saddle⟩,aO_Saddle,PySem.W.mg_of X G aO_Saddle,⟨pgO_Saddle,hdO_Saddle,poO_Saddle,saO_Saddle⟩,fun f hf=>by simp only [List.mem_cons,List.not_mem_nil,or_false] at hf;rcases hf with hf | hf | hf <;> (subst hf;first | exact nfO_Saddle_form | exact nfO_Saddle_measure | exact nfO_Saddle_lowest)⟩,FO_Saddle,FO_Saddle.binds (ps:=["self","form"]) fun _ _ _ _ _ _ us hl=>match us,hl with | [_,_],_=>rfl⟩
    ic_Saddle:=⟨(fun C e=>by rw [aO_Saddle] at e;cases e;exact clO_Saddle),gg1_Saddle,gt1_Saddle,(fun C e=>by rw [aO_Saddle] at e;cases e;exact mrO_Saddle)⟩
    na_Saddle_form:=fun C e=>by rw [aO_Saddle] at e;cases e;exact nfO_Saddle_form
    na_Saddle_measure:=fun C e=>by rw [aO_Saddle] at e;cases e;exact nfO_Saddle_measure
    na_Saddle_lowest:=fun C e=>by rw [aO_Saddle] at e;cases e;exact nfO_Saddle_lowest
    cm_Shape:=⟨_,_,⟨⟨_,PySem.W.mg_of X G aS_Shape,sS_Shape,rS_Shape,fS_Shape⟩,kS_Shape⟩,FS_Shape,FS_Shape.binds (ps:=["self","form","lowest"]) fun _ _ _ _ _ _ us hl=>match us,hl with | [_,_,_],_=>rfl⟩
    me_least:=⟨_,_,fun c hc=>by simp only [List.mem_cons,List.not_mem_nil,or_false] at hc;rcases hc with hc | hc <;> (subst hc;intro C e;first | (rw [aO_Bowl] at e;cases e;exact ⟨fM_least_Bowl,nM_least,kM_least⟩) | (rw [aO_Saddle] at e;cases e;exact ⟨fM_least_Saddle,nM_least,kM_least⟩)),kM_least,FM_least,FM_least.binds (ps:=["self"]) fun _ _ _ _ _ _ us hl=>match us,hl with | [_],_=>rfl⟩
    t_divisor:=tM X G h0 (by walk_at "b2")
    t_shares:=tM X G h1 (by walk_at "b2")
    t_row_less:=tM X G h2 (by walk_at "b3")
    t_root:=tM X G h3 (by walk_at "b1")
    t_is_square:=tM X G h4 (by walk_at "b1")
    t_check_at_most:=tM X G h5 (by walk_at "b2")
    t_check_within:=tM X G h6 (by walk_at "b2")
    t_is_turn:=tM X G h7 (by walk_at "b1")
    t_check_turn:=tM X G h8 (by walk_at "b1")
    t_led:=tM X G h9 (by walk_at "b2")
    t_put_behind:=tM X G h10 (by walk_at "b2")
    t_back:=tM X G h11 (by walk_at "b1")
    t_measure:=tM X G h12 (by walk_at "b1")
    t_value:=tM X G h13 (by walk_at "b2")
    t_content:=tM X G h14 (by walk_at "b1")
    t_moved:=tM X G h15 (by walk_at "b2")
    t_middle:=tM X G h16 (by walk_at "b3")
    t_shape:=tM X G h17 (by walk_at "b1")
    t_check_bowl:=tM X G h18 (by walk_at "b1")
    t_stands_least:=tM X G h19 (by walk_at "b1")
    t_settled:=tM X G h20 (by walk_at "b1")
    t_turn_lower:=tM X G h21 (by walk_at "b1")
    t_check_saddle:=tM X G h22 (by walk_at "b1")
    t_stands_level:=tM X G h23 (by walk_at "b2")
    t_turn_behind:=tM X G h24 (by walk_at "b2")
    t_stop_behind:=tM X G h25 (by walk_at "b2")
    t_eased:=tM X G h26 (by walk_at "b1")
    t_stops_round:=tM X G h27 (by walk_at "b1")
    t_round_of:=tM X G h28 (by walk_at "b1")
    t_lowered:=tM X G h29 (by walk_at "b1")
    t_shape_of:=tM X G h30 (by walk_at "b1")
    t_way_between:=tM X G h31 (by walk_at "b2")
    t_least_of:=tM X G h32 (by walk_at "b1")
    t_alike:=tM X G h33 (by walk_at "b2")
    t_product:=tM X G h34 (by walk_at "b2")
    t_check_pair:=tM X G h35 (by walk_at "b2")
    t_check_plain:=tM X G h36 (by walk_at "b1")
    t_half_of_middles:=tM X G h37 (by walk_at "b2")
    t_common_shares:=tM X G h38 (by walk_at "b2")
    t_joint_form:=tM X G h39 (by walk_at "b3")
    t_joint_rows:=tM X G h40 (by walk_at "b4")
    t_rows_led:=tM X G h41 (by walk_at "b2")
    t_check_measure:=tM X G h42 (by walk_at "b1")
    t_classes:=tM X G h43 (by walk_at "b1")
    t_least_bowls:=tM X G h44 (by walk_at "b1")
    t_least_saddles:=tM X G h45 (by walk_at "b1")
    t_plain_forms:=tM X G h46 (by walk_at "b2")
    t__law_cell:=tM X G h47 (by walk_at "b2")
    t__law_whole:=tM X G h48 (by walk_at "b1")
    t__law_wholes:=tM X G h49 (by walk_at "b2")
    t__law_bar:=tM X G h50 (by walk_at "b1")
    t__law_root:=tM X G h51 (by walk_at "b1")
    t__law_flat:=tM X G h52 (by walk_at "b1")
    t__law_rest:=tM X G h53 (by walk_at "b2")
    t__law_turn:=tM X G h54 (by walk_at "b2")
    t__law_value:=tM X G h55 (by walk_at "b3")
    t__law_moved:=tM X G h56 (by walk_at "b2")
    t__law_form:=tM X G h57 (by walk_at "b1")
    t__law_moves:=tM X G h58 (by walk_at "b3")
    t__law_opposite:=tM X G h59 (by walk_at "b1")
    t_law:=⟨_,_,F60,PySem.W.mg_of X G a60,F60.binds (ps:=["_law_script"]) fun _ _ _ _ _ _ us hl=>match us,hl with | [_],_=>rfl⟩
    z_abs:=PySem.W.mg_none_of X G z_abs
    z_bool:=PySem.W.mg_none_of X G z_bool
    z_int:=PySem.W.mg_none_of X G z_int
    z_isinstance:=PySem.W.mg_none_of X G z_isinstance
    z_len:=PySem.W.mg_none_of X G z_len
    z_max:=PySem.W.mg_none_of X G z_max
    z_min:=PySem.W.mg_none_of X G z_min
    z_range:=PySem.W.mg_none_of X G z_range
    z_tuple:=PySem.W.mg_none_of X G z_tuple
    z_zip:=PySem.W.mg_none_of X G z_zip
    k_SAME:=⟨_,PySem.W.mg_of X G a_SAME,fun H=>Ck.mpr ⟨_,[.int (1),.int (0),.int (0),.int (1)],rfl,.inr ⟨_,_,_,l_SAME,rfl,rfl,Az (by show 4≤1000;decide),.cons ⟨_,rfl⟩ (.cons ⟨_,rfl⟩ (.cons ⟨_,rfl⟩ (.cons ⟨_,rfl⟩ (.nil))))⟩,RpL.cons (Bj.mpr rfl) (RpL.cons (Bj.mpr rfl) (RpL.cons (Bj.mpr rfl) (RpL.cons (Bj.mpr rfl) (RpL.nil))))⟩⟩
    m_MOST_MEASURE:=⟨_,PySem.W.mg_of X G a_MOST_MEASURE⟩
  }
  refine ⟨PySem.W.fnOf "law" "law" (Ef K9) (Du K9) (Ai K9) .none kV60 dc60 pm60 an60 cd60 ct60,fun s v=>.of_eq rfl,fun base kb nb=>?_⟩
  have gm_least:=Y8 l.prog w base T 
  have g_divisor:=Wa l.prog w base T 
  have g_row_less:=Ut l.prog w base T 
  have g_root:=AbR l.prog w base T 
  have g_check_at_most:=Mq l.prog w base T 
  have g_check_within:=Ny l.prog w base T 
  have g_is_turn:=Ww l.prog w base T 
  have g_put_behind:=QV l.prog w base T 
  have g_measure:=Wv l.prog w base T 
  have g_value:=Aaq l.prog w base T 
  have g_middle:=Y4 l.prog w base T 
  have g_stands_least:=Nz l.prog w base T 
  have g_turn_lower:=Qy l.prog w base T 
  have g_stands_level:=Nv l.prog w base T 
  have g_turn_behind:=Px l.prog w base T 
  have g_half_of_middles:=Kp l.prog w base T 
  have g__law_cell:=Sy l.prog w base T 
  have g__law_whole:=QC l.prog w base T 
  have g__law_bar:=TJ l.prog w base T 
  have g__law_root:=Tj l.prog w base T 
  have g__law_rest:=SN l.prog w base T 
  have g__law_turn:=Sx l.prog w base T 
  have g__law_value:=QG l.prog w base T 
  have g__law_opposite:=Mp l.prog w base T 
  have gc_Shape:=YG l.prog w base T g_measure
  have g_shares:=Yv l.prog w base T g_row_less
  have g_is_square:=Ss l.prog w base T g_root
  have g_check_turn:=QW l.prog w base T g_is_turn
  have g_content:=VP l.prog w base T g_divisor
  have g_joint_form:=Qw l.prog w base T g_half_of_middles g_measure
  have g_joint_rows:=QF l.prog w base T g_half_of_middles g_measure
  have g__law_wholes:=Ow l.prog w base T g__law_whole
  have g__law_flat:=Sv l.prog w base T g__law_bar g__law_root
  have g__law_moved:=Qv l.prog w base T g__law_value
  have g__law_form:=Tf l.prog w base T g__law_cell g__law_rest
  have g_led:=Agn l.prog w base T g_check_turn
  have g_back:=Ab9 l.prog w base T g_check_turn
  have g_moved:=AaH l.prog w base T g_check_turn g_value g_middle
  have g_shape:=Aad l.prog w base T g_measure g_is_square
  have g_check_plain:=Pa l.prog w base T g_content
  have g_common_shares:=MK l.prog w base T g_shares g_half_of_middles
  have g_check_measure:=M4 l.prog w base T g_is_square
  have g_plain_forms:=Oj l.prog w base T g_content
  have g__law_moves:=QM l.prog w base T g__law_moved g__law_wholes
  have g_check_bowl:=Qt l.prog w base T g_shape
  have g_check_saddle:=Nr l.prog w base T g_check_at_most g_shape g_measure
  have g_stop_behind:=Og l.prog w base T g_turn_behind g_moved g_put_behind
  have g_way_between:=Qg l.prog w base T g_put_behind g_back
  have g_rows_led:=Vb l.prog w base T g_led
  have g_least_bowls:=O6 l.prog w base T g_plain_forms g_stands_least g_root
  have g_settled:=V1 l.prog w base T g_check_bowl g_stands_least g_turn_lower g_moved g_put_behind
  have g_eased:=Aa4 l.prog w base T g_check_saddle g_root g_measure g_stands_level g_stop_behind
  have gi_Bowl:=Aag l.prog w base T gc_Shape g_settled
  have g_stops_round:=Qn l.prog w base T g_root g_eased g_stop_behind g_measure
  have g_round_of:=Um l.prog w base T g_check_saddle g_stops_round
  have g_lowered:=Vu l.prog w base T g_check_saddle g_stops_round
  have gi_Saddle:=WK l.prog w base T gc_Shape g_lowered
  have g_least_saddles:=Mv l.prog w base T g_root g_plain_forms g_stands_level g_round_of
  have g_classes:=Wr l.prog w base T g_check_measure g_check_within g_least_saddles g_least_bowls
  have g_shape_of:=Ua l.prog w base T gi_Bowl gi_Saddle g_shape
  have g_least_of:=Us l.prog w base T g_shape_of
  have g_alike:=Aak l.prog w base T g_shape_of g_way_between
  have g_check_pair:=Qs l.prog w base T g_shape_of g_check_plain
  have g_product:=V7 l.prog w base T gm_least g_check_pair g_common_shares g_joint_form g_rows_led g_shape_of g_back g_joint_rows
  have g_law:=Agm l.prog w base T g__law_form g__law_bar g__law_moved g_classes g_least_of g__law_flat g__law_turn g_alike g_product g__law_opposite g__law_moves g__law_cell
  obtain ⟨f,fd,FT,GG⟩:=g_law
  have e1:=FT.mg.symm.trans (PySem.W.mg_of X G a60)
  cases e1
  have e2:=FT.fn.uniq F60
  subst e2
  exact GG
theorem walk {l:PySem.W.OpenLaw} {q:Program} {loose:List Str} {XP:(Str→Option Value)→Heap→Prop} {YP:World→Heap→Prop} {d:DefRec} {K:Params→PySem.W.Frag} (hn:l.most=some 63) (hdf:d.params.defaults=[])
    (hY:∀ (w:World) (h:Heap),YP w h→(K w.params).In h)
    (F:∀ (w:World) (mg:Str→Option Value) (fa:Addr) (h:Heap),(K w.params).In h→h.Ns mainGlobals mg→mg d.name=some (.ref fa) →
      ∃ fd:FuncData,(∀ (s:Shared) (u:Value),BindsTo s fd ⟨[u],[]⟩ [("_law_script",u)])∧∀ base:Heap,(K w.params).In base→base.Ns mainGlobals mg→Ho l.prog w (K w.params) mg base CX0 13 fa fd ["_law_script"] (lSp (K w.params) SM)) :
    PySem.W.WalkO q loose XP YP l.row.toRowW d [] (fun f vs=>PySem.call f vs) :=
  L2.Adj (n:=63) (k:=13) (x:="_law_script") (CX:=fun _=>CX0) (sp:=fun w=>lSp (K w.params) SM) hn (by decide) hdf ⟨rfl,by decide,by decide⟩ hY F (fun w H a ns hl _ hS=>YT hl hS) fun _ _ _ _ _ z=>z
end My
open PySem PySem.W PyProof.Rows
local macro_rules | `(tactic| walk_at "nF") => `(tactic| (refine' My.Ad7 ?qa ?ql ?qc ?qk; (case qa => k_is); (case ql => k_is); (case qc => k_is); (case qk => k_is)))
theorem My.hFk {K:PySem.W.Frag} {n:PySem.Str} {s:PySem.Stmt} (f:PySem.Addr) (m:String) (t c:Nat) (a:PySem.W.nsIn K PySem.mainGlobals n=some (some (.ref f)):=by kernel_rfl) (l:K.lookup f=some ⟨.type "function",none,.func (PySem.W.fnOf n n (L2.Ef s) (L2.Du s) (L2.Ai s) .none .none .none (.str (.ofString m) t) none (.ref c) .none),#[]⟩:=by kernel_rfl) (d:PySem.W.codeIn K (.ref c) n=true:=by kernel_rfl) (k:PySem.W.keepIn K (.ref f)=true:=by kernel_rfl):My.nF K n s:=My.Ad7 a l d k
theorem My.hF0 (P:PySem.Params):My.nF (My.KK P) "divisor" My.GZ:=My.hFk 167 "formcycle.wholes" 382 166
theorem My.hF1 (P:PySem.Params):My.nF (My.KK P) "shares" My.Ig:=My.hFk 174 "formcycle.wholes" 382 173
theorem My.hF2 (P:PySem.Params):My.nF (My.KK P) "row_less" My.Gd:=My.hFk 181 "formcycle.wholes" 382 180
theorem My.hF3 (P:PySem.Params):My.nF (My.KK P) "root" My.HB:=My.hFk 188 "formcycle.wholes" 382 187
theorem My.hF4 (P:PySem.Params):My.nF (My.KK P) "is_square" My.DX:=My.hFk 195 "formcycle.wholes" 382 194
theorem My.hF5 (P:PySem.Params):My.nF (My.KK P) "check_at_most" My.CN:=My.hFk 202 "formcycle.wholes" 382 201
theorem My.hF6 (P:PySem.Params):My.nF (My.KK P) "check_within" My.Dm:=My.hFk 209 "formcycle.wholes" 382 208
theorem My.hF7 (P:PySem.Params):My.nF (My.KK P) "is_turn" My.G5:=My.hFk 217 "formcycle.turns" 446 216
theorem My.hF8 (P:PySem.Params):My.nF (My.KK P) "check_turn" My.CW:=My.hFk 224 "formcycle.turns" 446 223
theorem My.hF9 (P:PySem.Params):My.nF (My.KK P) "led" My.Ru:=My.hFk 231 "formcycle.turns" 446 230
theorem My.hF10 (P:PySem.Params):My.nF (My.KK P) "put_behind" My.Dc:=My.hFk 238 "formcycle.turns" 446 237
theorem My.hF11 (P:PySem.Params):My.nF (My.KK P) "back" My.Kq:=My.hFk 245 "formcycle.turns" 446 244
theorem My.hF12 (P:PySem.Params):My.nF (My.KK P) "measure" My.CJ:=My.hFk 252 "formcycle.forms" 490 251
theorem My.hF13 (P:PySem.Params):My.nF (My.KK P) "value" My.Jx:=My.hFk 259 "formcycle.forms" 490 258
theorem My.hF14 (P:PySem.Params):My.nF (My.KK P) "content" My.FQ:=My.hFk 266 "formcycle.forms" 490 265
theorem My.hF15 (P:PySem.Params):My.nF (My.KK P) "moved" My.Jc:=My.hFk 273 "formcycle.forms" 490 272
theorem My.hF16 (P:PySem.Params):My.nF (My.KK P) "middle" My.Ik:=My.hFk 280 "formcycle.forms" 490 279
theorem My.hF17 (P:PySem.Params):My.nF (My.KK P) "shape" My.Hs:=My.hFk 287 "formcycle.forms" 490 286
theorem My.hF18 (P:PySem.Params):My.nF (My.KK P) "check_bowl" My.Eh:=My.hFk 294 "formcycle.bowls" 544 293
theorem My.hF19 (P:PySem.Params):My.nF (My.KK P) "stands_least" My.Cu:=My.hFk 301 "formcycle.bowls" 544 300
theorem My.hF20 (P:PySem.Params):My.nF (My.KK P) "settled" My.GX:=My.hFk 308 "formcycle.bowls" 544 307
theorem My.hF21 (P:PySem.Params):My.nF (My.KK P) "turn_lower" My.El:=My.hFk 315 "formcycle.bowls" 544 314
theorem My.hF22 (P:PySem.Params):My.nF (My.KK P) "check_saddle" My.Ce:=My.hFk 322 "formcycle.saddles" 580 321
theorem My.hF23 (P:PySem.Params):My.nF (My.KK P) "stands_level" My.Cw:=My.hFk 329 "formcycle.saddles" 580 328
theorem My.hF24 (P:PySem.Params):My.nF (My.KK P) "turn_behind" My.Dw:=My.hFk 336 "formcycle.saddles" 580 335
theorem My.hF25 (P:PySem.Params):My.nF (My.KK P) "stop_behind" My.Dh:=My.hFk 343 "formcycle.saddles" 580 342
theorem My.hF26 (P:PySem.Params):My.nF (My.KK P) "eased" My.JQ:=My.hFk 350 "formcycle.saddles" 580 349
theorem My.hF27 (P:PySem.Params):My.nF (My.KK P) "stops_round" My.Dg:=My.hFk 357 "formcycle.saddles" 580 356
theorem My.hF28 (P:PySem.Params):My.nF (My.KK P) "round_of" My.Fb:=My.hFk 362 "formcycle.saddles" 580 361
theorem My.hF29 (P:PySem.Params):My.nF (My.KK P) "lowered" My.GQ:=My.hFk 369 "formcycle.saddles" 580 368
theorem My.hF30 (P:PySem.Params):My.nF (My.KK P) "shape_of" My.Ds:=My.hFk 456 "formcycle.shapes" 653 455
theorem My.hF31 (P:PySem.Params):My.nF (My.KK P) "way_between" My.Dz:=My.hFk 463 "formcycle.shapes" 653 462
theorem My.hF32 (P:PySem.Params):My.nF (My.KK P) "least_of" My.Gb:=My.hFk 470 "formcycle.shapes" 653 469
theorem My.hF33 (P:PySem.Params):My.nF (My.KK P) "alike" My.JW:=My.hFk 477 "formcycle.shapes" 653 476
theorem My.hF34 (P:PySem.Params):My.nF (My.KK P) "product" My.G7:=My.hFk 484 "formcycle.products" 790 483
theorem My.hF35 (P:PySem.Params):My.nF (My.KK P) "check_pair" My.Ej:=My.hFk 491 "formcycle.products" 790 490
theorem My.hF36 (P:PySem.Params):My.nF (My.KK P) "check_plain" My.Dy:=My.hFk 498 "formcycle.products" 790 497
theorem My.hF37 (P:PySem.Params):My.nF (My.KK P) "half_of_middles" My.Bs:=My.hFk 505 "formcycle.products" 790 504
theorem My.hF38 (P:PySem.Params):My.nF (My.KK P) "common_shares" My.CT:=My.hFk 512 "formcycle.products" 790 511
theorem My.hF39 (P:PySem.Params):My.nF (My.KK P) "joint_form" My.Em:=My.hFk 519 "formcycle.products" 790 518
theorem My.hF40 (P:PySem.Params):My.nF (My.KK P) "joint_rows" My.Ec:=My.hFk 526 "formcycle.products" 790 525
theorem My.hF41 (P:PySem.Params):My.nF (My.KK P) "rows_led" My.Dr:=My.hFk 531 "formcycle.products" 790 530
theorem My.hF42 (P:PySem.Params):My.nF (My.KK P) "check_measure" My.CP:=My.hFk 538 "formcycle.classes" 876 537
theorem My.hF43 (P:PySem.Params):My.nF (My.KK P) "classes" My.GR:=My.hFk 545 "formcycle.classes" 876 544
theorem My.hF44 (P:PySem.Params):My.nF (My.KK P) "least_bowls" My.Df:=My.hFk 550 "formcycle.classes" 876 549
theorem My.hF45 (P:PySem.Params):My.nF (My.KK P) "least_saddles" My.CG:=My.hFk 557 "formcycle.classes" 876 556
theorem My.hF46 (P:PySem.Params):My.nF (My.KK P) "plain_forms" My.Cp:=My.hFk 562 "formcycle.classes" 876 561
theorem My.hF47 (P:PySem.Params):My.nF (My.KK P) "_law_cell" My.DR:=My.hFk 569 "law_formcycle_k74_whole_classes" 916 568
theorem My.hF48 (P:PySem.Params):My.nF (My.KK P) "_law_whole" My.Ei:=My.hFk 576 "law_formcycle_k74_whole_classes" 916 575
theorem My.hF49 (P:PySem.Params):My.nF (My.KK P) "_law_wholes" My.Di:=My.hFk 581 "law_formcycle_k74_whole_classes" 916 580
theorem My.hF50 (P:PySem.Params):My.nF (My.KK P) "_law_bar" My.Fd:=My.hFk 588 "law_formcycle_k74_whole_classes" 916 587
theorem My.hF51 (P:PySem.Params):My.nF (My.KK P) "_law_root" My.Fi:=My.hFk 595 "law_formcycle_k74_whole_classes" 916 594
theorem My.hF52 (P:PySem.Params):My.nF (My.KK P) "_law_flat" My.Fj:=My.hFk 602 "law_formcycle_k74_whole_classes" 916 601
theorem My.hF53 (P:PySem.Params):My.nF (My.KK P) "_law_rest" My.Fo:=My.hFk 609 "law_formcycle_k74_whole_classes" 916 608
theorem My.hF54 (P:PySem.Params):My.nF (My.KK P) "_law_turn" My.Fg:=My.hFk 616 "law_formcycle_k74_whole_classes" 916 615
theorem My.hF55 (P:PySem.Params):My.nF (My.KK P) "_law_value" My.Eo:=My.hFk 623 "law_formcycle_k74_whole_classes" 916 622
theorem My.hF56 (P:PySem.Params):My.nF (My.KK P) "_law_moved" My.Dp:=My.hFk 630 "law_formcycle_k74_whole_classes" 916 629
theorem My.hF57 (P:PySem.Params):My.nF (My.KK P) "_law_form" My.Fl:=My.hFk 637 "law_formcycle_k74_whole_classes" 916 636
theorem My.hF58 (P:PySem.Params):My.nF (My.KK P) "_law_moves" My.Ed:=My.hFk 644 "law_formcycle_k74_whole_classes" 916 643
theorem My.hF59 (P:PySem.Params):My.nF (My.KK P) "_law_opposite" My.CK:=My.hFk 651 "law_formcycle_k74_whole_classes" 916 650
theorem My.hF60 (P:PySem.Params):My.nF (My.KK P) "law" My.K9:=My.hFk 658 "law_formcycle_k74_whole_classes" 916 657
set_option maxRecDepth 100000 in
set_option maxHeartbeats 0 in
theorem PySem.Challenge.cw_formcycle_k74_whole_classes_holds : PySem.Challenge.rw_formcycle_k74_whole_classes.Holds := by
  w_on
  refine holds_law My.said0 fun said=>?_
  refine holds_open (r:=PySem.Challenge.rw_formcycle_k74_whole_classes.row) (q:=My.vw) (loose:=[]) (Xt:=fun s=>xlAt My.vw [] s && recOk (RowW.records (PySem.Challenge.rw_formcycle_k74_whole_classes.row.toRowW)) s) (XP:=XL My.vw []) (Yf:=Hook.obs (kHook My.KK My.asK (fun _=>by kernel_rfl))) (Ya:=Hook.val (kHook My.KK My.asK (fun _=>by kernel_rfl))) (YP:=Hook.says (kHook My.KK My.asK (fun _=>by kernel_rfl))) (N:=4771) My.hl (Hook.of (kHook My.KK My.asK (fun _=>by kernel_rfl))) (Hook.keeps (kHook My.KK My.asK (fun _=>by kernel_rfl))) (fun s e=>xl_of s (Bool.and_eq_true_iff.mp e).1) XL.keeps (by rfl) (by rfl) (by rfl) (fun s e=>recFacts_of (Bool.and_eq_true_iff.mp e).2) (by rfl) said (by decide +kernel) ⟨rfl,rfl,rfl,rfl,rfl,by decide +kernel⟩ ?hw ?hc
  (case hw=>w_witness2)
  k_fill
  refine My.walk (l:=PySem.Challenge.rw_formcycle_k74_whole_classes) rfl rfl (fun w h Y=>PySem.W.kIn_of Y) ?F
  case F =>
    intro w mg fa h KX G hmg
    refine' My.all_mk KX G hmg ?h0 ?h1 ?h2 ?h3 ?h4 ?h5 ?h6 ?h7 ?h8 ?h9 ?h10 ?h11 ?h12 ?h13 ?h14 ?h15 ?h16 ?h17 ?h18 ?h19 ?h20 ?h21 ?h22 ?h23 ?h24 ?h25 ?h26 ?h27 ?h28 ?h29 ?h30 ?h31 ?h32 ?h33 ?h34 ?h35 ?h36 ?h37 ?h38 ?h39 ?h40 ?h41 ?h42 ?h43 ?h44 ?h45 ?h46 ?h47 ?h48 ?h49 ?h50 ?h51 ?h52 ?h53 ?h54 ?h55 ?h56 ?h57 ?h58 ?h59 ?h60 ?z_abs ?z_bool ?z_int ?z_isinstance ?z_len ?z_max ?z_min ?z_range ?z_tuple ?z_zip ?aS_Shape ?sS_Shape ?rS_Shape ?fS_Shape ?lS_Shape ?cS_Shape ?kS_Shape ?aO_Bowl ?mO_Bowl ?iO_Bowl ?nO_Bowl ?kO_Bowl ?pgO_Bowl ?hdO_Bowl ?poO_Bowl ?saO_Bowl ?clO_Bowl ?gg1_Bowl ?gt1_Bowl ?mrO_Bowl ?lO_Bowl ?cO_Bowl ?kfO_Bowl ?nfO_Bowl_form ?nfO_Bowl_measure ?nfO_Bowl_lowest ?aO_Saddle ?mO_Saddle ?iO_Saddle ?nO_Saddle ?kO_Saddle ?pgO_Saddle ?hdO_Saddle ?poO_Saddle ?saO_Saddle ?clO_Saddle ?gg1_Saddle ?gt1_Saddle ?mrO_Saddle ?lO_Saddle ?cO_Saddle ?kfO_Saddle ?nfO_Saddle_form ?nfO_Saddle_measure ?nfO_Saddle_lowest ?fM_least_Bowl ?fM_least_Saddle ?nM_least ?lM_least ?cM_least ?kM_least ?a_SAME ?l_SAME ?a_MOST_MEASURE
    (case h0=>exact My.hF0 _)
    (case h1=>exact My.hF1 _)
    (case h2=>exact My.hF2 _)
    (case h3=>exact My.hF3 _)
    (case h4=>exact My.hF4 _)
    (case h5=>exact My.hF5 _)
    (case h6=>exact My.hF6 _)
    (case h7=>exact My.hF7 _)
    (case h8=>exact My.hF8 _)
    (case h9=>exact My.hF9 _)
    (case h10=>exact My.hF10 _)
    (case h11=>exact My.hF11 _)
    (case h12=>exact My.hF12 _)
    (case h13=>exact My.hF13 _)
    (case h14=>exact My.hF14 _)
    (case h15=>exact My.hF15 _)
    (case h16=>exact My.hF16 _)
    (case h17=>exact My.hF17 _)
    (case h18=>exact My.hF18 _)
    (case h19=>exact My.hF19 _)
    (case h20=>exact My.hF20 _)
    (case h21=>exact My.hF21 _)
    (case h22=>exact My.hF22 _)
    (case h23=>exact My.hF23 _)
    (case h24=>exact My.hF24 _)
    (case h25=>exact My.hF25 _)
    (case h26=>exact My.hF26 _)
    (case h27=>exact My.hF27 _)
    (case h28=>exact My.hF28 _)
    (case h29=>exact My.hF29 _)
    (case h30=>exact My.hF30 _)
    (case h31=>exact My.hF31 _)
    (case h32=>exact My.hF32 _)
    (case h33=>exact My.hF33 _)
    (case h34=>exact My.hF34 _)
    (case h35=>exact My.hF35 _)
    (case h36=>exact My.hF36 _)
    (case h37=>exact My.hF37 _)
    (case h38=>exact My.hF38 _)
    (case h39=>exact My.hF39 _)
    (case h40=>exact My.hF40 _)
    (case h41=>exact My.hF41 _)
    (case h42=>exact My.hF42 _)
    (case h43=>exact My.hF43 _)
    (case h44=>exact My.hF44 _)
    (case h45=>exact My.hF45 _)
    (case h46=>exact My.hF46 _)
    (case h47=>exact My.hF47 _)
    (case h48=>exact My.hF48 _)
    (case h49=>exact My.hF49 _)
    (case h50=>exact My.hF50 _)
    (case h51=>exact My.hF51 _)
    (case h52=>exact My.hF52 _)
    (case h53=>exact My.hF53 _)
    (case h54=>exact My.hF54 _)
    (case h55=>exact My.hF55 _)
    (case h56=>exact My.hF56 _)
    (case h57=>exact My.hF57 _)
    (case h58=>exact My.hF58 _)
    (case h59=>exact My.hF59 _)
    (case h60=>exact My.hF60 _)
    (case z_abs=>as_aux_lemma=>k_is)
    (case z_bool=>as_aux_lemma=>k_is)
    (case z_int=>as_aux_lemma=>k_is)
    (case z_isinstance=>as_aux_lemma=>k_is)
    (case z_len=>as_aux_lemma=>k_is)
    (case z_max=>as_aux_lemma=>k_is)
    (case z_min=>as_aux_lemma=>k_is)
    (case z_range=>as_aux_lemma=>k_is)
    (case z_tuple=>as_aux_lemma=>k_is)
    (case z_zip=>as_aux_lemma=>k_is)
    (case aS_Shape=>as_aux_lemma=>k_is)
    (case sS_Shape=>as_aux_lemma=>k_is)
    (case rS_Shape=>as_aux_lemma=>k_is)
    (case fS_Shape=>as_aux_lemma=>k_is)
    (case lS_Shape=>as_aux_lemma=>k_is)
    (case cS_Shape=>as_aux_lemma=>k_is)
    (case kS_Shape=>as_aux_lemma=>k_is)
    (case aO_Bowl=>as_aux_lemma=>k_is)
    (case mO_Bowl=>as_aux_lemma=>k_is)
    (case iO_Bowl=>as_aux_lemma=>k_is)
    (case nO_Bowl=>as_aux_lemma=>k_is)
    (case kO_Bowl=>as_aux_lemma=>k_is)
    (case pgO_Bowl=>as_aux_lemma=>k_is)
    (case hdO_Bowl=>as_aux_lemma=>k_is)
    (case poO_Bowl=>as_aux_lemma=>k_is)
    (case saO_Bowl=>as_aux_lemma=>k_is)
    (case clO_Bowl=>as_aux_lemma=>k_is)
    (case gg1_Bowl=>as_aux_lemma=>k_is)
    (case gt1_Bowl=>as_aux_lemma=>k_is)
    (case mrO_Bowl=>as_aux_lemma=>k_is)
    (case lO_Bowl=>as_aux_lemma=>k_is)
    (case cO_Bowl=>as_aux_lemma=>k_is)
    (case kfO_Bowl=>as_aux_lemma=>k_is)
    (case nfO_Bowl_form=>as_aux_lemma=>k_is)
    (case nfO_Bowl_measure=>as_aux_lemma=>k_is)
    (case nfO_Bowl_lowest=>as_aux_lemma=>k_is)
    (case aO_Saddle=>as_aux_lemma=>k_is)
    (case mO_Saddle=>as_aux_lemma=>k_is)
    (case iO_Saddle=>as_aux_lemma=>k_is)
    (case nO_Saddle=>as_aux_lemma=>k_is)
    (case kO_Saddle=>as_aux_lemma=>k_is)
    (case pgO_Saddle=>as_aux_lemma=>k_is)
    (case hdO_Saddle=>as_aux_lemma=>k_is)
    (case poO_Saddle=>as_aux_lemma=>k_is)
    (case saO_Saddle=>as_aux_lemma=>k_is)
    (case clO_Saddle=>as_aux_lemma=>k_is)
    (case gg1_Saddle=>as_aux_lemma=>k_is)
    (case gt1_Saddle=>as_aux_lemma=>k_is)
    (case mrO_Saddle=>as_aux_lemma=>k_is)
    (case lO_Saddle=>as_aux_lemma=>k_is)
    (case cO_Saddle=>as_aux_lemma=>k_is)
    (case kfO_Saddle=>as_aux_lemma=>k_is)
    (case nfO_Saddle_form=>as_aux_lemma=>k_is)
    (case nfO_Saddle_measure=>as_aux_lemma=>k_is)
    (case nfO_Saddle_lowest=>as_aux_lemma=>k_is)
    (case fM_least_Bowl=>as_aux_lemma=>k_is)
    (case fM_least_Saddle=>as_aux_lemma=>k_is)
    (case nM_least=>as_aux_lemma=>k_is)
    (case lM_least=>as_aux_lemma=>k_is)
    (case cM_least=>as_aux_lemma=>k_is)
    (case kM_least=>as_aux_lemma=>k_is)
    (case a_SAME=>as_aux_lemma=>k_is)
    (case l_SAME=>as_aux_lemma=>k_is)
    (case a_MOST_MEASURE=>as_aux_lemma=>k_is)
