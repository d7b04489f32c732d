import PyProof.Rows.All
import Wide.All
import OpenK.AllK
import Wide.FinOn
import Lean
import PyProof.EqAt
import PyProof.EqKinds
import PyProof.TupleCall
import PySem.Challenge.RW_formcycle_k41_products_walk
set_option Elab.async false
set_option linter.all false
set_option maxRecDepth 100000
set_option maxRecDepth 1000000
set_option maxHeartbeats 0
theorem My.said0:PySem.Challenge.rw_formcycle_k41_products_walk.wellSaid=true:=by kernel_rfl
namespace My
open PySem PySem.W
noncomputable def Ut (tb:String→Option Builtin) (p:Program) (w:World) (m:Nat) (ann:Option Value):Nat→SharedT→Thread→Option SharedT
  | 0,_,_=>none
  | k+1,s,t=>match through t with
    | true=>some s
    | false=>match stepOk m ann t with
      | false=>none
      | true=>match stepT (denote tb) p w s t with
        | some (s',t')=>Ut tb p w m ann k s' t'
        | none=>none
theorem Ss {tb:String→Option Builtin} {p:Program} {w:World} {m:Nat} {ann:Option Value}:∀ (k:Nat) {s r:SharedT} {t:Thread},Ut tb p w m ann k s t=some r→topRun tb p w m ann k s.abs t=some r.abs
  | 0,s,r,t,h=>by cases h
  | k+1,s,r,t,h=>by
    unfold Ut at h
    unfold topRun
    cases e:through t with
    | true =>
      rw [e] at h
      cases h
      rfl
    | false =>
      rw [e] at h
      dsimp only at h ⊢
      cases e2:stepOk m ann t with
      | false=>rw [e2] at h;cases h
      | true =>
        rw [e2] at h
        dsimp only at h ⊢
        cases e3:stepT (denote tb) p w s t with
        | none=>rw [e3] at h;cases h
        | some st =>
          obtain ⟨s',t'⟩:=st
          rw [e3] at h
          rw [stepT_spec e3]
          exact Ss k h
noncomputable def AdD:List Obj→Nat→BT→BT
  | [],_,t=>t
  | o :: os,n,t=>AdD os (n+1) (t.ins n o)
noncomputable def Q7 (w:World) (os:OsState):SharedT:=⟨AdD (boot_heap w.params).objs.toList 0 .nil,(boot_heap w.params).objs.size,(boot_heap w.params).life,Array.mk [],boot_drawn,boot_toks,os⟩
noncomputable def BL (w:World) (os:OsState):Shared:=⟨boot_heap w.params,Array.mk [],boot_drawn,boot_toks,os⟩
noncomputable def stays (p:Program) (s₀ s₁:Shared):Bool:=staticsOk (importedModules p.main.body) s₀.heap s₁.heap && namesBound p s₁.heap && gensDone s₁ && laidKept s₀.heap s₁.heap
theorem boot_abs:∀ w os,(Q7 w os).abs=BL w os:=fun w os=>by kernel_rfl
theorem Ab3 {p:Program} {w:World} {N:Nat} {α:Type} {F:Shared→α} {g:α} (e:opening p=plainProg p.main.scope.names) (hN:Nat.ble 600 N=true) (f:∀ s,fenceModules? p s=some s)
    (h:∀ os,(Ut treeTable p w (BL w os).heap.objs.size ((BL w os).heap.nsMap mainGlobals "__annotations__") N (Q7 w os) (topStub p)).map (fun r=>(stays p (BL w os) r.abs,F r.abs))=some (true,g))
    (h0:∀ os,((BL w os).heap.isNs mainGlobals && (BL w os).gens.size == 0)=true):(openEnds treeTable p w N).map F=some g:=by
  have hb:=boot_open e hN f w
  unfold openEnds
  cases q:fencedOpening treeTable p w N with
  | none=>rw [q] at hb;cases hb
  | some s =>
    rw [q] at hb
    have hs:s=BL w s.os:=by
      obtain ⟨a,b,c,d,o⟩:=s
      simp only [Option.map_some,Option.some.injEq,Prod.mk.injEq] at hb
      obtain ⟨rfl,rfl,rfl,rfl⟩:=hb
      rfl
    generalize s.os=o at hs
    subst hs
    show (topFrom treeTable p w N (BL w o)).map F=some g
    unfold topFrom
    rw [h0 o]
    have hh:=h o
    cases q2:Ut treeTable p w (BL w o).heap.objs.size ((BL w o).heap.nsMap mainGlobals "__annotations__") N (Q7 w o) (topStub p) with
    | none=>rw [q2] at hh;cases hh
    | some r =>
      rw [q2] at hh
      have hr:=Ss N q2
      rw [boot_abs] at hr
      simp only [Option.map_some,Option.some.injEq,Prod.mk.injEq] at hh
      obtain ⟨h1,h2⟩:=hh
      unfold stays at h1
      dsimp only
      rw [hr]
      show (match staticsOk (importedModules p.main.body) (BL w o).heap r.abs.heap && namesBound p r.abs.heap && gensDone r.abs && laidKept (BL w o).heap r.abs.heap with
        | true=>some r.abs
        | false=>none).map F=some g
      rw [h1]
      exact congrArg some h2
noncomputable def TR (p:Program) (w:World) (os:OsState) (N:Nat):Option SharedT:=Ut treeTable p w (BL w os).heap.objs.size ((BL w os).heap.nsMap mainGlobals "__annotations__") N (Q7 w os) (topStub p)
theorem Ahm {p:Program} {w:World} {N:Nat} {α β:Type} {F:Shared→α} {G:Shared→β} {f':α} {g':β} (e:opening p=plainProg p.main.scope.names) (hN:Nat.ble 600 N=true) (f:∀ s,fenceModules? p s=some s)
    (h1:∀ os,(TR p w os N).map (fun r=>stays p (BL w os) r.abs)=some true) (h2:∀ os,(TR p w os N).map (fun r=>F r.abs)=some f') (h3:∀ os,(TR p w os N).map (fun r=>G r.abs)=some g')
    (h0:∀ os,((BL w os).heap.isNs mainGlobals && (BL w os).gens.size == 0)=true):(openEnds treeTable p w N).map (fun s=>(F s,G s))=some (f',g') :=
  Ab3 (F:=fun s=>(F s,G s)) e hN f (fun os=>by
    have a:=h1 os
    have b:=h2 os
    have c:=h3 os
    unfold TR at a b c
    revert a b c
    generalize Ut treeTable p w (BL w os).heap.objs.size ((BL w os).heap.nsMap mainGlobals "__annotations__") N (Q7 w os) (topStub p)=o
    intro a b c
    cases o with
    | none=>cases a
    | some r =>
      simp only [Option.map_some,Option.some.injEq] at a b c ⊢
      rw [a,b,c]) h0
end My
namespace My
open PySem PySem.W
noncomputable def goT (tb:String→Option Builtin) (p:Program) (w:World) (m:Nat) (ann:Option Value):Nat→SharedT→Thread→Option (SharedT × Thread)
  | 0,s,t=>some (s,t)
  | k+1,s,t=>match through t with
    | true=>none
    | false=>match stepOk m ann t with
      | false=>none
      | true=>match stepT (denote tb) p w s t with
        | some (s',t')=>goT tb p w m ann k s' t'
        | none=>none
theorem Aaj {tb:String→Option Builtin} {p:Program} {w:World} {m:Nat} {ann:Option Value}:∀ (k:Nat) {s s':SharedT} {t t':Thread},goT tb p w m ann k s t=some (s',t')→topGo tb p w m ann k s.abs t=some (s'.abs,t')
  | 0,s,s',t,t',h=>by cases h;rfl
  | k+1,s,s',t,t',h=>by
    unfold goT at h
    unfold topGo
    cases e:through t with
    | true=>rw [e] at h;cases h
    | false =>
      rw [e] at h
      dsimp only at h ⊢
      cases e2:stepOk m ann t with
      | false=>rw [e2] at h;cases h
      | true =>
        rw [e2] at h
        dsimp only at h ⊢
        cases e3:stepT (denote tb) p w s t with
        | none=>rw [e3] at h;cases h
        | some st =>
          obtain ⟨s2,t2⟩:=st
          rw [e3] at h
          rw [stepT_spec e3]
          exact Aaj k h
theorem ZX {p:Program} {w:World} {N:Nat} {α:Type} {F:Shared→α} {g:α} (e:opening p=plainProg p.main.scope.names) (hN:Nat.ble 600 N=true) (f:∀ s,fenceModules? p s=some s)
    (h:∀ os,∃ r:Shared,topRun treeTable p w (BL w os).heap.objs.size ((BL w os).heap.nsMap mainGlobals "__annotations__") N (BL w os) (topStub p)=some r∧stays p (BL w os) r=true∧F r=g)
    (h0:∀ os,((BL w os).heap.isNs mainGlobals && (BL w os).gens.size == 0)=true):(openEnds treeTable p w N).map F=some g:=by
  have hb:=boot_open e hN f w
  unfold openEnds
  cases q:fencedOpening treeTable p w N with
  | none=>rw [q] at hb;cases hb
  | some s =>
    rw [q] at hb
    have hs:s=BL w s.os:=by
      obtain ⟨a,b,c,d,o⟩:=s
      simp only [Option.map_some,Option.some.injEq,Prod.mk.injEq] at hb
      obtain ⟨rfl,rfl,rfl,rfl⟩:=hb
      rfl
    generalize s.os=o at hs
    subst hs
    show (topFrom treeTable p w N (BL w o)).map F=some g
    unfold topFrom
    rw [h0 o]
    obtain ⟨r,hr,h1,h2⟩:=h o
    unfold stays at h1
    dsimp only
    rw [hr]
    show (match staticsOk (importedModules p.main.body) (BL w o).heap r.heap && namesBound p r.heap && gensDone r && laidKept (BL w o).heap r.heap with
      | true=>some r
      | false=>none).map F=some g
    rw [h1]
    exact congrArg some h2
theorem AaK {p:Program} {w:World} {N:Nat} {α β:Type} {F:Shared→α} {G:Shared→β} {f':α} {g':β} {TL:OsState→Option SharedT} (e:opening p=plainProg p.main.scope.names) (hN:Nat.ble 600 N=true) (f:∀ s,fenceModules? p s=some s)
    (hr:∀ os r,TL os=some r→topRun treeTable p w (BL w os).heap.objs.size ((BL w os).heap.nsMap mainGlobals "__annotations__") N (BL w os) (topStub p)=some r.abs)
    (h1:∀ os,(TL os).map (fun r=>stays p (BL w os) r.abs)=some true) (h2:∀ os,(TL os).map (fun r=>F r.abs)=some f') (h3:∀ os,(TL os).map (fun r=>G r.abs)=some g')
    (h0:∀ os,((BL w os).heap.isNs mainGlobals && (BL w os).gens.size == 0)=true):(openEnds treeTable p w N).map (fun s=>(F s,G s))=some (f',g') :=
  ZX (F:=fun s=>(F s,G s)) e hN f (fun os=>by
    have a:=h1 os
    have b:=h2 os
    have c:=h3 os
    have d:=hr os
    cases q:TL os with
    | none=>rw [q] at a;cases a
    | some r =>
      rw [q] at a b c
      simp only [Option.map_some,Option.some.injEq] at a b c
      exact ⟨_,d r q,a,by rw [b,c]⟩) h0
end My
set_option maxRecDepth 1000000
set_option maxHeartbeats 0
namespace My
open PySem PySem.W
noncomputable def tp (i:Nat):Stmt:=PySem.Challenge.pw_formcycle_k41_products_walk.main.body.getD i (.Pass ⟨0,0,0,0⟩)
noncomputable def fA (s:Stmt):Arguments:=match s with
  | .FunctionDef _ a _ _ _ _ _ _ _ _=>a
  | _=>⟨[],[],none,[],[],none,[]⟩
noncomputable def fB (s:Stmt):List Stmt:=match s with
  | .FunctionDef _ _ b _ _ _ _ _ _ _=>b
  | _=>[]
noncomputable def fS (s:Stmt):Scope:=match s with
  | .FunctionDef _ _ _ _ _ _ c _ _ _=>c
  | _=>⟨.function,[],false,false,[]⟩
noncomputable def inC (s:Stmt) (j:Nat):Stmt:=match s with
  | .ClassDef _ _ _ b _ _ _ _ _ _ _=>b.getD j (.Pass ⟨0,0,0,0⟩)
  | _=>.Pass ⟨0,0,0,0⟩
noncomputable section
noncomputable abbrev O:=Obj
noncomputable abbrev sT (s:String) (t:Nat):Value:=.str (.ofString s) t
noncomputable abbrev iZ (n:Int):Value:=.int n 0
noncomputable abbrev dE (P:Params) (s:String) (t:Nat) (v:Value):DictEntry:=.mk (PyData.keyHash P (.ofString s)) (.str (.ofString s) t) v
noncomputable abbrev fO (n q:String) (w:Stmt) (m:String) (t c:Nat):Obj:=.mk (.type "function") none (Data.func (FuncData.mk (.ofString n) (.ofString q) (fA w) (.stmts (fB w)) (fS w) 3 [] .none .none .none (.str (.ofString m) t) none (.ref c) .none 0)) #[]
noncomputable abbrev tO (a:Array Value):Obj:=.mk (.type "tuple") none (Data.seq a) #[]
noncomputable abbrev cO (a:Array Value):Obj:=.mk (.type "code") none (Data.fields a) #[]
noncomputable abbrev nO (a:Array Value):Obj:=.mk .none none (Data.fields a) #[]
noncomputable abbrev mO (a:Array DictEntry):Obj:=.mk (.type "dict") none (Data.dict a) #[]
noncomputable abbrev bO (a:Array Value):Obj:=.mk (.type "builtin_function_or_method") none (Data.fields a) #[]
noncomputable abbrev Lf (o:Obj):BT:=.node o .nil .nil
noncomputable abbrev Nd (o:Obj) (l r:BT):BT:=.node o l r
noncomputable abbrev sF (t:Nat):Value:=.str (.ofString "/claim/cut.py") t
noncomputable def tE:Obj:=.mk (.type "tuple") none (Data.seq #[]) #[]
noncomputable abbrev cF (n q:String) (a l k r t:Nat):Obj:=.mk (.type "code") none (Data.fields #[.str (.ofString n) a,.str (.ofString q) (a+1),.str (.ofString "/claim/cut.py") (a+2),.int l 0,.int k 0,.int 0 0,.int 0 0,.int 3 0,.ref r,.bool true,.int 181 0,.ref (r+1),.none,.ref (r+2),.ref (r+3),.ref (r+4),.int t 0,.int l 0,.str (.ofString "/claim/cut.py") (t+1)]) #[]
noncomputable abbrev pO (n q:String) (w:Stmt) (c:Nat):Obj:=.mk .none none (Data.func (FuncData.mk (.ofString n) (.ofString q) (fA w) (.stmts (fB w)) (fS w) 3 [] .none .none .none .none none (.ref c) .none 0)) #[]
noncomputable abbrev rO (c l:Nat) (m:String) (t:Nat):Obj:=.mk (.type "frame") none Data.plain #[some (.ref c),some (.ref 3),some (.ref l),none,some (.str (.ofString m) t),none,some (.ref 0)]
noncomputable abbrev sO (c:Nat):Obj:=.mk (.type "super") none (Data.fields #[.ref c,.ref c,.ref c]) #[]
noncomputable abbrev dO (a:Array DictEntry) (n:Nat):Obj:=.mk (.type "dict") none (Data.dict a n) #[]
noncomputable abbrev xO (n:String) (b c d e t u:Nat):Obj:=.mk (.type "type") none (Data.cls (ClassData.mk (.ofString n) [.ref b] [.ref c,.ref b,.type "ValueError",.type "Exception",.type "BaseException",.type "object"] d (.ofString n) true [] [] false none false)) #[some (.ref e),none,some (.str (.ofString n) t),some (.str (.ofString n) u),some (.builtin "ValueError.__new__"),some (.bool true)]
noncomputable def o2:O:=.mk .none none (Data.dict #[]) #[]
noncomputable def o3 (P:Params):O:=dO #[dE P "__name__" 165 (sT "law_formcycle_k41_products_walk" 832),dE P "__doc__" 166 .none,dE P "__package__" 167 .none,dE P "__loader__" 168 (.builtin "__main__.__loader__#opaque"),dE P "__spec__" 169 .none,dE P "__annotations__" 170 (.ref 6),dE P "__builtins__" 171 (.ref 4),dE P "__file__" 173 (sF 172),dE P "__cached__" 174 .none,dE P "_wall" 193 (.ref 21),dE P "FormError" 213 (.ref 31),dE P "NoTurn" 238 (.ref 51),dE P "NoShape" 263 (.ref 70),dE P "TooGreat" 290 (.ref 89),dE P "NoRoot" 315 (.ref 108),dE P "Apart" 331 (.ref 120),dE P "NotPlain" 356 (.ref 139),dE P "divisor" 367 (.ref 148),dE P "shares" 378 (.ref 155),dE P "row_less" 387 (.ref 162),dE P "root" 396 (.ref 169),dE P "is_square" 404 (.ref 176),dE P "check_at_most" 412 (.ref 183),dE P "SAME" 419 (.ref 184),dE P "is_turn" 426 (.ref 191),dE P "check_turn" 433 (.ref 198),dE P "led" 441 (.ref 205),dE P "put_behind" 449 (.ref 212),dE P "back" 456 (.ref 219),dE P "measure" 465 (.ref 226),dE P "value" 475 (.ref 233),dE P "content" 482 (.ref 240),dE P "moved" 492 (.ref 247),dE P "middle" 502 (.ref 254),dE P "shape" 510 (.ref 261),dE P "check_bowl" 519 (.ref 268),dE P "stands_least" 529 (.ref 275),dE P "settled" 538 (.ref 282),dE P "turn_lower" 546 (.ref 289),dE P "MOST_MEASURE" 550 (.int 4000 549),dE P "check_saddle" 557 (.ref 296),dE P "stands_level" 566 (.ref 303),dE P "turn_behind" 577 (.ref 310),dE P "stop_behind" 586 (.ref 317),dE P "eased" 595 (.ref 324),dE P "stops_round" 606 (.ref 331),dE P "lowered" 613 (.ref 338),dE P "Shape" 670 (.ref 376),dE P "Bowl" 694 (.ref 397),dE P "Saddle" 718 (.ref 416),dE P "shape_of" 725 (.ref 425),dE P "product" 738 (.ref 432),dE P "check_pair" 748 (.ref 439),dE P "check_plain" 755 (.ref 446),dE P "half_of_middles" 763 (.ref 453),dE P "common_shares" 773 (.ref 460),dE P "joint_form" 788 (.ref 467),dE P "joint_rows" 805 (.ref 474),dE P "rows_led" 811 (.ref 479),dE P "joined" 820 (.ref 486),dE P "joined_by" 831 (.ref 493),dE P "_law_cell" 841 (.ref 500),dE P "_law_whole" 848 (.ref 507),dE P "_law_wholes" 854 (.ref 512),dE P "_law_bar" 861 (.ref 519),dE P "_law_root" 869 (.ref 526),dE P "_law_flat" 878 (.ref 533),dE P "_law_level" 886 (.ref 540),dE P "_law_behind" 898 (.ref 547),dE P "_law_bowl" 909 (.ref 554),dE P "_law_least" 919 (.ref 561),dE P "_law_rest" 927 (.ref 568),dE P "_law_turn" 941 (.ref 575),dE P "_law_value" 950 (.ref 582),dE P "_law_moved" 963 (.ref 589),dE P "_law_sum" 976 (.ref 596),dE P "_law_united" 982 (.ref 601),dE P "_law_pair" 992 (.ref 608),dE P "_law_joined" 998 (.ref 613),dE P "_law_walks" 1015 (.ref 620),dE P "law" 1021 (.ref 625)] 81
noncomputable def o17:O:=tO #[sT "k" 190]
noncomputable def o20:O:=cF "_wall" "_wall" 187 1 1 15 191
noncomputable def o21:O:=fO "_wall" "_wall" (tp 0) "__main__" 164 20
noncomputable def o22:O:=tO #[.type "ValueError"]
noncomputable def o30 (P:Params):O:=dO #[dE P "__module__" 203 (sT "formcycle.errors" 194),dE P "__firstlineno__" 207 (.int 5 206),dE P "__static_attributes__" 208 (.ref 29),dE P "__weakref__" 210 (.ref 32),dE P "__doc__" 211 .none] 3
noncomputable def o31:O:=.mk (.type "type") none (Data.cls (ClassData.mk (.ofString "FormError") [.type "ValueError"] [.ref 31,.type "ValueError",.type "Exception",.type "BaseException",.type "object"] 30 (.ofString "FormError") Bool.true [] [.ref 51,.ref 70,.ref 89,.ref 108,.ref 120,.ref 139] Bool.false none Bool.false)) #[some (.ref 22),none,some (sT "FormError" 196),some (sT "FormError" 204),some (.builtin "ValueError.__new__"),some (.bool true)]
noncomputable def o32:O:=.mk (.type "getset_descriptor") none (Data.fields #[sT "__weakref__" 209,.ref 31,.builtin "ExceptionGroup.__weakref__",.none]) #[]
noncomputable def o35:O:=tO #[.ref 31]
noncomputable def o44:O:=tO #[sT "self" 229,sT "turn" 230]
noncomputable def o47:O:=cF "__init__" "NoTurn.__init__" 226 9 2 42 231
noncomputable def o48:O:=fO "__init__" "NoTurn.__init__" (inC (tp 3) 0) "formcycle.errors" 194 47
noncomputable def o49:O:=tO #[sT "turn" 234]
noncomputable def o50 (P:Params):O:=dO #[dE P "__module__" 221 (sT "formcycle.errors" 194),dE P "__firstlineno__" 225 (.int 7 224),dE P "__init__" 233 (.ref 48),dE P "__static_attributes__" 235 (.ref 49),dE P "__doc__" 236 .none] 2
noncomputable def o51:O:=xO "NoTurn" 31 51 50 35 214 222
noncomputable def o54:O:=tO #[.ref 31]
noncomputable def o63:O:=tO #[sT "self" 254,sT "form" 255]
noncomputable def o66:O:=cF "__init__" "NoShape.__init__" 251 13 2 61 256
noncomputable def o67:O:=fO "__init__" "NoShape.__init__" (inC (tp 4) 0) "formcycle.errors" 194 66
noncomputable def o68:O:=tO #[sT "form" 259]
noncomputable def o69 (P:Params):O:=dO #[dE P "__module__" 246 (sT "formcycle.errors" 194),dE P "__firstlineno__" 250 (.int 11 249),dE P "__init__" 258 (.ref 67),dE P "__static_attributes__" 260 (.ref 68),dE P "__doc__" 261 .none] 2
noncomputable def o70:O:=xO "NoShape" 31 70 69 54 239 247
noncomputable def o73:O:=tO #[.ref 31]
noncomputable def o82:O:=tO #[sT "self" 279,sT "number" 280,sT "most" 281]
noncomputable def o85:O:=cF "__init__" "TooGreat.__init__" 276 17 3 80 282
noncomputable def o86:O:=fO "__init__" "TooGreat.__init__" (inC (tp 5) 0) "formcycle.errors" 194 85
noncomputable def o87:O:=tO #[sT "most" 285,sT "number" 286]
noncomputable def o88 (P:Params):O:=dO #[dE P "__module__" 271 (sT "formcycle.errors" 194),dE P "__firstlineno__" 275 (.int 15 274),dE P "__init__" 284 (.ref 86),dE P "__static_attributes__" 287 (.ref 87),dE P "__doc__" 288 .none] 2
noncomputable def o89:O:=xO "TooGreat" 31 89 88 73 264 272
noncomputable def o92:O:=tO #[.ref 31]
noncomputable def AeJ:O:=tO #[sT "self" 306,sT "number" 307]
noncomputable def Afc:O:=cF "__init__" "NoRoot.__init__" 303 22 2 99 308
noncomputable def Aev:O:=fO "__init__" "NoRoot.__init__" (inC (tp 6) 0) "formcycle.errors" 194 104
noncomputable def AeN:O:=tO #[sT "number" 311]
noncomputable def Afo (P:Params):O:=dO #[dE P "__module__" 298 (sT "formcycle.errors" 194),dE P "__firstlineno__" 302 (.int 20 301),dE P "__init__" 310 (.ref 105),dE P "__static_attributes__" 312 (.ref 106),dE P "__doc__" 313 .none] 2
noncomputable def AeQ:O:=xO "NoRoot" 31 108 107 92 291 299
noncomputable def o111:O:=tO #[.ref 31]
noncomputable def Ae5 (P:Params):O:=dO #[dE P "__module__" 323 (sT "formcycle.errors" 194),dE P "__firstlineno__" 327 (.int 24 326),dE P "__static_attributes__" 328 (.ref 118),dE P "__doc__" 329 .none] 2
noncomputable def AeK:O:=xO "Apart" 31 120 119 111 316 324
noncomputable def Aeo:O:=tO #[.ref 31]
noncomputable def Aed:O:=tO #[sT "self" 347,sT "form" 348]
noncomputable def Aef:O:=cF "__init__" "NotPlain.__init__" 344 28 2 130 349
noncomputable def AeZ:O:=fO "__init__" "NotPlain.__init__" (inC (tp 8) 0) "formcycle.errors" 194 135
noncomputable def Aey:O:=tO #[sT "form" 352]
noncomputable def Aej (P:Params):O:=dO #[dE P "__module__" 339 (sT "formcycle.errors" 194),dE P "__firstlineno__" 343 (.int 26 342),dE P "__init__" 351 (.ref 136),dE P "__static_attributes__" 353 (.ref 137),dE P "__doc__" 354 .none] 2
noncomputable def AeE:O:=xO "NotPlain" 31 139 138 123 332 340
noncomputable def Ahe:O:=tO #[sT "one" 362,sT "other" 363,sT "rest" 364]
noncomputable def Ai3:O:=cF "divisor" "divisor" 359 31 2 142 365
noncomputable def AhC:O:=fO "divisor" "divisor" (tp 10) "formcycle.wholes" 357 147
noncomputable def AfW:O:=tO #[sT "one" 371,sT "other" 372,sT "row" 373,sT "lower" 374,sT "rest" 375]
noncomputable def Aib:O:=cF "shares" "shares" 368 37 2 149 376
noncomputable def AgO:O:=fO "shares" "shares" (tp 11) "formcycle.wholes" 357 154
noncomputable def Agt:O:=tO #[sT "row" 382,sT "lower" 383,sT "often" 384]
noncomputable def AgE:O:=cF "row_less" "row_less" 379 47 3 156 385
noncomputable def AhN:O:=fO "row_less" "row_less" (tp 12) "formcycle.wholes" 357 161
noncomputable def Aia:O:=tO #[sT "number" 391,sT "guess" 392,sT "better" 393]
noncomputable def AgR:O:=cF "root" "root" 388 49 1 163 394
noncomputable def Ah9:O:=fO "root" "root" (tp 13) "formcycle.wholes" 357 168
noncomputable def Ah6:O:=tO #[sT "number" 400,sT "side" 401]
noncomputable def Af9:O:=cF "is_square" "is_square" 397 60 1 170 402
noncomputable def AgT:O:=fO "is_square" "is_square" (tp 14) "formcycle.wholes" 357 175
noncomputable def AiA:O:=tO #[sT "number" 408,sT "most" 409]
noncomputable def Ag2:O:=cF "check_at_most" "check_at_most" 405 65 2 177 410
noncomputable def Aip:O:=fO "check_at_most" "check_at_most" (tp 15) "formcycle.wholes" 357 182
noncomputable def Ahq:O:=tO #[.int 1 415,.int 0 416,.int 0 417,.int 1 418]
noncomputable def AgZ:O:=tO #[sT "turn" 423]
noncomputable def AiG:O:=cF "is_turn" "is_turn" 420 70 1 185 424
noncomputable def AiE:O:=fO "is_turn" "is_turn" (tp 18) "formcycle.turns" 413 190
noncomputable def AgM:O:=tO #[sT "turn" 430]
noncomputable def Agx:O:=cF "check_turn" "check_turn" 427 72 1 192 431
noncomputable def Aix:O:=fO "check_turn" "check_turn" (tp 19) "formcycle.turns" 413 197
noncomputable def AhW:O:=tO #[sT "turn" 437,sT "point" 438]
noncomputable def Aiw:O:=cF "led" "led" 434 75 2 199 439
noncomputable def Af1:O:=fO "led" "led" (tp 20) "formcycle.turns" 413 204
noncomputable def Ago:O:=tO #[sT "one" 445,sT "other" 446]
noncomputable def Aio:O:=cF "put_behind" "put_behind" 442 78 2 206 447
noncomputable def Agm:O:=fO "put_behind" "put_behind" (tp 21) "formcycle.turns" 413 211
noncomputable def AiM:O:=tO #[sT "turn" 453]
noncomputable def AhZ:O:=cF "back" "back" 450 80 1 213 454
noncomputable def Aje:O:=fO "back" "back" (tp 22) "formcycle.turns" 413 218
noncomputable def AgB:O:=tO #[sT "form" 462]
noncomputable def AhG:O:=cF "measure" "measure" 459 84 1 220 463
noncomputable def Aho:O:=fO "measure" "measure" (tp 24) "formcycle.forms" 457 225
noncomputable def AiI:O:=tO #[sT "form" 469,sT "point" 470,sT "x" 471,sT "y" 472]
noncomputable def AiC:O:=cF "value" "value" 466 86 2 227 473
noncomputable def AiQ:O:=fO "value" "value" (tp 25) "formcycle.forms" 457 232
noncomputable def Ail:O:=tO #[sT "form" 479]
noncomputable def AiK:O:=cF "content" "content" 476 90 1 234 480
noncomputable def AiD:O:=fO "content" "content" (tp 26) "formcycle.forms" 457 239
noncomputable def Ag9:O:=tO #[sT "form" 486,sT "turn" 487,sT "left" 488,sT "right" 489]
noncomputable def AgJ:O:=cF "moved" "moved" 483 92 2 241 490
noncomputable def AfJ:O:=fO "moved" "moved" (tp 27) "formcycle.forms" 457 246
noncomputable def Ag3:O:=tO #[sT "form" 496,sT "left" 497,sT "right" 498,sT "crossed" 499]
noncomputable def AfD:O:=cF "middle" "middle" 493 97 3 248 500
noncomputable def AfI:O:=fO "middle" "middle" (tp 28) "formcycle.forms" 457 253
noncomputable def Af4:O:=tO #[sT "form" 506,sT "number" 507]
noncomputable def Agp:O:=cF "shape" "shape" 503 100 1 255 508
noncomputable def Af6:O:=fO "shape" "shape" (tp 29) "formcycle.forms" 457 260
noncomputable def Age:O:=tO #[sT "form" 516]
noncomputable def Agu:O:=cF "check_bowl" "check_bowl" 513 110 1 262 517
noncomputable def AfF:O:=fO "check_bowl" "check_bowl" (tp 31) "formcycle.bowls" 511 267
noncomputable def AiY:O:=tO #[sT "form" 523,sT "a" 524,sT "b" 525,sT "c" 526]
noncomputable def AhK:O:=cF "stands_least" "stands_least" 520 113 1 269 527
noncomputable def Ai0:O:=fO "stands_least" "stands_least" (tp 32) "formcycle.bowls" 511 274
noncomputable def AgP:O:=tO #[sT "form" 533,sT "turn" 534,sT "lowering" 535]
noncomputable def AhB:O:=cF "settled" "settled" 530 120 1 276 536
noncomputable def AhF:O:=fO "settled" "settled" (tp 33) "formcycle.bowls" 511 281
noncomputable def Ah8:O:=tO #[sT "form" 542,sT "often" 543]
noncomputable def Ahf:O:=cF "turn_lower" "turn_lower" 539 128 1 283 544
noncomputable def Ahu:O:=fO "turn_lower" "turn_lower" (tp 34) "formcycle.bowls" 511 288
noncomputable def AgG:O:=tO #[sT "form" 554]
noncomputable def Ahc:O:=cF "check_saddle" "check_saddle" 551 135 1 290 555
noncomputable def AgL:O:=fO "check_saddle" "check_saddle" (tp 37) "formcycle.saddles" 547 295
noncomputable def Agy:O:=tO #[sT "form" 561,sT "far" 562,sT "b" 563]
noncomputable def Aiz:O:=cF "stands_level" "stands_level" 558 139 2 297 564
noncomputable def Aid:O:=fO "stands_level" "stands_level" (tp 38) "formcycle.saddles" 547 302
noncomputable def Agb:O:=tO #[sT "form" 570,sT "top" 571,sT "b" 572,sT "c" 573,sT "d" 574]
noncomputable def Aiu:O:=cF "turn_behind" "turn_behind" 567 142 2 304 575
noncomputable def AiX:O:=fO "turn_behind" "turn_behind" (tp 39) "formcycle.saddles" 547 309
noncomputable def Agg:O:=tO #[sT "stop" 581,sT "top" 582,sT "turn" 583]
noncomputable def AgI:O:=cF "stop_behind" "stop_behind" 578 147 2 311 584
noncomputable def Ahv:O:=fO "stop_behind" "stop_behind" (tp 40) "formcycle.saddles" 547 316
noncomputable def Aiq:O:=tO #[sT "form" 590,sT "far" 591,sT "stop" 592]
noncomputable def AiH:O:=cF "eased" "eased" 587 150 1 318 593
noncomputable def Aha:O:=fO "eased" "eased" (tp 41) "formcycle.saddles" 547 323
noncomputable def Ah5:O:=tO #[sT "form" 599,sT "far" 600,sT "first" 601,sT "stops" 602,sT "stop" 603]
noncomputable def Ah1:O:=cF "stops_round" "stops_round" 596 157 1 325 604
noncomputable def AiU:O:=fO "stops_round" "stops_round" (tp 42) "formcycle.saddles" 547 330
noncomputable def Ahx:O:=tO #[sT "form" 610]
noncomputable def AiZ:O:=cF "lowered" "lowered" 607 167 1 332 611
noncomputable def Ag8:O:=fO "lowered" "lowered" (tp 43) "formcycle.saddles" 547 337
noncomputable def Af3:O:=tO #[sT "self" 631,sT "form" 632,sT "lowest" 633]
noncomputable def AgK:O:=cF "__init__" "Shape.__init__" 628 173 3 346 634
noncomputable def AgX:O:=fO "__init__" "Shape.__init__" (inC (tp 45) 0) "formcycle.shapes" 614 351
noncomputable def Agh:O:=tO #[sT "self" 640]
noncomputable def AgW:O:=cF "least" "Shape.least" 637 178 1 353 641
noncomputable def Ahp:O:=fO "least" "Shape.least" (inC (tp 45) 1) "formcycle.shapes" 614 358
noncomputable def AiO:O:=tO #[sT "self" 647,sT "turn" 648]
noncomputable def Ahi:O:=cF "leaves" "Shape.leaves" 644 181 2 360 649
noncomputable def Agi:O:=fO "leaves" "Shape.leaves" (inC (tp 45) 2) "formcycle.shapes" 614 365
noncomputable def AhT:O:=tO #[sT "self" 655,sT "other" 656]
noncomputable def AiW:O:=cF "way_to" "Shape.way_to" 652 184 2 367 657
noncomputable def AfX:O:=fO "way_to" "Shape.way_to" (inC (tp 45) 3) "formcycle.shapes" 614 372
noncomputable def Aig:O:=tO #[sT "form" 660,sT "lowest" 661,sT "measure" 662]
noncomputable def Agv (P:Params):O:=dO #[dE P "__module__" 623 (sT "formcycle.shapes" 614),dE P "__firstlineno__" 627 (.int 171 626),dE P "__init__" 636 (.ref 352),dE P "least" 643 (.ref 359),dE P "leaves" 651 (.ref 366),dE P "way_to" 659 (.ref 373),dE P "__static_attributes__" 663 (.ref 374),dE P "__dict__" 665 (.ref 377),dE P "__weakref__" 667 (.ref 378),dE P "__doc__" 668 .none] 4
noncomputable def Agq:O:=.mk (.type "type") none (Data.cls (ClassData.mk (.ofString "Shape") [.type "object"] [.ref 376,.type "object"] 375 (.ofString "Shape") Bool.true [] [.ref 397,.ref 416] Bool.false none Bool.false)) #[none,none,some (sT "Shape" 616),some (sT "Shape" 624),some (.builtin "object.__new__"),some (.bool true)]
noncomputable def o377:O:=.mk (.type "getset_descriptor") none (Data.fields #[sT "__dict__" 664,.ref 376,.builtin "function.__dict__",.builtin "function.__dict__#set"]) #[]
noncomputable def Ags:O:=.mk (.type "getset_descriptor") none (Data.fields #[sT "__weakref__" 666,.ref 376,.builtin "ExceptionGroup.__weakref__",.none]) #[]
noncomputable def Af2:O:=tO #[.ref 376]
noncomputable def AgY:O:=tO #[sT "self" 686,sT "form" 687]
noncomputable def AfZ:O:=cF "__init__" "Bowl.__init__" 683 188 2 388 688
noncomputable def AiJ:O:=fO "__init__" "Bowl.__init__" (inC (tp 46) 0) "formcycle.shapes" 614 393
noncomputable def Aim (P:Params):O:=dO #[dE P "__module__" 678 (sT "formcycle.shapes" 614),dE P "__firstlineno__" 682 (.int 186 681),dE P "__init__" 690 (.ref 394),dE P "__static_attributes__" 691 (.ref 395),dE P "__doc__" 692 .none] 2
noncomputable def Aga:O:=.mk (.type "type") none (Data.cls (ClassData.mk (.ofString "Bowl") [.ref 376] [.ref 397,.ref 376,.type "object"] 396 (.ofString "Bowl") Bool.true [] [] Bool.false none Bool.false)) #[some (.ref 381),none,some (sT "Bowl" 671),some (sT "Bowl" 679),some (.builtin "object.__new__"),some (.bool true)]
noncomputable def o400:O:=tO #[.ref 376]
noncomputable def Ahs:O:=tO #[sT "self" 710,sT "form" 711]
noncomputable def Agn:O:=cF "__init__" "Saddle.__init__" 707 192 2 407 712
noncomputable def Agl:O:=fO "__init__" "Saddle.__init__" (inC (tp 47) 0) "formcycle.shapes" 614 412
noncomputable def AfQ (P:Params):O:=dO #[dE P "__module__" 702 (sT "formcycle.shapes" 614),dE P "__firstlineno__" 706 (.int 190 705),dE P "__init__" 714 (.ref 413),dE P "__static_attributes__" 715 (.ref 414),dE P "__doc__" 716 .none] 2
noncomputable def AfU:O:=.mk (.type "type") none (Data.cls (ClassData.mk (.ofString "Saddle") [.ref 376] [.ref 416,.ref 376,.type "object"] 415 (.ofString "Saddle") Bool.true [] [] Bool.false none Bool.false)) #[some (.ref 400),none,some (sT "Saddle" 695),some (sT "Saddle" 703),some (.builtin "object.__new__"),some (.bool true)]
noncomputable def AjN:O:=tO #[sT "form" 722]
noncomputable def Aj7:O:=cF "shape_of" "shape_of" 719 194 1 419 723
noncomputable def AjS:O:=fO "shape_of" "shape_of" (tp 48) "formcycle.shapes" 614 424
noncomputable def Ak0:O:=tO #[sT "one" 731,sT "other" 732,sT "common" 733,sT "form" 734,sT "lowest" 735]
noncomputable def Ajn:O:=cF "product" "product" 728 199 2 426 736
noncomputable def AjW:O:=fO "product" "product" (tp 50) "formcycle.products" 726 431
noncomputable def Ajv:O:=tO #[sT "one" 742,sT "other" 743,sT "first" 744,sT "second" 745]
noncomputable def Akg:O:=cF "check_pair" "check_pair" 739 205 2 433 746
noncomputable def Aj8:O:=fO "check_pair" "check_pair" (tp 51) "formcycle.products" 726 438
noncomputable def Alh:O:=tO #[sT "form" 752]
noncomputable def Akj:O:=cF "check_plain" "check_plain" 749 212 1 440 753
noncomputable def Akz:O:=fO "check_plain" "check_plain" (tp 52) "formcycle.products" 726 445
noncomputable def Ajz:O:=tO #[sT "one" 759,sT "other" 760]
noncomputable def Ak1:O:=cF "half_of_middles" "half_of_middles" 756 215 2 447 761
noncomputable def AlG:O:=fO "half_of_middles" "half_of_middles" (tp 53) "formcycle.products" 726 452
noncomputable def Aln:O:=tO #[sT "one" 767,sT "other" 768,sT "firsts" 769,sT "whole" 770]
noncomputable def Ak9:O:=cF "common_shares" "common_shares" 764 217 2 454 771
noncomputable def Aly:O:=fO "common_shares" "common_shares" (tp 54) "formcycle.products" 726 459
noncomputable def Ajj:O:=tO #[sT "one" 777,sT "other" 778,sT "common" 779,sT "g" 780,sT "d" 781,sT "e" 782,sT "first" 783,sT "more" 784,sT "middle" 785]
noncomputable def Ajh:O:=cF "joint_form" "joint_form" 774 221 3 461 786
noncomputable def Alx:O:=fO "joint_form" "joint_form" (tp 55) "formcycle.products" 726 466
noncomputable def AlH:O:=tO #[sT "one" 792,sT "other" 793,sT "g" 794,sT "middle" 795,sT "a" 796,sT "b" 797,sT "d" 798,sT "e" 799,sT "s" 800,sT "last" 801,sT "upper" 802]
noncomputable def AlC:O:=cF "joint_rows" "joint_rows" 789 229 4 468 803
noncomputable def AlI:O:=fO "joint_rows" "joint_rows" (tp 56) "formcycle.products" 726 473
noncomputable def AkG:O:=cO #[sT "rows_led" 806,sT "rows_led" 807,sF 808,iZ 238,iZ 2,iZ 0,iZ 0,iZ 3,.ref 475,.bool true,iZ 181,.ref 476,.none,.none,.none,.ref 477,iZ 809,iZ 238,sF 810]
noncomputable def Akc:O:=fO "rows_led" "rows_led" (tp 57) "formcycle.products" 726 478
noncomputable def AkT:O:=tO #[sT "rows" 815,sT "one" 816,sT "other" 817]
noncomputable def Akp:O:=cF "joined" "joined" 812 241 3 480 818
noncomputable def AkX:O:=fO "joined" "joined" (tp 58) "formcycle.products" 726 485
noncomputable def Alz:O:=tO #[sT "row" 824,sT "one" 825,sT "other" 826,sT "left" 827,sT "right" 828]
noncomputable def Ajx:O:=cF "joined_by" "joined_by" 821 243 3 487 829
noncomputable def Ajm:O:=fO "joined_by" "joined_by" (tp 59) "formcycle.products" 726 492
noncomputable def Ajk:O:=tO #[sT "_law_script" 837,sT "_law_k" 838]
noncomputable def Alm:O:=cF "_law_cell" "_law_cell" 834 248 2 494 839
noncomputable def Alp:O:=fO "_law_cell" "_law_cell" (tp 61) "law_formcycle_k41_products_walk" 832 499
noncomputable def Aku:O:=tO #[sT "_law_found" 845]
noncomputable def Aji:O:=cF "_law_whole" "_law_whole" 842 252 1 501 846
noncomputable def Aj2:O:=fO "_law_whole" "_law_whole" (tp 62) "law_formcycle_k41_products_walk" 832 506
noncomputable def Ale:O:=cO #[sT "_law_wholes" 849,sT "_law_wholes" 850,sF 851,iZ 254,iZ 2,iZ 0,iZ 0,iZ 3,.ref 508,.bool true,iZ 181,.ref 509,.none,.none,.none,.ref 510,iZ 852,iZ 254,sF 853]
noncomputable def AkA:O:=fO "_law_wholes" "_law_wholes" (tp 63) "law_formcycle_k41_products_walk" 832 511
noncomputable def Ak2:O:=tO #[sT "_law_form" 858]
noncomputable def AkO:O:=cF "_law_bar" "_law_bar" 855 258 1 513 859
noncomputable def AjM:O:=fO "_law_bar" "_law_bar" (tp 64) "law_formcycle_k41_products_walk" 832 518
noncomputable def Alb:O:=tO #[sT "_law_number" 865,sT "_law_near" 866]
noncomputable def Alr:O:=cF "_law_root" "_law_root" 862 260 1 520 867
noncomputable def Alj:O:=fO "_law_root" "_law_root" (tp 65) "law_formcycle_k41_products_walk" 832 525
noncomputable def AjZ:O:=tO #[sT "_law_form" 873,sT "_law_bar_here" 874,sT "_law_far" 875]
noncomputable def AjV:O:=cF "_law_flat" "_law_flat" 870 265 1 527 876
noncomputable def Aj0:O:=fO "_law_flat" "_law_flat" (tp 66) "law_formcycle_k41_products_walk" 832 532
noncomputable def AlE:O:=tO #[sT "_law_form" 882,sT "_law_far" 883]
noncomputable def AkZ:O:=cF "_law_level" "_law_level" 879 269 2 534 884
noncomputable def AjY:O:=fO "_law_level" "_law_level" (tp 67) "law_formcycle_k41_products_walk" 832 539
noncomputable def AjL:O:=tO #[sT "_law_form" 890,sT "_law_top" 891,sT "_law_a" 892,sT "_law_b" 893,sT "_law_c" 894,sT "_law_d" 895]
noncomputable def AjK:O:=cF "_law_behind" "_law_behind" 887 271 2 541 896
noncomputable def AkU:O:=fO "_law_behind" "_law_behind" (tp 68) "law_formcycle_k41_products_walk" 832 546
noncomputable def Ak4:O:=tO #[sT "_law_form" 902,sT "_law_a" 903,sT "_law_b" 904,sT "_law_c" 905,sT "_law_k" 906]
noncomputable def AkP:O:=cF "_law_bowl" "_law_bowl" 899 275 1 548 907
noncomputable def Ajr:O:=fO "_law_bowl" "_law_bowl" (tp 69) "law_formcycle_k41_products_walk" 832 553
noncomputable def AkW:O:=tO #[sT "_law_form" 913,sT "_law_far" 914,sT "_law_least_here" 915,sT "_law_now" 916]
noncomputable def AjE:O:=cF "_law_least" "_law_least" 910 283 1 555 917
noncomputable def Akd:O:=fO "_law_least" "_law_least" (tp 70) "law_formcycle_k41_products_walk" 832 560
noncomputable def AlF:O:=tO #[sT "_law_one" 923,sT "_law_other" 924]
noncomputable def AkH:O:=cF "_law_rest" "_law_rest" 920 295 2 562 925
noncomputable def Ak5:O:=fO "_law_rest" "_law_rest" (tp 71) "law_formcycle_k41_products_walk" 832 567
noncomputable def AkE:O:=tO #[sT "_law_first" 931,sT "_law_cells" 932,sT "_law_p" 933,sT "_law_q" 934,sT "_law_r" 935,sT "_law_s" 936,sT "_law_cell_here" 937,sT "_law_k" 938]
noncomputable def AjR:O:=cF "_law_turn" "_law_turn" 928 299 2 569 939
noncomputable def Ajq:O:=fO "_law_turn" "_law_turn" (tp 72) "law_formcycle_k41_products_walk" 832 574
noncomputable def Alo:O:=tO #[sT "_law_form" 945,sT "_law_x" 946,sT "_law_y" 947]
noncomputable def Ajw:O:=cF "_law_value" "_law_value" 942 305 3 576 948
noncomputable def Ak3:O:=fO "_law_value" "_law_value" (tp 73) "law_formcycle_k41_products_walk" 832 581
noncomputable def AlA:O:=tO #[sT "_law_form" 954,sT "_law_turn_here" 955,sT "_law_p" 956,sT "_law_q" 957,sT "_law_r" 958,sT "_law_s" 959,sT "_law_middle" 960]
noncomputable def AjT:O:=cF "_law_moved" "_law_moved" 951 307 2 583 961
noncomputable def Aj5:O:=fO "_law_moved" "_law_moved" (tp 74) "law_formcycle_k41_products_walk" 832 588
noncomputable def Alv:O:=tO #[sT "_law_script" 967,sT "_law_sort" 968,sT "_law_both" 969,sT "_law_size" 970,sT "_law_b" 971,sT "_law_rest_here" 972,sT "_law_bar_here" 973]
noncomputable def AjA:O:=cF "_law_sum" "_law_sum" 964 311 4 590 974
noncomputable def AkJ:O:=fO "_law_sum" "_law_sum" (tp 75) "law_formcycle_k41_products_walk" 832 595
noncomputable def o600:O:=cO #[sT "_law_united" 977,sT "_law_united" 978,sF 979,iZ 318,iZ 2,iZ 0,iZ 0,iZ 3,.ref 597,.bool true,iZ 181,.ref 598,.none,.none,.none,.ref 599,iZ 980,iZ 318,sF 981]
noncomputable def Akh:O:=fO "_law_united" "_law_united" (tp 76) "law_formcycle_k41_products_walk" 832 600
noncomputable def AjO:O:=tO #[sT "_law_forms" 986,sT "_law_way" 987,sT "_law_one" 988,sT "_law_other" 989]
noncomputable def Ajl:O:=cF "_law_pair" "_law_pair" 983 338 2 602 990
noncomputable def Aj3:O:=fO "_law_pair" "_law_pair" (tp 77) "law_formcycle_k41_products_walk" 832 607
noncomputable def Akv:O:=cO #[sT "_law_joined" 993,sT "_law_joined" 994,sF 995,iZ 347,iZ 3,iZ 0,iZ 0,iZ 3,.ref 609,.bool true,iZ 181,.ref 610,.none,.none,.none,.ref 611,iZ 996,iZ 347,sF 997]
noncomputable def Alf:O:=fO "_law_joined" "_law_joined" (tp 78) "law_formcycle_k41_products_walk" 832 612
noncomputable def Ako:O:=tO #[sT "_law_one" 1002,sT "_law_other" 1003,sT "_law_form" 1004,sT "_law_rows" 1005,sT "_law_x" 1006,sT "_law_y" 1007,sT "_law_z" 1008,sT "_law_j" 1009,sT "_law_spot" 1010,sT "_law_upper" 1011,sT "_law_lower" 1012]
noncomputable def AjC:O:=cF "_law_walks" "_law_walks" 999 351 4 614 1013
noncomputable def Als:O:=fO "_law_walks" "_law_walks" (tp 79) "law_formcycle_k41_products_walk" 832 619
noncomputable def AkN:O:=cO #[sT "law" 1016,sT "law" 1017,sF 1018,iZ 361,iZ 1,iZ 0,iZ 0,iZ 3,.ref 621,.bool true,iZ 181,.ref 622,.none,.none,.none,.ref 623,iZ 1019,iZ 361,sF 1020]
noncomputable def Alw:O:=fO "law" "law" (tp 80) "law_formcycle_k41_products_walk" 832 624
noncomputable def KK:Params→Frag :=
fun P=>(nat_lit 2,o2)::(nat_lit 3,o3 P)::(nat_lit 15,tE)::(nat_lit 17,o17)::(nat_lit 18,tE)::(nat_lit 20,o20)::(nat_lit 21,o21)::(nat_lit 22,o22)::(nat_lit 29,tE)::(nat_lit 30,o30 P)::(nat_lit 31,o31)::(nat_lit 32,o32)::(nat_lit 35,o35)::(nat_lit 42,tE)::(nat_lit 44,o44)::(nat_lit 45,tE)::(nat_lit 47,o47)::(nat_lit 48,o48)::(nat_lit 49,o49)::(nat_lit 50,o50 P)::(nat_lit 51,o51)::(nat_lit 54,o54)::(nat_lit 61,tE)::(nat_lit 63,o63)::(nat_lit 64,tE)::(nat_lit 66,o66)::(nat_lit 67,o67)::(nat_lit 68,o68)::(nat_lit 69,o69 P)::(nat_lit 70,o70)::(nat_lit 73,o73)::(nat_lit 80,tE)::(nat_lit 82,o82)::(nat_lit 83,tE)::(nat_lit 85,o85)::(nat_lit 86,o86)::(nat_lit 87,o87)::(nat_lit 88,o88 P)::(nat_lit 89,o89)::(nat_lit 92,o92)::(nat_lit 99,tE)::(nat_lit 101,AeJ)::(nat_lit 102,tE)::(nat_lit 104,Afc)::(nat_lit 105,Aev)::(nat_lit 106,AeN)::(nat_lit 107,Afo P)::(nat_lit 108,AeQ)::(nat_lit 111,o111)::(nat_lit 118,tE)::(nat_lit 119,Ae5 P)::(nat_lit 120,AeK)::(nat_lit 123,Aeo)::(nat_lit 130,tE)::(nat_lit 132,Aed)::(nat_lit 133,tE)::(nat_lit 135,Aef)::(nat_lit 136,AeZ)::(nat_lit 137,Aey)::(nat_lit 138,Aej P)::(nat_lit 139,AeE)::(nat_lit 142,tE)::(nat_lit 144,Ahe)::(nat_lit 145,tE)::(nat_lit 147,Ai3)::(nat_lit 148,AhC)::(nat_lit 149,tE)::(nat_lit 151,AfW)::(nat_lit 152,tE)::(nat_lit 154,Aib)::(nat_lit 155,AgO)::(nat_lit 156,tE)::(nat_lit 158,Agt)::(nat_lit 159,tE)::(nat_lit 161,AgE)::(nat_lit 162,AhN)::(nat_lit 163,tE)::(nat_lit 165,Aia)::(nat_lit 166,tE)::(nat_lit 168,AgR)::(nat_lit 169,Ah9)::(nat_lit 170,tE)::(nat_lit 172,Ah6)::(nat_lit 173,tE)::(nat_lit 175,Af9)::(nat_lit 176,AgT)::(nat_lit 177,tE)::(nat_lit 179,AiA)::(nat_lit 180,tE)::(nat_lit 182,Ag2)::(nat_lit 183,Aip)::(nat_lit 184,Ahq)::(nat_lit 185,tE)::(nat_lit 187,AgZ)::(nat_lit 188,tE)::(nat_lit 190,AiG)::(nat_lit 191,AiE)::(nat_lit 192,tE)::(nat_lit 194,AgM)::(nat_lit 195,tE)::(nat_lit 197,Agx)::(nat_lit 198,Aix)::(nat_lit 199,tE)::(nat_lit 201,AhW)::(nat_lit 202,tE)::(nat_lit 204,Aiw)::(nat_lit 205,Af1)::(nat_lit 206,tE)::(nat_lit 208,Ago)::(nat_lit 209,tE)::(nat_lit 211,Aio)::(nat_lit 212,Agm)::(nat_lit 213,tE)::(nat_lit 215,AiM)::(nat_lit 216,tE)::(nat_lit 218,AhZ)::(nat_lit 219,Aje)::(nat_lit 220,tE)::(nat_lit 222,AgB)::(nat_lit 223,tE)::(nat_lit 225,AhG)::(nat_lit 226,Aho)::(nat_lit 227,tE)::(nat_lit 229,AiI)::(nat_lit 230,tE)::(nat_lit 232,AiC)::(nat_lit 233,AiQ)::(nat_lit 234,tE)::(nat_lit 236,Ail)::(nat_lit 237,tE)::(nat_lit 239,AiK)::(nat_lit 240,AiD)::(nat_lit 241,tE)::(nat_lit 243,Ag9)::(nat_lit 244,tE)::(nat_lit 246,AgJ)::(nat_lit 247,AfJ)::(nat_lit 248,tE)::(nat_lit 250,Ag3)::(nat_lit 251,tE)::(nat_lit 253,AfD)::(nat_lit 254,AfI)::(nat_lit 255,tE)::(nat_lit 257,Af4)::(nat_lit 258,tE)::(nat_lit 260,Agp)::(nat_lit 261,Af6)::(nat_lit 262,tE)::(nat_lit 264,Age)::(nat_lit 265,tE)::(nat_lit 267,Agu)::(nat_lit 268,AfF)::(nat_lit 269,tE)::(nat_lit 271,AiY)::(nat_lit 272,tE)::(nat_lit 274,AhK)::(nat_lit 275,Ai0)::(nat_lit 276,tE)::(nat_lit 278,AgP)::(nat_lit 279,tE)::(nat_lit 281,AhB)::(nat_lit 282,AhF)::(nat_lit 283,tE)::(nat_lit 285,Ah8)::(nat_lit 286,tE)::(nat_lit 288,Ahf)::(nat_lit 289,Ahu)::(nat_lit 290,tE)::(nat_lit 292,AgG)::(nat_lit 293,tE)::(nat_lit 295,Ahc)::(nat_lit 296,AgL)::(nat_lit 297,tE)::(nat_lit 299,Agy)::(nat_lit 300,tE)::(nat_lit 302,Aiz)::(nat_lit 303,Aid)::(nat_lit 304,tE)::(nat_lit 306,Agb)::(nat_lit 307,tE)::(nat_lit 309,Aiu)::(nat_lit 310,AiX)::(nat_lit 311,tE)::(nat_lit 313,Agg)::(nat_lit 314,tE)::(nat_lit 316,AgI)::(nat_lit 317,Ahv)::(nat_lit 318,tE)::(nat_lit 320,Aiq)::(nat_lit 321,tE)::(nat_lit 323,AiH)::(nat_lit 324,Aha)::(nat_lit 325,tE)::(nat_lit 327,Ah5)::(nat_lit 328,tE)::(nat_lit 330,Ah1)::(nat_lit 331,AiU)::(nat_lit 332,tE)::(nat_lit 334,Ahx)::(nat_lit 335,tE)::(nat_lit 337,AiZ)::(nat_lit 338,Ag8)::(nat_lit 346,tE)::(nat_lit 348,Af3)::(nat_lit 349,tE)::(nat_lit 351,AgK)::(nat_lit 352,AgX)::(nat_lit 353,tE)::(nat_lit 355,Agh)::(nat_lit 356,tE)::(nat_lit 358,AgW)::(nat_lit 359,Ahp)::(nat_lit 360,tE)::(nat_lit 362,AiO)::(nat_lit 363,tE)::(nat_lit 365,Ahi)::(nat_lit 366,Agi)::(nat_lit 367,tE)::(nat_lit 369,AhT)::(nat_lit 370,tE)::(nat_lit 372,AiW)::(nat_lit 373,AfX)::(nat_lit 374,Aig)::(nat_lit 375,Agv P)::(nat_lit 376,Agq)::(nat_lit 377,o377)::(nat_lit 378,Ags)::(nat_lit 381,Af2)::(nat_lit 388,tE)::(nat_lit 390,AgY)::(nat_lit 391,tE)::(nat_lit 393,AfZ)::(nat_lit 394,AiJ)::(nat_lit 395,tE)::(nat_lit 396,Aim P)::(nat_lit 397,Aga)::(nat_lit 400,o400)::(nat_lit 407,tE)::(nat_lit 409,Ahs)::(nat_lit 410,tE)::(nat_lit 412,Agn)::(nat_lit 413,Agl)::(nat_lit 414,tE)::(nat_lit 415,AfQ P)::(nat_lit 416,AfU)::(nat_lit 419,tE)::(nat_lit 421,AjN)::(nat_lit 422,tE)::(nat_lit 424,Aj7)::(nat_lit 425,AjS)::(nat_lit 426,tE)::(nat_lit 428,Ak0)::(nat_lit 429,tE)::(nat_lit 431,Ajn)::(nat_lit 432,AjW)::(nat_lit 433,tE)::(nat_lit 435,Ajv)::(nat_lit 436,tE)::(nat_lit 438,Akg)::(nat_lit 439,Aj8)::(nat_lit 440,tE)::(nat_lit 442,Alh)::(nat_lit 443,tE)::(nat_lit 445,Akj)::(nat_lit 446,Akz)::(nat_lit 447,tE)::(nat_lit 449,Ajz)::(nat_lit 450,tE)::(nat_lit 452,Ak1)::(nat_lit 453,AlG)::(nat_lit 454,tE)::(nat_lit 456,Aln)::(nat_lit 457,tE)::(nat_lit 459,Ak9)::(nat_lit 460,Aly)::(nat_lit 461,tE)::(nat_lit 463,Ajj)::(nat_lit 464,tE)::(nat_lit 466,Ajh)::(nat_lit 467,Alx)::(nat_lit 468,tE)::(nat_lit 470,AlH)::(nat_lit 471,tE)::(nat_lit 473,AlC)::(nat_lit 474,AlI)::(nat_lit 475,tE)::(nat_lit 478,AkG)::(nat_lit 479,Akc)::(nat_lit 480,tE)::(nat_lit 482,AkT)::(nat_lit 483,tE)::(nat_lit 485,Akp)::(nat_lit 486,AkX)::(nat_lit 487,tE)::(nat_lit 489,Alz)::(nat_lit 490,tE)::(nat_lit 492,Ajx)::(nat_lit 493,Ajm)::(nat_lit 494,tE)::(nat_lit 496,Ajk)::(nat_lit 497,tE)::(nat_lit 499,Alm)::(nat_lit 500,Alp)::(nat_lit 501,tE)::(nat_lit 503,Aku)::(nat_lit 504,tE)::(nat_lit 506,Aji)::(nat_lit 507,Aj2)::(nat_lit 508,tE)::(nat_lit 511,Ale)::(nat_lit 512,AkA)::(nat_lit 513,tE)::(nat_lit 515,Ak2)::(nat_lit 516,tE)::(nat_lit 518,AkO)::(nat_lit 519,AjM)::(nat_lit 520,tE)::(nat_lit 522,Alb)::(nat_lit 523,tE)::(nat_lit 525,Alr)::(nat_lit 526,Alj)::(nat_lit 527,tE)::(nat_lit 529,AjZ)::(nat_lit 530,tE)::(nat_lit 532,AjV)::(nat_lit 533,Aj0)::(nat_lit 534,tE)::(nat_lit 536,AlE)::(nat_lit 537,tE)::(nat_lit 539,AkZ)::(nat_lit 540,AjY)::(nat_lit 541,tE)::(nat_lit 543,AjL)::(nat_lit 544,tE)::(nat_lit 546,AjK)::(nat_lit 547,AkU)::(nat_lit 548,tE)::(nat_lit 550,Ak4)::(nat_lit 551,tE)::(nat_lit 553,AkP)::(nat_lit 554,Ajr)::(nat_lit 555,tE)::(nat_lit 557,AkW)::(nat_lit 558,tE)::(nat_lit 560,AjE)::(nat_lit 561,Akd)::(nat_lit 562,tE)::(nat_lit 564,AlF)::(nat_lit 565,tE)::(nat_lit 567,AkH)::(nat_lit 568,Ak5)::(nat_lit 569,tE)::(nat_lit 571,AkE)::(nat_lit 572,tE)::(nat_lit 574,AjR)::(nat_lit 575,Ajq)::(nat_lit 576,tE)::(nat_lit 578,Alo)::(nat_lit 579,tE)::(nat_lit 581,Ajw)::(nat_lit 582,Ak3)::(nat_lit 583,tE)::(nat_lit 585,AlA)::(nat_lit 586,tE)::(nat_lit 588,AjT)::(nat_lit 589,Aj5)::(nat_lit 590,tE)::(nat_lit 592,Alv)::(nat_lit 593,tE)::(nat_lit 595,AjA)::(nat_lit 596,AkJ)::(nat_lit 597,tE)::(nat_lit 600,o600)::(nat_lit 601,Akh)::(nat_lit 602,tE)::(nat_lit 604,AjO)::(nat_lit 605,tE)::(nat_lit 607,Ajl)::(nat_lit 608,Aj3)::(nat_lit 609,tE)::(nat_lit 612,Akv)::(nat_lit 613,Alf)::(nat_lit 614,tE)::(nat_lit 616,Ako)::(nat_lit 617,tE)::(nat_lit 619,AjC)::(nat_lit 620,Als)::(nat_lit 621,tE)::(nat_lit 624,AkN)::(nat_lit 625,Alw)::[]
noncomputable def Bm:O:=nO #[]
noncomputable def Zw:O:=cO #[sT "<module>" 182,sT "<module>" 183,sF 184,iZ 1,iZ 0,iZ 0,iZ 0,iZ 0,.ref 11,.bool false,iZ 181,.ref 12,.none,.none,.none,.none,iZ 185,iZ 1,sF 186]
noncomputable def Y5:O:=rO 13 3 "__main__" 164
noncomputable def AlD (P:Params):O:=dO #[dE P "__name__" 165 (sT "formcycle.errors" 194),dE P "__doc__" 166 .none,dE P "__package__" 167 .none,dE P "__loader__" 168 (.builtin "__main__.__loader__#opaque"),dE P "__spec__" 169 .none,dE P "__annotations__" 170 (.ref 6),dE P "__builtins__" 171 (.ref 4),dE P "__file__" 173 (sF 172),dE P "__cached__" 174 .none,dE P "_wall" 193 (.ref 21),dE P "FormError" 213 (.ref 31),dE P "NoTurn" 238 (.ref 51),dE P "NoShape" 263 (.ref 70),dE P "TooGreat" 290 (.ref 89),dE P "NoRoot" 315 (.ref 108),dE P "Apart" 331 (.ref 120),dE P "NotPlain" 356 (.ref 139)] 17
noncomputable def AfR:O:=nO #[iZ 1,iZ 0,.ref 20,iZ 5,iZ 0,.ref 27,iZ 7,iZ 0,.ref 40,iZ 11,iZ 0,.ref 59,iZ 15,iZ 0,.ref 78,iZ 20,iZ 0,.ref 97,iZ 24,iZ 0,.ref 116,iZ 26,iZ 0,.ref 128]
noncomputable def Adl:O:=.mk .none none (Data.func (FuncData.mk (.ofString "_wall") (.ofString "_wall") (fA (tp 0)) (.stmts (fB (tp 0))) (fS (tp 0)) 0 [] .none .none .none .none none .none .none 0)) #[]
noncomputable def Gp:O:=bO #[.builtin "type.__prepare__",.type "type"]
noncomputable def Ads (P:Params):O:=dO #[dE P "__module__" 203 (sT "formcycle.errors" 194),dE P "__qualname__" 205 (sT "FormError" 204),dE P "__firstlineno__" 207 (.int 5 206),dE P "__static_attributes__" 208 (.ref 29)] 4
noncomputable def Adi:O:=cO #[sT "FormError" 198,sT "FormError" 199,sF 200,iZ 5,iZ 0,iZ 0,iZ 0,iZ 0,.ref 25,.bool false,iZ 181,.ref 26,.none,.none,.none,.none,iZ 201,iZ 5,sF 202]
noncomputable def Ado:O:=rO 27 24 "formcycle.errors" 194
noncomputable def AdK:O:=sO 31
noncomputable def Adm:O:=bO #[.builtin "object.__init_subclass__",.ref 31]
noncomputable def AcW (P:Params):O:=dO #[dE P "__module__" 221 (sT "formcycle.errors" 194),dE P "__qualname__" 223 (sT "NoTurn" 222),dE P "__firstlineno__" 225 (.int 7 224),dE P "__init__" 233 (.ref 48),dE P "__static_attributes__" 235 (.ref 49)] 5
noncomputable def Adj:O:=nO #[iZ 9,iZ 4,.ref 47]
noncomputable def Adr:O:=cO #[sT "NoTurn" 216,sT "NoTurn" 217,sF 218,iZ 7,iZ 0,iZ 0,iZ 0,iZ 0,.ref 38,.bool false,iZ 181,.ref 39,.none,.none,.none,.none,iZ 219,iZ 7,sF 220]
noncomputable def Adx:O:=rO 40 37 "formcycle.errors" 194
noncomputable def Adt:O:=.mk .none none (Data.func (FuncData.mk (.ofString "__init__") (.ofString "NoTurn.__init__") (fA (inC (tp 3) 0)) (.stmts (fB (inC (tp 3) 0))) (fS (inC (tp 3) 0)) 0 [] .none .none .none .none none .none .none 0)) #[]
noncomputable def Adu:O:=sO 51
noncomputable def AdQ:O:=bO #[.builtin "object.__init_subclass__",.ref 51]
noncomputable def AdA (P:Params):O:=dO #[dE P "__module__" 246 (sT "formcycle.errors" 194),dE P "__qualname__" 248 (sT "NoShape" 247),dE P "__firstlineno__" 250 (.int 11 249),dE P "__init__" 258 (.ref 67),dE P "__static_attributes__" 260 (.ref 68)] 5
noncomputable def Adb:O:=nO #[iZ 13,iZ 4,.ref 66]
noncomputable def Adk:O:=cO #[sT "NoShape" 241,sT "NoShape" 242,sF 243,iZ 11,iZ 0,iZ 0,iZ 0,iZ 0,.ref 57,.bool false,iZ 181,.ref 58,.none,.none,.none,.none,iZ 244,iZ 11,sF 245]
noncomputable def Adc:O:=rO 59 56 "formcycle.errors" 194
noncomputable def AcV:O:=.mk .none none (Data.func (FuncData.mk (.ofString "__init__") (.ofString "NoShape.__init__") (fA (inC (tp 4) 0)) (.stmts (fB (inC (tp 4) 0))) (fS (inC (tp 4) 0)) 0 [] .none .none .none .none none .none .none 0)) #[]
noncomputable def AdG:O:=sO 70
noncomputable def Adf:O:=bO #[.builtin "object.__init_subclass__",.ref 70]
noncomputable def AdO (P:Params):O:=dO #[dE P "__module__" 271 (sT "formcycle.errors" 194),dE P "__qualname__" 273 (sT "TooGreat" 272),dE P "__firstlineno__" 275 (.int 15 274),dE P "__init__" 284 (.ref 86),dE P "__static_attributes__" 287 (.ref 87)] 5
noncomputable def Adz:O:=nO #[iZ 17,iZ 4,.ref 85]
noncomputable def AdR:O:=cO #[sT "TooGreat" 266,sT "TooGreat" 267,sF 268,iZ 15,iZ 0,iZ 0,iZ 0,iZ 0,.ref 76,.bool false,iZ 181,.ref 77,.none,.none,.none,.none,iZ 269,iZ 15,sF 270]
noncomputable def Ac3:O:=rO 78 75 "formcycle.errors" 194
noncomputable def AdB:O:=.mk .none none (Data.func (FuncData.mk (.ofString "__init__") (.ofString "TooGreat.__init__") (fA (inC (tp 5) 0)) (.stmts (fB (inC (tp 5) 0))) (fS (inC (tp 5) 0)) 0 [] .none .none .none .none none .none .none 0)) #[]
noncomputable def AdC:O:=sO 89
noncomputable def AcU:O:=bO #[.builtin "object.__init_subclass__",.ref 89]
noncomputable def AcQ (P:Params):O:=dO #[dE P "__module__" 298 (sT "formcycle.errors" 194),dE P "__qualname__" 300 (sT "NoRoot" 299),dE P "__firstlineno__" 302 (.int 20 301),dE P "__init__" 310 (.ref 105),dE P "__static_attributes__" 312 (.ref 106)] 5
noncomputable def Adg:O:=nO #[iZ 22,iZ 4,.ref 104]
noncomputable def AcX:O:=cO #[sT "NoRoot" 293,sT "NoRoot" 294,sF 295,iZ 20,iZ 0,iZ 0,iZ 0,iZ 0,.ref 95,.bool false,iZ 181,.ref 96,.none,.none,.none,.none,iZ 296,iZ 20,sF 297]
noncomputable def AdH:O:=rO 97 94 "formcycle.errors" 194
noncomputable def Zh:O:=.mk .none none (Data.func (FuncData.mk (.ofString "__init__") (.ofString "NoRoot.__init__") (fA (inC (tp 6) 0)) (.stmts (fB (inC (tp 6) 0))) (fS (inC (tp 6) 0)) 0 [] .none .none .none .none none .none .none 0)) #[]
noncomputable def Zk:O:=sO 108
noncomputable def AaD:O:=bO #[.builtin "object.__init_subclass__",.ref 108]
noncomputable def Zj (P:Params):O:=dO #[dE P "__module__" 323 (sT "formcycle.errors" 194),dE P "__qualname__" 325 (sT "Apart" 324),dE P "__firstlineno__" 327 (.int 24 326),dE P "__static_attributes__" 328 (.ref 118)] 4
noncomputable def YC:O:=cO #[sT "Apart" 318,sT "Apart" 319,sF 320,iZ 24,iZ 0,iZ 0,iZ 0,iZ 0,.ref 114,.bool false,iZ 181,.ref 115,.none,.none,.none,.none,iZ 321,iZ 24,sF 322]
noncomputable def Z4:O:=rO 116 113 "formcycle.errors" 194
noncomputable def ZD:O:=sO 120
noncomputable def YQ:O:=bO #[.builtin "object.__init_subclass__",.ref 120]
noncomputable def Yx (P:Params):O:=dO #[dE P "__module__" 339 (sT "formcycle.errors" 194),dE P "__qualname__" 341 (sT "NotPlain" 340),dE P "__firstlineno__" 343 (.int 26 342),dE P "__init__" 351 (.ref 136),dE P "__static_attributes__" 353 (.ref 137)] 5
noncomputable def AaE:O:=nO #[iZ 28,iZ 4,.ref 135]
noncomputable def YS:O:=cO #[sT "NotPlain" 334,sT "NotPlain" 335,sF 336,iZ 26,iZ 0,iZ 0,iZ 0,iZ 0,.ref 126,.bool false,iZ 181,.ref 127,.none,.none,.none,.none,iZ 337,iZ 26,sF 338]
noncomputable def Z7:O:=rO 128 125 "formcycle.errors" 194
noncomputable def YF:O:=.mk .none none (Data.func (FuncData.mk (.ofString "__init__") (.ofString "NotPlain.__init__") (fA (inC (tp 8) 0)) (.stmts (fB (inC (tp 8) 0))) (fS (inC (tp 8) 0)) 0 [] .none .none .none .none none .none .none 0)) #[]
noncomputable def Zb:O:=sO 139
noncomputable def YM:O:=bO #[.builtin "object.__init_subclass__",.ref 139]
noncomputable def AiT (P:Params):O:=dO #[dE P "__name__" 165 (sT "formcycle.shapes" 614),dE P "__doc__" 166 .none,dE P "__package__" 167 .none,dE P "__loader__" 168 (.builtin "__main__.__loader__#opaque"),dE P "__spec__" 169 .none,dE P "__annotations__" 170 (.ref 6),dE P "__builtins__" 171 (.ref 4),dE P "__file__" 173 (sF 172),dE P "__cached__" 174 .none,dE P "_wall" 193 (.ref 21),dE P "FormError" 213 (.ref 31),dE P "NoTurn" 238 (.ref 51),dE P "NoShape" 263 (.ref 70),dE P "TooGreat" 290 (.ref 89),dE P "NoRoot" 315 (.ref 108),dE P "Apart" 331 (.ref 120),dE P "NotPlain" 356 (.ref 139),dE P "divisor" 367 (.ref 148),dE P "shares" 378 (.ref 155),dE P "row_less" 387 (.ref 162),dE P "root" 396 (.ref 169),dE P "is_square" 404 (.ref 176),dE P "check_at_most" 412 (.ref 183),dE P "SAME" 419 (.ref 184),dE P "is_turn" 426 (.ref 191),dE P "check_turn" 433 (.ref 198),dE P "led" 441 (.ref 205),dE P "put_behind" 449 (.ref 212),dE P "back" 456 (.ref 219),dE P "measure" 465 (.ref 226),dE P "value" 475 (.ref 233),dE P "content" 482 (.ref 240),dE P "moved" 492 (.ref 247),dE P "middle" 502 (.ref 254),dE P "shape" 510 (.ref 261),dE P "check_bowl" 519 (.ref 268),dE P "stands_least" 529 (.ref 275),dE P "settled" 538 (.ref 282),dE P "turn_lower" 546 (.ref 289),dE P "MOST_MEASURE" 550 (.int 4000 549),dE P "check_saddle" 557 (.ref 296),dE P "stands_level" 566 (.ref 303),dE P "turn_behind" 577 (.ref 310),dE P "stop_behind" 586 (.ref 317),dE P "eased" 595 (.ref 324),dE P "stops_round" 606 (.ref 331),dE P "lowered" 613 (.ref 338),dE P "Shape" 670 (.ref 376),dE P "Bowl" 694 (.ref 397),dE P "Saddle" 718 (.ref 416)] 50
noncomputable def Aep:O:=nO #[iZ 1,iZ 0,.ref 20,iZ 5,iZ 0,.ref 27,iZ 7,iZ 0,.ref 40,iZ 11,iZ 0,.ref 59,iZ 15,iZ 0,.ref 78,iZ 20,iZ 0,.ref 97,iZ 24,iZ 0,.ref 116,iZ 26,iZ 0,.ref 128,iZ 31,iZ 0,.ref 147,iZ 37,iZ 0,.ref 154,iZ 47,iZ 0,.ref 161,iZ 49,iZ 0,.ref 168,iZ 60,iZ 0,.ref 175,iZ 65,iZ 0,.ref 182,iZ 70,iZ 0,.ref 190,iZ 72,iZ 0,.ref 197,iZ 75,iZ 0,.ref 204,iZ 78,iZ 0,.ref 211,iZ 80,iZ 0,.ref 218,iZ 84,iZ 0,.ref 225,iZ 86,iZ 0,.ref 232,iZ 90,iZ 0,.ref 239,iZ 92,iZ 0,.ref 246,iZ 97,iZ 0,.ref 253,iZ 100,iZ 0,.ref 260,iZ 110,iZ 0,.ref 267,iZ 113,iZ 0,.ref 274,iZ 120,iZ 0,.ref 281,iZ 128,iZ 0,.ref 288,iZ 135,iZ 0,.ref 295,iZ 139,iZ 0,.ref 302,iZ 142,iZ 0,.ref 309,iZ 147,iZ 0,.ref 316,iZ 150,iZ 0,.ref 323,iZ 157,iZ 0,.ref 330,iZ 167,iZ 0,.ref 337,iZ 171,iZ 0,.ref 344,iZ 186,iZ 0,.ref 386,iZ 190,iZ 0,.ref 405]
noncomputable def AbO:O:=.mk .none none (Data.func (FuncData.mk (.ofString "divisor") (.ofString "divisor") (fA (tp 10)) (.stmts (fB (tp 10))) (fS (tp 10)) 0 [] .none .none .none .none none .none .none 0)) #[]
noncomputable def Abp:O:=.mk .none none (Data.func (FuncData.mk (.ofString "shares") (.ofString "shares") (fA (tp 11)) (.stmts (fB (tp 11))) (fS (tp 11)) 0 [] .none .none .none .none none .none .none 0)) #[]
noncomputable def Abz:O:=.mk .none none (Data.func (FuncData.mk (.ofString "row_less") (.ofString "row_less") (fA (tp 12)) (.stmts (fB (tp 12))) (fS (tp 12)) 0 [] .none .none .none .none none .none .none 0)) #[]
noncomputable def Abn:O:=.mk .none none (Data.func (FuncData.mk (.ofString "root") (.ofString "root") (fA (tp 13)) (.stmts (fB (tp 13))) (fS (tp 13)) 0 [] .none .none .none .none none .none .none 0)) #[]
noncomputable def AaO:O:=.mk .none none (Data.func (FuncData.mk (.ofString "is_square") (.ofString "is_square") (fA (tp 14)) (.stmts (fB (tp 14))) (fS (tp 14)) 0 [] .none .none .none .none none .none .none 0)) #[]
noncomputable def AbM:O:=.mk .none none (Data.func (FuncData.mk (.ofString "check_at_most") (.ofString "check_at_most") (fA (tp 15)) (.stmts (fB (tp 15))) (fS (tp 15)) 0 [] .none .none .none .none none .none .none 0)) #[]
noncomputable def Aca:O:=.mk .none none (Data.func (FuncData.mk (.ofString "is_turn") (.ofString "is_turn") (fA (tp 18)) (.stmts (fB (tp 18))) (fS (tp 18)) 0 [] .none .none .none .none none .none .none 0)) #[]
noncomputable def AcH:O:=.mk .none none (Data.func (FuncData.mk (.ofString "check_turn") (.ofString "check_turn") (fA (tp 19)) (.stmts (fB (tp 19))) (fS (tp 19)) 0 [] .none .none .none .none none .none .none 0)) #[]
noncomputable def AbC:O:=.mk .none none (Data.func (FuncData.mk (.ofString "led") (.ofString "led") (fA (tp 20)) (.stmts (fB (tp 20))) (fS (tp 20)) 0 [] .none .none .none .none none .none .none 0)) #[]
noncomputable def Acf:O:=.mk .none none (Data.func (FuncData.mk (.ofString "put_behind") (.ofString "put_behind") (fA (tp 21)) (.stmts (fB (tp 21))) (fS (tp 21)) 0 [] .none .none .none .none none .none .none 0)) #[]
noncomputable def AbI:O:=.mk .none none (Data.func (FuncData.mk (.ofString "back") (.ofString "back") (fA (tp 22)) (.stmts (fB (tp 22))) (fS (tp 22)) 0 [] .none .none .none .none none .none .none 0)) #[]
noncomputable def AaS:O:=.mk .none none (Data.func (FuncData.mk (.ofString "measure") (.ofString "measure") (fA (tp 24)) (.stmts (fB (tp 24))) (fS (tp 24)) 0 [] .none .none .none .none none .none .none 0)) #[]
noncomputable def AaR:O:=.mk .none none (Data.func (FuncData.mk (.ofString "value") (.ofString "value") (fA (tp 25)) (.stmts (fB (tp 25))) (fS (tp 25)) 0 [] .none .none .none .none none .none .none 0)) #[]
noncomputable def AcB:O:=.mk .none none (Data.func (FuncData.mk (.ofString "content") (.ofString "content") (fA (tp 26)) (.stmts (fB (tp 26))) (fS (tp 26)) 0 [] .none .none .none .none none .none .none 0)) #[]
noncomputable def AbY:O:=.mk .none none (Data.func (FuncData.mk (.ofString "moved") (.ofString "moved") (fA (tp 27)) (.stmts (fB (tp 27))) (fS (tp 27)) 0 [] .none .none .none .none none .none .none 0)) #[]
noncomputable def Acd:O:=.mk .none none (Data.func (FuncData.mk (.ofString "middle") (.ofString "middle") (fA (tp 28)) (.stmts (fB (tp 28))) (fS (tp 28)) 0 [] .none .none .none .none none .none .none 0)) #[]
noncomputable def Acn:O:=.mk .none none (Data.func (FuncData.mk (.ofString "shape") (.ofString "shape") (fA (tp 29)) (.stmts (fB (tp 29))) (fS (tp 29)) 0 [] .none .none .none .none none .none .none 0)) #[]
noncomputable def Acx:O:=.mk .none none (Data.func (FuncData.mk (.ofString "check_bowl") (.ofString "check_bowl") (fA (tp 31)) (.stmts (fB (tp 31))) (fS (tp 31)) 0 [] .none .none .none .none none .none .none 0)) #[]
noncomputable def AbV:O:=.mk .none none (Data.func (FuncData.mk (.ofString "stands_least") (.ofString "stands_least") (fA (tp 32)) (.stmts (fB (tp 32))) (fS (tp 32)) 0 [] .none .none .none .none none .none .none 0)) #[]
noncomputable def AbS:O:=.mk .none none (Data.func (FuncData.mk (.ofString "settled") (.ofString "settled") (fA (tp 33)) (.stmts (fB (tp 33))) (fS (tp 33)) 0 [] .none .none .none .none none .none .none 0)) #[]
noncomputable def Abv:O:=.mk .none none (Data.func (FuncData.mk (.ofString "turn_lower") (.ofString "turn_lower") (fA (tp 34)) (.stmts (fB (tp 34))) (fS (tp 34)) 0 [] .none .none .none .none none .none .none 0)) #[]
noncomputable def Aa0:O:=.mk .none none (Data.func (FuncData.mk (.ofString "check_saddle") (.ofString "check_saddle") (fA (tp 37)) (.stmts (fB (tp 37))) (fS (tp 37)) 0 [] .none .none .none .none none .none .none 0)) #[]
noncomputable def AbA:O:=.mk .none none (Data.func (FuncData.mk (.ofString "stands_level") (.ofString "stands_level") (fA (tp 38)) (.stmts (fB (tp 38))) (fS (tp 38)) 0 [] .none .none .none .none none .none .none 0)) #[]
noncomputable def Aa9:O:=.mk .none none (Data.func (FuncData.mk (.ofString "turn_behind") (.ofString "turn_behind") (fA (tp 39)) (.stmts (fB (tp 39))) (fS (tp 39)) 0 [] .none .none .none .none none .none .none 0)) #[]
noncomputable def Ach:O:=.mk .none none (Data.func (FuncData.mk (.ofString "stop_behind") (.ofString "stop_behind") (fA (tp 40)) (.stmts (fB (tp 40))) (fS (tp 40)) 0 [] .none .none .none .none none .none .none 0)) #[]
noncomputable def AaX:O:=.mk .none none (Data.func (FuncData.mk (.ofString "eased") (.ofString "eased") (fA (tp 41)) (.stmts (fB (tp 41))) (fS (tp 41)) 0 [] .none .none .none .none none .none .none 0)) #[]
noncomputable def AcD:O:=.mk .none none (Data.func (FuncData.mk (.ofString "stops_round") (.ofString "stops_round") (fA (tp 42)) (.stmts (fB (tp 42))) (fS (tp 42)) 0 [] .none .none .none .none none .none .none 0)) #[]
noncomputable def Abh:O:=.mk .none none (Data.func (FuncData.mk (.ofString "lowered") (.ofString "lowered") (fA (tp 43)) (.stmts (fB (tp 43))) (fS (tp 43)) 0 [] .none .none .none .none none .none .none 0)) #[]
noncomputable def AaN (P:Params):O:=dO #[dE P "__module__" 623 (sT "formcycle.shapes" 614),dE P "__qualname__" 625 (sT "Shape" 624),dE P "__firstlineno__" 627 (.int 171 626),dE P "__init__" 636 (.ref 352),dE P "least" 643 (.ref 359),dE P "leaves" 651 (.ref 366),dE P "way_to" 659 (.ref 373),dE P "__static_attributes__" 663 (.ref 374)] 8
noncomputable def AbZ:O:=nO #[iZ 173,iZ 4,.ref 351,iZ 178,iZ 4,.ref 358,iZ 181,iZ 4,.ref 365,iZ 184,iZ 4,.ref 372]
noncomputable def AcL:O:=cO #[sT "Shape" 618,sT "Shape" 619,sF 620,iZ 171,iZ 0,iZ 0,iZ 0,iZ 0,.ref 342,.bool false,iZ 181,.ref 343,.none,.none,.none,.none,iZ 621,iZ 171,sF 622]
noncomputable def Abw:O:=rO 344 341 "formcycle.shapes" 614
noncomputable def AcJ:O:=.mk .none none (Data.func (FuncData.mk (.ofString "__init__") (.ofString "Shape.__init__") (fA (inC (tp 45) 0)) (.stmts (fB (inC (tp 45) 0))) (fS (inC (tp 45) 0)) 0 [] .none .none .none .none none .none .none 0)) #[]
noncomputable def Abf:O:=.mk .none none (Data.func (FuncData.mk (.ofString "least") (.ofString "Shape.least") (fA (inC (tp 45) 1)) (.stmts (fB (inC (tp 45) 1))) (fS (inC (tp 45) 1)) 0 [] .none .none .none .none none .none .none 0)) #[]
noncomputable def Abg:O:=.mk .none none (Data.func (FuncData.mk (.ofString "leaves") (.ofString "Shape.leaves") (fA (inC (tp 45) 2)) (.stmts (fB (inC (tp 45) 2))) (fS (inC (tp 45) 2)) 0 [] .none .none .none .none none .none .none 0)) #[]
noncomputable def Aa3:O:=.mk .none none (Data.func (FuncData.mk (.ofString "way_to") (.ofString "Shape.way_to") (fA (inC (tp 45) 3)) (.stmts (fB (inC (tp 45) 3))) (fS (inC (tp 45) 3)) 0 [] .none .none .none .none none .none .none 0)) #[]
noncomputable def Abr:O:=sO 376
noncomputable def Aa7:O:=bO #[.builtin "object.__init_subclass__",.ref 376]
noncomputable def Ab4 (P:Params):O:=dO #[dE P "__module__" 678 (sT "formcycle.shapes" 614),dE P "__qualname__" 680 (sT "Bowl" 679),dE P "__firstlineno__" 682 (.int 186 681),dE P "__init__" 690 (.ref 394),dE P "__static_attributes__" 691 (.ref 395)] 5
noncomputable def Acp:O:=nO #[iZ 188,iZ 4,.ref 393]
noncomputable def AcK:O:=cO #[sT "Bowl" 673,sT "Bowl" 674,sF 675,iZ 186,iZ 0,iZ 0,iZ 0,iZ 0,.ref 384,.bool false,iZ 181,.ref 385,.none,.none,.none,.none,iZ 676,iZ 186,sF 677]
noncomputable def Abe:O:=rO 386 383 "formcycle.shapes" 614
noncomputable def AcN:O:=.mk .none none (Data.func (FuncData.mk (.ofString "__init__") (.ofString "Bowl.__init__") (fA (inC (tp 46) 0)) (.stmts (fB (inC (tp 46) 0))) (fS (inC (tp 46) 0)) 0 [] .none .none .none .none none .none .none 0)) #[]
noncomputable def Abq:O:=sO 397
noncomputable def Acz:O:=bO #[.builtin "object.__init_subclass__",.ref 397]
noncomputable def AaW (P:Params):O:=dO #[dE P "__module__" 702 (sT "formcycle.shapes" 614),dE P "__qualname__" 704 (sT "Saddle" 703),dE P "__firstlineno__" 706 (.int 190 705),dE P "__init__" 714 (.ref 413),dE P "__static_attributes__" 715 (.ref 414)] 5
noncomputable def Acm:O:=nO #[iZ 192,iZ 4,.ref 412]
noncomputable def Abm:O:=cO #[sT "Saddle" 697,sT "Saddle" 698,sF 699,iZ 190,iZ 0,iZ 0,iZ 0,iZ 0,.ref 403,.bool false,iZ 181,.ref 404,.none,.none,.none,.none,iZ 700,iZ 190,sF 701]
noncomputable def Aci:O:=rO 405 402 "formcycle.shapes" 614
noncomputable def AcO:O:=.mk .none none (Data.func (FuncData.mk (.ofString "__init__") (.ofString "Saddle.__init__") (fA (inC (tp 47) 0)) (.stmts (fB (inC (tp 47) 0))) (fS (inC (tp 47) 0)) 0 [] .none .none .none .none none .none .none 0)) #[]
noncomputable def AcG:O:=sO 416
noncomputable def Aco:O:=bO #[.builtin "object.__init_subclass__",.ref 416]
noncomputable def tr0 (P:Params):BT:=Nd (boot_o_0 P) (Nd (boot_o_1 P) (Nd (boot_o_3 P) (Lf (boot_o_7 P)) (Lf tE)) (Nd (boot_o_5 P) (Lf (boot_o_9 P)) (Lf Zw))) (Nd (boot_o_2 P) (Nd (boot_o_4 P) (Lf (boot_o_8 P)) (Lf Bm)) (Nd (boot_o_6 P) (Lf (boot_o_10 P)) (Lf Y5)))
noncomputable def St0 (w:World) (os:OsState):SharedT:=⟨tr0 w.params,15,Life.mk [] [] [] 0 [] [] Bool.false #[] [] 0 Bool.false Bool.false Bool.false 0 [2000,10,10] Bool.false 0 Bool.true [] [] 0 Bool.false,Array.mk [],Drawn.mk 0 0 0 0,187,os⟩
noncomputable def ps0:Pos:=⟨0,0,0,0⟩
noncomputable def tr9 (P:Params):BT:=Nd (boot_o_0 P) (Nd (boot_o_1 P) (Nd (AlD P) (Nd (boot_o_7 P) (Nd tE (Nd o31 (Nd o63 (Lf AaE) .nil) (Lf tE)) (Nd o47 (Lf Ac3) (Lf o111))) (Nd Gp (Nd Adj (Nd AdG (Lf Aef) .nil) (Lf Zh)) (Nd Gp (Lf o87) (Lf (Ae5 P))))) (Nd tE (Nd Adl (Nd o35 (Nd o67 (Lf Bm) .nil) (Lf tE)) (Nd o51 (Lf tE) (Lf Bm))) (Nd Adi (Nd Bm (Nd (AdO P) (Lf AeE) .nil) (Lf (Afo P))) (Nd Adk (Lf AcU) (Lf Aeo))))) (Nd (boot_o_5 P) (Nd (boot_o_9 P) (Nd o17 (Nd AdK (Nd AcV (Lf Z7) .nil) (Lf AcX)) (Nd o49 (Lf Bm) (Lf (Zj P)))) (Nd tE (Nd Adx (Nd o73 (Lf Aey) .nil) (Lf Aev)) (Nd tE (Lf o89) (Lf ZD)))) (Nd Zw (Nd o21 (Nd (AcW P) (Nd (o69 P) (Lf tE) .nil) (Lf AeJ)) (Nd AdQ (Lf o85) (Lf Z4))) (Nd tE (Nd tE (Nd Adz (Lf YM) .nil) (Lf Zk)) (Nd tE (Lf Gp) (Lf (Yx P))))))) (Nd (boot_o_2 P) (Nd (boot_o_4 P) (Nd (boot_o_8 P) (Nd Bm (Nd o32 (Nd tE (Lf YS) .nil) (Lf Adg)) (Nd o48 (Lf tE) (Lf Gp))) (Nd (Ads P) (Nd Adr (Nd Adf (Lf AeZ) .nil) (Lf Afc)) (Nd (AdA P) (Lf (o88 P)) (Lf AeK)))) (Nd AfR (Nd o20 (Nd Gp (Nd o68 (Lf Aed) .nil) (Lf Bm)) (Nd Adu (Lf AdB) (Lf YC))) (Nd Ado (Nd o44 (Nd tE (Lf Zb) .nil) (Lf AeQ)) (Nd Adc (Lf o92) (Lf Gp))))) (Nd (boot_o_6 P) (Nd (boot_o_10 P) (Nd tE (Nd Adm (Nd o66 (Lf tE) .nil) (Lf AdH)) (Nd (o50 P) (Lf o82) (Lf tE))) (Nd Bm (Nd tE (Nd Gp (Lf (Aej P)) .nil) (Lf AeN)) (Nd Adb (Lf AdC) (Lf YQ)))) (Nd Y5 (Nd o22 (Nd tE (Nd o70 (Lf YF) .nil) (Lf tE)) (Nd o54 (Lf o86) (Lf tE))) (Nd (o30 P) (Nd Adt (Lf AdR) (Lf AaD)) (Nd Bm (Lf (AcQ P)) (Lf tE))))))
noncomputable def St9 (w:World) (os:OsState):SharedT:=⟨tr9 w.params,142,Life.mk [] [] [] 0 [] [] Bool.false #[] [] 0 Bool.false Bool.false Bool.false 0 [2000,10,10] Bool.false 0 Bool.true [] [] 0 Bool.false,Array.mk [],Drawn.mk 0 0 0 0,357,os⟩
noncomputable def ps9:Pos:=⟨26,0,29,24⟩
noncomputable def Ala (P:Params):BT:=Nd (boot_o_0 P) (Nd (boot_o_1 P) (Nd (AiT P) (Nd (boot_o_7 P) (Nd tE (Nd o31 (Nd o63 (Nd AaE (Lf tE) (Lf (Ab4 P))) (Nd AiE (Lf Bm) .nil)) (Nd tE (Nd tE (Lf Abv) (Lf (AfQ P))) (Nd tE (Lf AgK) .nil))) (Nd o47 (Nd Ac3 (Nd Bm (Lf AiY) (Lf Acz)) (Nd Bm (Lf tE) .nil)) (Nd o111 (Nd Af9 (Lf Aid) .nil) (Nd AiK (Lf tE) .nil)))) (Nd Gp (Nd Adj (Nd AdG (Nd Aef (Lf Bm) (Lf tE)) (Nd tE (Lf Ah5) .nil)) (Nd Zh (Nd Abn (Lf Ahc) .nil) (Nd AaR (Lf Ahp) .nil))) (Nd Gp (Nd o87 (Nd AfW (Lf tE) (Lf tE)) (Nd AiM (Lf AbZ) .nil)) (Nd (Ae5 P) (Nd Aip (Lf tE) .nil) (Nd AfJ (Lf (Agv P)) .nil))))) (Nd tE (Nd Adl (Nd o35 (Nd o67 (Nd Bm (Lf Acn) (Lf Abe)) (Nd tE (Lf AiH) .nil)) (Nd tE (Nd tE (Lf Bm) .nil) (Nd tE (Lf Agh) .nil))) (Nd o51 (Nd tE (Nd Ai3 (Lf Ai0) (Lf tE)) (Nd Aio (Lf tE) .nil)) (Nd Bm (Nd AiA (Lf tE) .nil) (Nd Ag9 (Lf Aa3) .nil)))) (Nd Adi (Nd Bm (Nd (AdO P) (Nd AeE (Lf Agu) (Lf tE)) (Nd AbC (Lf AiU) .nil)) (Nd (Afo P) (Nd Bm (Lf Agy) .nil) (Nd Bm (Lf tE) .nil))) (Nd Adk (Nd AcU (Nd AgO (Lf tE) (Lf AcO)) (Nd Aje (Lf Bm) .nil)) (Nd Aeo (Nd AgZ (Lf Ach) .nil) (Nd tE (Lf Abr) .nil)))))) (Nd (boot_o_5 P) (Nd (boot_o_9 P) (Nd o17 (Nd AdK (Nd AcV (Nd Z7 (Lf Af4) (Lf Acp)) (Nd Bm (Lf tE) .nil)) (Nd AcX (Nd AgE (Lf Ahu) (Lf AcG)) (Nd AhG (Lf tE) .nil))) (Nd o49 (Nd Bm (Nd tE (Lf AbV) (Lf Gp)) (Nd tE (Lf AiZ) .nil)) (Nd (Zj P) (Nd tE (Lf Bm) .nil) (Nd tE (Lf AhT) .nil)))) (Nd tE (Nd Adx (Nd o73 (Nd Aey (Lf tE) (Lf AfZ)) (Nd AhW (Lf AcD) .nil)) (Nd Aev (Nd Ah9 (Lf tE) .nil) (Nd AiQ (Lf Bm) .nil))) (Nd tE (Nd o89 (Nd Abp (Lf AhB) (Lf Ahs)) (Nd AbI (Lf Abw) .nil)) (Nd ZD (Nd tE (Lf Agg) .nil) (Nd Bm (Lf o377) .nil))))) (Nd Zw (Nd o21 (Nd (AcW P) (Nd (o69 P) (Nd tE (Lf Af6) (Lf Bm)) (Nd Agx (Lf tE) .nil)) (Nd AeJ (Nd Aia (Lf tE) .nil) (Nd AiI (Lf Abf) .nil))) (Nd AdQ (Nd o85 (Nd tE (Lf Bm) (Lf Abm)) (Nd tE (Lf (AaN P)) .nil)) (Nd Z4 (Nd AbM (Lf Aiu) .nil) (Nd AbY (Lf AfX) .nil)))) (Nd tE (Nd tE (Nd Adz (Nd YM (Lf tE) (Lf Aga)) (Nd Af1 (Lf Bm) .nil)) (Nd Zk (Nd tE (Lf AbA) .nil) (Nd tE (Lf Ahi) .nil))) (Nd tE (Nd Gp (Nd Bm (Lf Ah8) (Lf Agl)) (Nd Bm (Lf tE) .nil)) (Nd (Yx P) (Nd Aca (Lf Ahv) .nil) (Nd AfD (Lf Af2) .nil))))))) (Nd (boot_o_2 P) (Nd (boot_o_4 P) (Nd (boot_o_8 P) (Nd Bm (Nd o32 (Nd tE (Nd YS (Lf Bm) (Lf tE)) (Nd tE (Lf Aiq) .nil)) (Nd Adg (Nd Abz (Lf Ahf) (Lf AfU)) (Nd AaS (Lf AgX) .nil))) (Nd o48 (Nd tE (Nd Ahe (Lf tE) (Lf o400)) (Nd Ago (Lf Abh) .nil)) (Nd Gp (Nd AgT (Lf tE) .nil) (Nd AiD (Lf Bm) .nil)))) (Nd (Ads P) (Nd Adr (Nd Adf (Nd AeZ (Lf Age) (Lf AcN)) (Nd Bm (Lf tE) .nil)) (Nd Afc (Nd AgR (Lf AgL) .nil) (Nd AiC (Lf tE) .nil))) (Nd (AdA P) (Nd (o88 P) (Nd tE (Lf AbS) (Lf Bm)) (Nd tE (Lf AcL) .nil)) (Nd AeK (Nd Ahq (Lf Bm) .nil) (Nd tE (Lf Agq) .nil))))) (Nd Aep (Nd o20 (Nd Gp (Nd o68 (Nd Aed (Lf Agp) (Lf tE)) (Nd AcH (Lf Aha) .nil)) (Nd Bm (Nd Bm (Lf AgG) .nil) (Nd Bm (Lf tE) .nil))) (Nd Adu (Nd AdB (Nd AhC (Lf tE) (Lf Acm)) (Nd Agm (Lf Gp) .nil)) (Nd YC (Nd tE (Lf Aa9) .nil) (Nd tE (Lf AiW) .nil)))) (Nd Ado (Nd o44 (Nd tE (Nd Zb (Lf AfF) (Lf (Aim P))) (Nd Aiw (Lf tE) .nil)) (Nd AeQ (Nd Ah6 (Lf tE) .nil) (Nd Ail (Lf Abg) .nil))) (Nd Adc (Nd o92 (Nd tE (Lf Bm) (Lf Agn)) (Nd tE (Lf Af3) .nil)) (Nd Gp (Nd tE (Lf AgI) .nil) (Nd Acd (Lf Aa7) .nil)))))) (Nd (boot_o_6 P) (Nd (boot_o_10 P) (Nd tE (Nd Adm (Nd o66 (Nd tE (Lf tE) (Lf AcK)) (Nd AgM (Lf AaX) .nil)) (Nd AdH (Nd AhN (Lf tE) (Lf Aco)) (Nd Aho (Lf Bm) .nil))) (Nd (o50 P) (Nd o82 (Nd AbO (Lf AhK) (Lf (AaW P))) (Nd Acf (Lf Ag8) .nil)) (Nd tE (Nd Bm (Lf Agb) .nil) (Nd Bm (Lf tE) .nil)))) (Nd Bm (Nd tE (Nd Gp (Nd (Aej P) (Lf Acx) (Lf AiJ)) (Nd tE (Lf Ah1) .nil)) (Nd AeN (Nd tE (Lf Bm) .nil) (Nd tE (Lf AiO) .nil))) (Nd Adb (Nd AdC (Nd Aib (Lf AhF) (Lf tE)) (Nd AhZ (Lf tE) .nil)) (Nd YQ (Nd Bm (Lf tE) .nil) (Nd Ag3 (Lf Ags) .nil))))) (Nd Y5 (Nd o22 (Nd tE (Nd o70 (Nd YF (Lf tE) (Lf AgY)) (Nd Aix (Lf Bm) .nil)) (Nd tE (Nd tE (Lf Aa0) .nil) (Nd tE (Lf AgW) .nil))) (Nd o54 (Nd o86 (Nd Bm (Lf AgP) (Lf Aci)) (Nd Bm (Lf tE) .nil)) (Nd tE (Nd Ag2 (Lf AiX) .nil) (Nd AgJ (Lf Aig) .nil)))) (Nd (o30 P) (Nd Adt (Nd AdR (Nd tE (Lf Bm) (Lf Abq)) (Nd tE (Lf Ahx) .nil)) (Nd AaD (Nd AaO (Lf Aiz) .nil) (Nd AcB (Lf Agi) .nil))) (Nd Bm (Nd (AcQ P) (Nd Agt (Lf tE) (Lf tE)) (Nd AgB (Lf AcJ) .nil)) (Nd tE (Nd AiG (Lf tE) .nil) (Nd AfI (Lf Gp) .nil)))))))
noncomputable def AfS (w:World) (os:OsState):SharedT:=⟨Ala w.params,419,Life.mk [] [] [] 0 [] [] Bool.false #[] [] 0 Bool.false Bool.false Bool.false 0 [2000,10,10] Bool.false 0 Bool.true [] [] 0 Bool.false,Array.mk [],Drawn.mk 0 0 0 0,719,os⟩
noncomputable def Agf:Pos:=⟨190,0,193,49⟩
end
noncomputable def vw:Program:={ PySem.Challenge.pw_formcycle_k41_products_walk with main:={ PySem.Challenge.pw_formcycle_k41_products_walk.main with body:=[tp 0,tp 2,tp 3,tp 4,tp 5,tp 6,tp 7,tp 8,tp 10,tp 11,tp 12,tp 13,tp 14,tp 15,tp 17,tp 18,tp 19,tp 20,tp 21,tp 22,tp 24,tp 25,tp 26,tp 27,tp 28,tp 29,tp 31,tp 32,tp 33,tp 34,tp 36,tp 37,tp 38,tp 39,tp 40,tp 41,tp 42,tp 43,tp 45,tp 46,tp 47,tp 48,tp 50,tp 51,tp 52,tp 53,tp 54,tp 55,tp 56,tp 57,tp 58,tp 59,tp 61,tp 62,tp 63,tp 64,tp 65,tp 66,tp 67,tp 68,tp 69,tp 70,tp 71,tp 72,tp 73,tp 74,tp 75,tp 76,tp 77,tp 78,tp 79,tp 80] } }
noncomputable def asK:List Nat:=[2,3,15,17,18,20,21,22,29,30,31,32,35,42,44,45,47,48,49,50,51,54,61,63,64,66,67,68,69,70,73,80,82,83,85,86,87,88,89,92,99,101,102,104,105,106,107,108,111,118,119,120,123,130,132,133,135,136,137,138,139,142,144,145,147,148,149,151,152,154,155,156,158,159,161,162,163,165,166,168,169,170,172,173,175,176,177,179,180,182,183,184,185,187,188,190,191,192,194,195,197,198,199,201,202,204,205,206,208,209,211,212,213,215,216,218,219,220,222,223,225,226,227,229,230,232,233,234,236,237,239,240,241,243,244,246,247,248,250,251,253,254,255,257,258,260,261,262,264,265,267,268,269,271,272,274,275,276,278,279,281,282,283,285,286,288,289,290,292,293,295,296,297,299,300,302,303,304,306,307,309,310,311,313,314,316,317,318,320,321,323,324,325,327,328,330,331,332,334,335,337,338,346,348,349,351,352,353,355,356,358,359,360,362,363,365,366,367,369,370,372,373,374,375,376,377,378,381,388,390,391,393,394,395,396,397,400,407,409,410,412,413,414,415,416,419,421,422,424,425,426,428,429,431,432,433,435,436,438,439,440,442,443,445,446,447,449,450,452,453,454,456,457,459,460,461,463,464,466,467,468,470,471,473,474,475,478,479,480,482,483,485,486,487,489,490,492,493,494,496,497,499,500,501,503,504,506,507,508,511,512,513,515,516,518,519,520,522,523,525,526,527,529,530,532,533,534,536,537,539,540,541,543,544,546,547,548,550,551,553,554,555,557,558,560,561,562,564,565,567,568,569,571,572,574,575,576,578,579,581,582,583,585,586,588,589,590,592,593,595,596,597,600,601,602,604,605,607,608,609,612,613,614,616,617,619,620,621,624,625]
noncomputable def bE:List Stmt:=behindTheImports PySem.Challenge.rw_formcycle_k41_products_walk.row.prog
noncomputable def ev:Env:={ scope:=PySem.Challenge.rw_formcycle_k41_products_walk.row.prog.main.scope,locals:=mainNs,globals:=mainNs,cells:=[],code:=.ref 13,frame:=some 14 }
noncomputable def cc:Code:=.body bE ev
noncomputable def qq:Pos:=.mk 0 0 0 0
noncomputable def pp:Pos:=⟨0,0,0,0⟩
theorem AgA:∀ w os,goT treeTable PySem.Challenge.rw_formcycle_k41_products_walk.row.prog w 11 (some (.ref 6)) 12 (Q7 w os) (topStub PySem.Challenge.rw_formcycle_k41_products_walk.row.prog)=some (St0 w os,⟨denote treeTable cc,cc,pp,[topFrame qq]⟩):=fun w os=>by kernel_rfl
theorem Ahw:∀ w os,segRunT treeTable PySem.Challenge.rw_formcycle_k41_products_walk.row.prog w 11 (some (.ref 6)) 1 1 (St0 w os) (blockOf bE ev cc pp [topFrame qq])=some (.next,St0 w os,cc,ps0):=fun w os=>by kernel_rfl
noncomputable def l9:List Stmt:=List.take 9 bE
noncomputable def r9:List Stmt:=List.drop 9 bE
theorem g_9:∀ w os,segRunT treeTable PySem.Challenge.rw_formcycle_k41_products_walk.row.prog w 11 (some (.ref 6)) 1 1665 (St0 w os) (piecesOf l9 ev cc ps0 [topFrame qq])=some (.next,St9 w os,cc,ps9):=fun w os=>by kernel_rfl
noncomputable def l48:List Stmt:=List.take 39 r9
noncomputable def r48:List Stmt:=List.drop 39 r9
theorem AkS:∀ w os,segRunT treeTable PySem.Challenge.rw_formcycle_k41_products_walk.row.prog w 11 (some (.ref 6)) 1 1742 (St9 w os) (piecesOf l48 ev cc ps9 [topFrame qq])=some (.next,AfS w os,cc,Agf):=fun w os=>by kernel_rfl
noncomputable def TL (w:World) (os:OsState):Option SharedT:=Ut treeTable PySem.Challenge.rw_formcycle_k41_products_walk.row.prog w 11 (some (.ref 6)) 1040 (AfS w os) (restOf r48 ev cc Agf [topFrame qq])
theorem hr:∀ w os r,TL w os=some r→topRun treeTable PySem.Challenge.rw_formcycle_k41_products_walk.row.prog w (BL w os).heap.objs.size ((BL w os).heap.nsMap mainGlobals "__annotations__") 4460 (BL w os) (topStub PySem.Challenge.rw_formcycle_k41_products_walk.row.prog)=some r.abs:=fun w os r h=>by
  rw [show (BL w os).heap.objs.size=11 by kernel_rfl,show (BL w os).heap.nsMap mainGlobals "__annotations__"=some (.ref 6) by kernel_rfl]
  have k:=Ss _ h
  have k:=piece_app (segRun_of (AkS w os)) k
  rw [show l48 ++ r48=r9 from List.take_append_drop _ _] at k
  have k:=piece_app (segRun_of (g_9 w os)) k
  rw [show l9 ++ r9=bE from List.take_append_drop _ _] at k
  have k:=piece_block (segRun_of (Ahw w os)) k
  have k:=go_top (Aaj _ (AgA w os)) k
  rw [boot_abs] at k
  exact k
noncomputable def sA0 (s:Shared):=PyProof.Rows.seen ((PyProof.Rows.recsOf vw).map (·.name)) (PyProof.Rows.ownsOf vw) [] { s with gens:=#[] }
noncomputable def sA1 (s:Shared):=s.heap.bltView
noncomputable def sA2 (s:Shared):=s.heap.keysOk (looseW vw []) ((PyProof.Rows.recsOf vw).map (·.name)) ((PyProof.Rows.litsOf vw).map (·.1)) ((PyProof.Rows.clssOf vw (looseW vw [])).map (·.name)) && s.heap.accountedOkI (importedModules PySem.Challenge.rw_formcycle_k41_products_walk.row.prog.main.body) && s.heap.isNs mainGlobals && s.heap.isNs builtinsNs && PyProof.Rows.tablesOk vw s.heap && (xlAt vw [] s && recOk (RowW.records PySem.Challenge.rw_formcycle_k41_products_walk.row.toRowW) s) && (if true then s.gens.size == 0 else !leftWithCleanup s.gens)
noncomputable def sA3 (s:Shared):=PyProof.Rows.tabsOk vw s
noncomputable def sA4 (s:Shared):=pinSeenD vw (PyProof.Rows.drecsOf vw) s
noncomputable def sA5 (s:Shared):=PyProof.Rows.plainSeenE vw (looseW vw []) s
noncomputable def sA6 (s:Shared):=PyProof.Rows.plainSeenD vw [] s
noncomputable def sA7 (s:Shared):=wideSeen vw s
noncomputable def sA8 (s:Shared):=clsSeenW vw [] s
theorem hA:∀ (w:World) (os:OsState),(TL w os).map (fun r=>stays PySem.Challenge.rw_formcycle_k41_products_walk.row.prog (BL w os) r.abs)=some true:=fun w os=>by kernel_rfl
theorem hB0:∀ (w:World) (os:OsState),(TL w os).map (fun r=>sA0 r.abs)=some (PyProof.Rows.expectedOf vw):=fun w os=>by kernel_rfl
theorem hB1:∀ (w:World) (os:OsState),(TL w os).map (fun r=>(sA1 r.abs,sA3 r.abs,sA4 r.abs,sA6 r.abs,sA8 r.abs))=some (bltViewBooted,true,pinGoodD (PyProof.Rows.drecsOf vw),PyProof.Rows.plainGoodD vw [],clsGoodW vw []):=fun w os=>by kernel_rfl
theorem hB2:∀ (w:World) (os:OsState),(TL w os).map (fun r=>sA2 r.abs)=some true:=fun w os=>by kernel_rfl
theorem hB5:∀ (w:World) (os:OsState),(TL w os).map (fun r=>sA5 r.abs)=some (PyProof.Rows.plainGoodE vw (looseW vw [])):=fun w os=>by kernel_rfl
theorem hB7:∀ (w:World) (os:OsState),(TL w os).map (fun r=>sA7 r.abs)=some (wideGood vw):=fun w os=>by kernel_rfl
theorem nine {α0 α1 α2 α3 α4 α5 α6 α7 α8:Type} {o:Option SharedT} {A0:Shared→α0} {A1:Shared→α1} {A2:Shared→α2} {A3:Shared→α3} {A4:Shared→α4} {A5:Shared→α5} {A6:Shared→α6} {A7:Shared→α7} {A8:Shared→α8} {a0:α0} {a1:α1} {a2:α2} {a3:α3} {a4:α4} {a5:α5} {a6:α6} {a7:α7} {a8:α8}
    (h0:o.map (fun r=>A0 r.abs)=some a0) (h1:o.map (fun r=>(A1 r.abs,A3 r.abs,A4 r.abs,A6 r.abs,A8 r.abs))=some (a1,a3,a4,a6,a8)) (h2:o.map (fun r=>A2 r.abs)=some a2) (h5:o.map (fun r=>A5 r.abs)=some a5) (h7:o.map (fun r=>A7 r.abs)=some a7) :
    o.map (fun r=>(A0 r.abs,A1 r.abs,A2 r.abs,A3 r.abs,A4 r.abs,A5 r.abs,A6 r.abs,A7 r.abs,A8 r.abs))=some (a0,a1,a2,a3,a4,a5,a6,a7,a8):=by
  cases o with
  | none=>cases h0
  | some r =>
    simp only [Option.map_some,Option.some.injEq,Prod.mk.injEq] at h0 h1 h2 h5 h7 ⊢
    exact ⟨h0,h1.1,h2,h1.2.1,h1.2.2.1,h5,h1.2.2.2.1,h7,h1.2.2.2.2⟩
theorem hB:∀ (w:World) (os:OsState),(TL w os).map (fun r=>openSeen vw [] (importedModules PySem.Challenge.rw_formcycle_k41_products_walk.row.prog.main.body) (fun s=>xlAt vw [] s && recOk (RowW.records PySem.Challenge.rw_formcycle_k41_products_walk.row.toRowW) s) true r.abs)=some (openGood vw []):=fun w os=>nine (A0:=sA0) (A1:=sA1) (A2:=sA2) (A3:=sA3) (A4:=sA4) (A5:=sA5) (A6:=sA6) (A7:=sA7) (A8:=sA8) (hB0 w os) (hB1 w os) (hB2 w os) (hB5 w os) (hB7 w os)
theorem hC:∀ (w:World) (os:OsState),(TL w os).map (fun r=>Hook.obs (kHook My.KK My.asK (fun _=>by kernel_rfl)) r.abs)=some (Hook.val (kHook My.KK My.asK (fun _=>by kernel_rfl)) w):=fun w os=>by kernel_rfl
theorem hl:LeftO PySem.Challenge.rw_formcycle_k41_products_walk.row.prog vw [] (fun s=>xlAt vw [] s && recOk (RowW.records PySem.Challenge.rw_formcycle_k41_products_walk.row.toRowW) s) (Hook.obs (kHook My.KK My.asK (fun _=>by kernel_rfl))) (Hook.val (kHook My.KK My.asK (fun _=>by kernel_rfl))) 4460:=fun w=>AaK (TL:=TL w) (by kernel_rfl) (by decide) (fun _=>by kernel_rfl) (hr w) (hA w) (hB w) (hC w) (fun os=>by kernel_rfl)
end My
namespace L2
open PySem PySem.Spec PyProof.Rows
noncomputable abbrev Key:=Sum Int Str
noncomputable def AcT:Key→Value→Bool
  | .inl k,v=>Value.isInt k v
  | .inr x,v=>Value.isStrOf x v
noncomputable def Aka (w:World):Key→Int
  | .inl k=>hashInt k
  | .inr x=>hashStr w x
theorem Cy:∀ {k:Key} {v:Value},AcT k v=true→(∃ i t,k=Sum.inl i∧v=Value.int i t)∨(∃ x t,k=Sum.inr x∧v=Value.str x t)
  | .inl i,v,h=>by
    obtain ⟨t,e⟩:=Value.isInt_shape (k:=i) (v:=v) h
    exact .inl ⟨i,t,rfl,e⟩
  | .inr x,v,h=>by
    obtain ⟨t,e⟩:=Value.isStrOf_shape (x:=x) (v:=v) h
    exact .inr ⟨x,t,rfl,e⟩
theorem AeA (a b:Int):decide ((Sum.inl a:Key)=Sum.inl b)=(a == b):=by
  by_cases e:a=b
  · subst e;simp
  · have h:¬ (Sum.inl a:Key)=Sum.inl b:=fun q=>e (Sum.inl.inj q)
    rw [decide_eq_false h]
    exact (beq_eq_false_iff_ne.mpr e).symm
theorem Aem (a b:Str):decide ((Sum.inr a:Key)=Sum.inr b)=decide (a=b):=by
  by_cases e:a=b
  · subst e;simp
  · have h:¬ (Sum.inr a:Key)=Sum.inr b:=fun q=>e (Sum.inr.inj q)
    rw [decide_eq_false h,decide_eq_false e]
theorem Aeh (a:Int) (b:Str):decide ((Sum.inl a:Key)=Sum.inr b)=false:=decide_eq_false (fun q=>nomatch q)
theorem Afl (a:Str) (b:Int):decide ((Sum.inr a:Key)=Sum.inl b)=false:=decide_eq_false (fun q=>nomatch q)
noncomputable def W9 (prog:Program) (w:World):PySem.KeyKind prog w Key where
  is:=AcT
  hash:=Aka w
  inj:=fun v a b ha hb=>by
    rcases Cy ha with ⟨i,t,rfl,rfl⟩ | ⟨x,t,rfl,rfl⟩
    · rcases Cy hb with ⟨j,u,rfl,e⟩ | ⟨y,u,rfl,e⟩
      · injection e with e1 _;rw [e1]
      · exact nomatch e
    · rcases Cy hb with ⟨j,u,rfl,e⟩ | ⟨y,u,rfl,e⟩
      · exact nomatch e
      · injection e with e1 _;rw [e1]
  byValue:=fun k v h=>by
    rcases Cy h with ⟨i,t,rfl,rfl⟩ | ⟨x,t,rfl,rfl⟩ <;> rfl
  pyHash:=fun hv h=>by
    rcases Cy hv with ⟨i,t,rfl,rfl⟩ | ⟨x,t,rfl,rfl⟩
    · exact wpAny_pyHash_int h
    · exact wpAny_pyHash_str h
  eqBool:=fun hu hv h=>by
    rcases Cy hu with ⟨i,t,rfl,rfl⟩ | ⟨x,t,rfl,rfl⟩
    · rcases Cy hv with ⟨j,u,rfl,rfl⟩ | ⟨y,u,rfl,rfl⟩
      · rw [AeA] at h;exact wpAny_eqBool_int h
      · rw [Aeh] at h;exact SeqAt.EqAt.int_str i t y u _ _ _ _ h
    · rcases Cy hv with ⟨j,u,rfl,rfl⟩ | ⟨y,u,rfl,rfl⟩
      · rw [Afl] at h;exact SeqAt.EqAt.str_int x t j u _ _ _ _ h
      · rw [Aem] at h;exact wpAny_eqBool_str h
  «strs» := fun k x t v h=>by
    rcases Cy h with ⟨i,u,rfl,e⟩ | ⟨y,u,rfl,e⟩
    · exact nomatch e
    · injection e with e1 _
      subst e1
      cases v <;> rfl
end L2
namespace L2
open PySem PySem.Spec PyProof.Rows
inductive V where
  | non | bl (b:Bool) | int (i:Int) | str (x:Str) | byt (b:Array UInt8) | flt (b:UInt64) | ref (a:Addr) | ty (n:String)
  deriving DecidableEq
noncomputable def RelV:V→Value→Prop
  | .non,u=>u=Value.none
  | .bl b,u=>u=Value.bool b
  | .int i,u=>∃ t,u=Value.int i t
  | .str x,u=>∃ t,u=Value.str x t
  | .byt b,u=>∃ t,u=Value.bytes b t
  | .flt b,u=>∃ t,u=Value.float b t
  | .ref a,u=>u=Value.ref a
  | .ty n,u=>u=Value.type n
noncomputable abbrev Vals:List V→List Value→Prop:=Paired RelV
theorem Vals.length {xs:List V} {us:List Value} (r:Vals xs us):xs.length=us.length:=Paired.length r
theorem Vals.get:∀ {xs:List V} {us:List Value} {i:Nat} {x:V},Vals xs us→xs[i]? = some x→∃ u,us[i]? = some u∧RelV x u
  | _,_,_,_,.nil,e=>by simp at e
  | _,_,0,_,.cons r _,e=>by simp at e;subst e;exact ⟨_,rfl,r⟩
  | _,_,i+1,x,.cons _ t,e=>by
    obtain ⟨u,h1,h2⟩:=Vals.get (i:=i) (x:=x) t (by simpa using e)
    exact ⟨u,by simpa using h1,h2⟩
theorem Vals.append:∀ {xs ys:List V} {us ws:List Value},Vals xs us→Vals ys ws→Vals (xs ++ ys) (us ++ ws)
  | _,_,_,_,.nil,s=>s
  | _,_,_,_,.cons r t,s=>.cons r (Vals.append t s)
theorem Vals.take:∀ {xs:List V} {us:List Value} (n:Nat),Vals xs us→Vals (xs.take n) (us.take n)
  | _,_,0,_=>.nil
  | _,_,_+1,.nil=>.nil
  | _,_,n+1,.cons r t=>.cons r (Vals.take n t)
theorem Vals.drop:∀ {xs:List V} {us:List Value} (n:Nat),Vals xs us→Vals (xs.drop n) (us.drop n)
  | _,_,0,r=>r
  | _,_,_+1,.nil=>.nil
  | _,_,n+1,.cons _ t=>Vals.drop n t
noncomputable def Qf:Option V→Option Value→Prop
  | some v,some u=>RelV v u
  | none,none=>True
  | _,_=>False
noncomputable def KV {κ:Type}:List (κ × V)→List (κ × Value)→Prop:=Paired fun (p:κ × V) (q:κ × Value)=>p.1=q.1∧RelV p.2 q.2
noncomputable def kV:Key→V
  | .inl i=>.int i
  | .inr x=>.str x
inductive HO where
    | lst (xs:List V)
    | tup (xs:List V)
    | dK (kvs:List (Key × V)) | dT (kvs:List (List Key × V))
    | set (S:Int→Bool) (n:Nat)
    | ins (C dx:Addr) (fs:List (Str × V))
    | own (x:Addr)
    | xd (fs:List (Str × V))
    | met (f x:Addr)
    | rng (lo hi:Int)
    | frz (o:Obj) (u:HO)
    | tbl (ps:Array Value)
    | ext (φ:Heap→Prop)
noncomputable abbrev Hp:=Addr→Option HO
noncomputable def upd (H:Hp) (a:Addr) (o:HO):Hp:=fun b=>if b=a then some o else H b
theorem BP {H:Hp} {a:Addr} {o:HO}:upd H a o a=some o:=by unfold upd;rw [if_pos rfl]
theorem Bg {H:Hp} {a b:Addr} {o:HO} (h:b≠a):upd H a o b=H b:=by unfold upd;rw [if_neg h]
theorem BK {H:Hp} {a b:Addr} {o:HO} (h:H a=some o) (h':H b=none):a≠b:=by
  intro e;subst e;rw [h] at h';cases h'
section
variable (P:Program) (w:World)
noncomputable def Hh (H:Hp) (h:Heap) (a:Addr):HO→Prop
  | .lst xs=>xs.length≤sizeLine∧∃ (its:List Value) (n:Nat),Vals xs its∧h.get? a=some { cls:=.type "list",data:=.seq its.toArray n }
  | .tup xs=>xs.length≤sizeLine∧∃ its:List Value,Vals xs its∧IsTup h a its.toArray
  | .dK kvs=>kvs.length≤sizeLine∧(a == sysModules)=false∧∃ vs,KV kvs vs∧h.DictOf (W9 P w) a vs
  | .dT kvs=>kvs.length≤sizeLine∧(a == sysModules)=false∧∃ xs:List (List Key × Addr × Value),
      Paired (fun (p:List Key × V) (q:List Key × Addr × Value)=>p.1=q.1∧H q.2.1=some (.tup (p.1.map kV))∧RelV p.2 q.2.2) kvs xs ∧
      ∃ o es ep,h.get? a=some o∧o.ExactDict∧o.data=.dict es ep∧es.toList=xs.map (entryOfKey (tupleKind (W9 P w)))∧(xs.map (·.1)).Nodup
  | .set S n=>h.SetOf (intKind P w) a S n
  | .ins C dx fs=>H dx=some (.own a)∧fs.length≤1000∧dx≠a∧h.get? a=some (PySem.W.instObj C dx) ∧
      ∃ mA,h.Ns1 dx mA∧(∀ f,Qf (fs.lookup f) (mA f))∧PySem.Within mA (fs.map (·.1))
  | .own _=>∃ o,h.get? a=some o
  | .xd fs=>∃ mA,h.Ns1 a mA∧∀ f,Qf (fs.lookup f) (mA f)
  | .rng lo hi=>∃ t u v,h.get? a=some { cls:=.type "range",data:=.fields #[.int lo t,.int hi u,.int 1 v] }
  | .frz o u=>h.get? a=some o∧Hh H h a u
  | .tbl ps=>h.get? a=some { cls:=.none,data:=.fields ps }
  | .met f x=>h.get? a=some (PySem.W.methodObj (.ref f) (.ref x))
  | .ext φ=>φ h∧(∃ o,h.get? a=some o)∧∀ h1 h2:Heap,φ h1→(∀ o,h1.get? a=some o→h2.get? a=some o)→φ h2
noncomputable def HOk (H:Hp) (h:Heap):Prop:=∀ a o,H a=some o→Hh P w H h a o
end
section
variable {P:Program} {w:World} {H H':Hp} {h h':Heap} {a:Addr} {o:HO}
theorem Hh.lt (x:Hh P w H h a o):a < h.objs.size:=by
  cases o with
  | lst xs=>obtain ⟨_,_,_,_,e⟩:=x;exact Heap.lt_size e
  | tup xs=>obtain ⟨_,_,_,p⟩:=x;exact p.lt
  | dK kvs=>obtain ⟨_,_,_,_,o,_,_,e,_⟩:=x;exact Heap.lt_size e
  | dT kvs=>obtain ⟨_,_,_,_,o,_,_,e,_⟩:=x;exact Heap.lt_size e
  | set S n=>obtain ⟨o,_,_,_,e,_⟩:=x;exact Heap.lt_size e
  | ins C dx fs=>obtain ⟨_,_,_,e,_⟩:=x;exact Heap.lt_size e
  | own y=>obtain ⟨_,e⟩:=x;exact Heap.lt_size e
  | xd fs=>obtain ⟨_,⟨_,_,_,e,_⟩,_⟩:=x;exact Heap.lt_size e
  | rng lo hi=>obtain ⟨_,_,_,e⟩:=x;exact Heap.lt_size e
  | frz ob u=>obtain ⟨e,_⟩:=x;exact Heap.lt_size e
  | tbl ps=>exact Heap.lt_size (show h.get? a=some _ from x)
  | met f y=>exact Heap.lt_size (show h.get? a=some _ from x)
  | ext φ=>obtain ⟨_,⟨_,e⟩,_⟩:=x;exact Heap.lt_size e
theorem Paired.mapP {α β:Type} {F G:α→β→Prop}:∀ {l₁:List α} {l₂:List β},Paired F l₁ l₂→(∀ a b,F a b→G a b)→Paired G l₁ l₂
  | _,_,.nil,_=>.nil
  | _,_,.cons r t,f=>.cons (f _ _ r) (Paired.mapP t f)
theorem Hh.stay (x:Hh P w H h a o) (k:∀ b u,(b=a∨H b=some (.own a))→h.get? b=some u→h'.get? b=some u)
    (ho:∀ b,H b=some (.own a)→H' b=some (.own a)) (ht:∀ b xs,H b=some (.tup xs)→H' b=some (.tup xs)):Hh P w H' h' a o:=by
  induction o with
  | lst xs=>obtain ⟨z,its,n,r,e⟩:=x;exact ⟨z,its,n,r,k _ _ (.inl rfl) e⟩
  | tup xs=>obtain ⟨z,its,r,ob,e,c⟩:=x;exact ⟨z,its,r,ob,k _ _ (.inl rfl) e,c⟩
  | dK kvs=>obtain ⟨z,y,vs,r,ob,es,ep,e,c⟩:=x;exact ⟨z,y,vs,r,ob,es,ep,k _ _ (.inl rfl) e,c⟩
  | dT kvs =>
    obtain ⟨z,y,xs,r,ob,es,ep,e,c⟩:=x
    exact ⟨z,y,xs,Paired.mapP r fun p q z=>⟨z.1,ht _ _ z.2.1,z.2.2⟩,ob,es,ep,k _ _ (.inl rfl) e,c⟩
  | set S n=>obtain ⟨ob,es,ep,t,e,c⟩:=x;exact ⟨ob,es,ep,t,k _ _ (.inl rfl) e,c⟩
  | ins C dx fs =>
    obtain ⟨d,z,ne,e,mA,⟨od,es,ep,e2,c⟩,r⟩:=x
    exact ⟨ho _ d,z,ne,k _ _ (.inl rfl) e,mA,⟨od,es,ep,k _ _ (.inr d) e2,c⟩,r⟩
  | own y=>obtain ⟨ob,e⟩:=x;exact ⟨ob,k _ _ (.inl rfl) e⟩
  | xd fs=>obtain ⟨mA,⟨od,es,ep,e,c⟩,r⟩:=x;exact ⟨mA,⟨od,es,ep,k _ _ (.inl rfl) e,c⟩,r⟩
  | rng lo hi=>obtain ⟨t,u,v,e⟩:=x;exact ⟨t,u,v,k _ _ (.inl rfl) e⟩
  | frz ob u ih=>obtain ⟨e,q⟩:=x;exact ⟨k _ _ (.inl rfl) e,ih q⟩
  | tbl ps =>
    have e:h.get? a=some { cls:=.none,data:=.fields ps }:=x
    show h'.get? a=some { cls:=.none,data:=.fields ps }
    exact k a _ (.inl rfl) e
  | met f y =>
    have e:h.get? a=some (PySem.W.methodObj (.ref f) (.ref y)):=x
    show h'.get? a=some (PySem.W.methodObj (.ref f) (.ref y))
    exact k a _ (.inl rfl) e
  | ext φ=>obtain ⟨p,⟨o,e⟩,st⟩:=x;exact ⟨st _ _ p fun o q=>k _ _ (.inl rfl) q,⟨o,k _ _ (.inl rfl) e⟩,st⟩
theorem HOk.lt (x:HOk P w H h) (e:H a=some o):a < h.objs.size:=(x a o e).lt
theorem HOk.fresh (x:HOk P w H h) (e:h.objs.size≤a):H a=none:=by
  cases q:H a with
  | none=>rfl
  | some u=>exact absurd (Nat.lt_of_lt_of_le (x.lt q) e) (Nat.lt_irrefl _)
theorem HOk.kept (x:HOk P w H h) (k:∀ b u,h.get? b=some u→h'.get? b=some u):HOk P w H h':=fun a o e =>
  (x a o e).stay (fun b u _ q=>k b u q) (fun _ q=>q) fun _ _ q=>q
theorem HOk.laid (x:HOk P w H h) (k:∀ b u,h.get? b=some u→h'.get? b=some u) (hp:h.objs.size≤a) (new:Hh P w (upd H a o) h' a o):HOk P w (upd H a o) h':=fun b u e=>by
  have hn:=x.fresh hp
  by_cases hb:b=a
  · subst hb;rw [BP] at e;cases e;exact new
  · rw [Bg hb] at e
    exact (x b u e).stay (fun c v _ q=>k c v q) (fun c q=>by rw [Bg (BK q hn)];exact q) fun c xs q=>by rw [Bg (BK q hn)];exact q
end
noncomputable def Rd (H:Hp) (a:Addr) (u:HO):Prop:=H a=some u∨∃ o,H a=some (.frz o u)
theorem Rd.ok {P:Program} {w:World} {H:Hp} {h:Heap} {a:Addr} {u:HO} (r:Rd H a u) (x:HOk P w H h):Hh P w H h a u:=by
  rcases r with r | ⟨o,r⟩
  · exact x a u r
  · obtain ⟨_,q⟩:=x a _ r
    exact q
noncomputable def Mut:Option HO→Prop
  | some (.lst _)=>True
  | some (.dK _)=>True
  | some (.dT _)=>True
  | some (.set _ _)=>True
  | some (.ins _ _ _)=>True
  | some (.ext _)=>True
  | _=>False
section
variable {P:Program} {w:World} {H:Hp} {h h':Heap} {x e:Addr} {o':HO}
theorem HOk.write (ok:HOk P w H h) (mu:Mut (H x)) (he:e=x∨H e=some (.own x)) (k:∀ b u,b≠e→h.get? b=some u→h'.get? b=some u) (heo:∃ u,h'.get? e=some u)
    (new:Hh P w (upd H x o') h' x o'):HOk P w (upd H x o') h':=fun b u q=>by
  have nown:∀ c y,H c=some (.own y)→c≠x:=fun c y r z=>by subst z;rw [r] at mu;exact mu
  have ntup:∀ c xs,H c=some (.tup xs)→c≠x:=fun c xs r z=>by subst z;rw [r] at mu;exact mu
  by_cases hb:b=x
  · subst hb;rw [BP] at q;cases q;exact new
  · rw [Bg hb] at q
    by_cases hbe:b=e
    · have q':H b=some (.own x):=by
        rcases he with z | z
        · exact absurd (hbe.trans z) hb
        · rw [hbe];exact z
      rw [q] at q';cases q'
      obtain ⟨v,hv⟩:=heo
      exact ⟨v,by rw [hbe];exact hv⟩
    · refine (ok b u q).stay (fun c v hc r=>k c v ?_ r) (fun c r=>by rw [Bg (nown c b r)];exact r) fun c xs r=>by rw [Bg (ntup c xs r)];exact r
      rcases hc with rfl | hc
      · exact hbe
      · rintro rfl
        rcases he with z | z
        · exact nown c b hc z
        · rw [hc] at z;cases z;exact hb rfl
end
structure Un (fs ex:List Addr) (H H':Hp) (h h':Heap):Prop where
  keep:∀ b o,h.get? b=some o→H b=none→b∉fs→b∉ex→h'.get? b=some o
  slot:∀ b o,h.get? b=some o→H b=none→b∈fs→b∉ex→∃ sl,h'.get? b=some { o with slots:=sl }
  free:∀ b o,h.get? b=some o→H b=none→b∉ex→H' b=none
  there:∀ b o,h.get? b=some o→b∉ex→∃ o',h'.get? b=some o'
  tups:∀ b xs,H b=some (.tup xs)→H' b=some (.tup xs)
  frzs:∀ b o u,H b=some (.frz o u)→H' b=some (.frz o u)
  tbls:∀ b ps,H b=some (.tbl ps)→∃ more,H' b=some (.tbl (ps ++ more))
section
variable {fs fs' ex ex':List Addr} {H H1 H2:Hp} {h h1 h2 h':Heap} {a x e:Addr} {o:HO}
theorem Un.any (u:Un fs ex H H1 h h1) {b:Addr} {ob:Obj} (q:h.get? b=some ob) (n:H b=none) (hx:b∉ex):∃ sl,h1.get? b=some { ob with slots:=sl }:=by
  by_cases hb:b∈fs
  · exact u.slot b ob q n hb hx
  · exact ⟨ob.slots,u.keep b ob q n hb hx⟩
theorem Un.trans (a:Un fs ex H H1 h h1) (b:Un fs ex H1 H2 h1 h2):Un fs ex H H2 h h2 where
  keep:=fun c ob q n hc hx=>b.keep c ob (a.keep c ob q n hc hx) (a.free c ob q n hx) hc hx
  slot:=fun c ob q n hc hx=>by
    obtain ⟨sl,e1⟩:=a.slot c ob q n hc hx
    obtain ⟨sl',e2⟩:=b.slot c _ e1 (a.free c ob q n hx) hc hx
    exact ⟨sl',e2⟩
  free:=fun c ob q n hx=>by
    obtain ⟨o',e1⟩:=a.there c ob q hx
    exact b.free c o' e1 (a.free c ob q n hx) hx
  there:=fun c ob q hx=>by
    obtain ⟨o',e1⟩:=a.there c ob q hx
    exact b.there c o' e1 hx
  tups:=fun c xs q=>b.tups c xs (a.tups c xs q)
  frzs:=fun c ob xs q=>b.frzs c ob xs (a.frzs c ob xs q)
  tbls:=fun c ps q=>by
    obtain ⟨m1,e1⟩:=a.tbls c ps q
    obtain ⟨m2,e2⟩:=b.tbls c _ e1
    exact ⟨m1 ++ m2,by rw [e2,Array.append_assoc]⟩
theorem Un.kept (k:∀ b u,h.get? b=some u→h'.get? b=some u):Un fs ex H H h h' :=
  ⟨fun b ob q _ _ _=>k b ob q,fun b ob q _ _ _=>⟨ob.slots,k b ob q⟩,fun _ _ _ n _=>n,fun b ob q _=>⟨ob,k b ob q⟩,fun _ _ q=>q,fun _ _ _ q=>q,fun _ ps q=>⟨#[],by rw [q];simp⟩⟩
theorem Un.refl:Un fs ex H H h h:=Un.kept fun _ _ q=>q
theorem Un.laid (k:∀ b u,h.get? b=some u→h'.get? b=some u) (hp:h.objs.size≤a) (hn:H a=none):Un fs ex H (upd H a o) h h' where
  keep:=fun b u q _ _ _=>k b u q
  slot:=fun b u q _ _ _=>⟨u.slots,k b u q⟩
  free:=fun b u q n _=>by rw [Bg (Nat.ne_of_lt (Nat.lt_of_lt_of_le (Heap.lt_size q) hp))];exact n
  there:=fun b u q _=>⟨u,k b u q⟩
  tups:=fun b xs q=>by rw [Bg (BK q hn)];exact q
  frzs:=fun b u xs q=>by rw [Bg (BK q hn)];exact q
  tbls:=fun b ps q=>⟨#[],by rw [Bg (BK q hn),q];simp⟩
theorem Un.write (mu:Mut (H x)) (he:e=x∨H e=some (.own x)) (k:∀ b u,b≠e→h.get? b=some u→h'.get? b=some u) (heo:∃ u,h'.get? e=some u):Un fs ex H (upd H x o) h h':=by
  have hx:∀ b,H b=none→b≠x:=fun b n z=>by subst z;rw [n] at mu;exact mu
  have hb:∀ b,H b=none→b≠e:=fun b n z=>by
    subst z
    rcases he with r | r
    · exact hx b n r
    · rw [n] at r;cases r
  have hm:∀ b u,H b=some u→¬ Mut (some u)→b≠x:=fun b u q nm z=>by subst z;rw [q] at mu;exact nm mu
  refine ⟨fun b u q n _ _=>k b u (hb b n) q,fun b u q n _ _=>⟨u.slots,k b u (hb b n) q⟩,fun b u q n _=>by rw [Bg (hx b n)];exact n,fun b u q _=>?_,
    fun b xs q=>by rw [Bg (hm b _ q fun z=>z)];exact q,fun b u xs q=>by rw [Bg (hm b _ q fun z=>z)];exact q,fun b ps q=>⟨#[],by rw [Bg (hm b _ q fun z=>z),q];simp⟩⟩
  by_cases hbe:b=e
  · subst hbe;exact heo
  · exact ⟨u,k b u hbe q⟩
end
noncomputable def trk (h:Heap) (H:Hp):List Addr:=(List.range h.objs.size).filter fun a=>(H a).isSome
noncomputable def S6 (h:Heap) (H:Hp):Heap:=PySem.W.hideAll h (trk h H)
theorem Ym (h:Heap) (H:Hp):(S6 h H).objs.size=h.objs.size:=PySem.W.hideAll_size _ _
theorem Aam {h:Heap} {H:Hp} {b:Addr} {o:Obj} (e:h.get? b=some o) (n:H b=none):(S6 h H).get? b=some o :=
  PySem.W.hideAll_get _ e fun hm=>by
    have q:(H b).isSome=true:=(List.mem_filter.mp hm).2
    rw [n] at q;simp at q
theorem Aa4 {h:Heap} {H:Hp} {b:Addr} {o:Obj} (e:(S6 h H).get? b=some o):h.get? b=some o∧H b=none:=by
  have e':h.get? b=some o:=PySem.W.of_hideAll (trk h H) e
  refine ⟨e',?_⟩
  cases q:H b with
  | none=>rfl
  | some x =>
    have hm:b∈trk h H:=List.mem_filter.mpr ⟨List.mem_range.mpr (Heap.lt_size e'),by simp [q]⟩
    have z:(S6 h H).get? b=none:=PySem.W.hideAll_none (trk h H) hm
    rw [z] at e;cases e
noncomputable def AbJ (g h:Heap) (L:Addr):List (Addr × Obj):=(List.range h.objs.size).filterMap fun a=>if a=L∨(g.get? a).isSome=true then none else (h.get? a).map fun o=>(a,o)
noncomputable def rest (g h:Heap) (L d:Addr):List (Addr × Obj):=(AbJ g h L).filter fun p=>decide (p.1≠d)
end L2
namespace L2
open PySem PySem.Spec PyProof.Rows
structure Mod (K:PySem.W.Frag) (mg:Str→Option Value) (base:Heap):Prop where
  kin:K.In base
  glob:base.Ns mainGlobals mg
  blt:∃ mb,base.Ns builtinsNs mb∧∀ x:Str,x≠"__name__"→mb x=bootBuiltins x
  nolimit:base.NoLimit
structure Cx where
  prog:Program
  w:World
  K:PySem.W.Frag
  mg:Str→Option Value
  base:Heap
  A:Around
  N:List Str
  s₀:Shared
  H₀:Hp
  env:Env
  outer:List Env
  stack:List Env
  ex:List Addr
  fn:Str→Bool
  calm:Bool
  pn:List (Addr × Obj)
  xe:Value→Shared→Prop
noncomputable def frs (l:List Env):List Addr:=l.filterMap (·.frame)
noncomputable abbrev Cx.fs (X:Cx):List Addr:=frs X.outer
noncomputable def Vis (sc:Scope) (x:Str):Prop:=sc.names.lookup x=some .local∨sc.names.lookup x=some .cell∨sc.names.lookup x=some .free
noncomputable def Loc (sc:Scope) (x:Str):Prop:=sc.names.lookup x=some .local∨sc.names.lookup x=some .cell
noncomputable def Look (env:Env) (h:Heap) (m:Str→Option Value) (x:Str) (u:Value):Prop :=
  (env.kindOf x=some .local∧m x=some u)∨((env.kindOf x=some .cell∨env.kindOf x=some .free)∧∃ c,env.cells.lookup x=some c∧h.IsCell c (some u))
structure Cx.Ok (X:Cx):Prop where
  mod:Mod X.K X.mg X.base
  kind:X.env.scope.kind=.function
  glob:X.env.globals=mainGlobals
  blt:X.env.builtins=builtinsNs
  above:X.s₀.heap.objs.size≤X.env.locals
  inj:∀ x y c,X.env.cells.lookup x=some c→X.env.cells.lookup y=some c→x=y
  has:∀ x,(X.env.kindOf x=some .cell∨X.env.kindOf x=some .free)→∃ c,X.env.cells.lookup x=some c
  cab:∀ x c,X.fn x=true→X.env.cells.lookup x=some c→X.s₀.heap.objs.size≤c
  hd:X.calm=true→X.A.handled=none
  frames:X.A.frames=some X.stack
  stk:X.stack=X.outer∨(X.stack=X.env :: X.outer∧X.env.frame=some X.env.locals)
  exf:∀ b∈X.ex,b≠X.env.locals∧∀ x c,X.env.cells.lookup x=some c→c≠b
  bs:∀ b o,X.base.get? b=some o→X.s₀.heap.get? b=some o∧X.H₀ b=none
  bsz:X.base.objs.size≤X.s₀.heap.objs.size
  noex:∀ b o,X.base.get? b=some o→b∉X.ex
  exfs:∀ b∈X.ex,b∉X.fs
  funs:X.s₀.heap.FunFrames X.base X.outer
  frf:∀ b∈X.fs,X.H₀ b=none
structure Inv (X:Cx) (pins:List (Addr × Obj)) (σ:List (Option V)) (H:Hp) (s:Shared):Prop where
  ok:X.Ok
  os:s.os=X.s₀.os
  bare:AllBare s.gens
  base:Un X.fs X.ex X.H₀ H X.s₀.heap s.heap
  loc:∃ m,s.heap.Ns X.env.locals m∧∀ (i:Nat) (x:Str) (v:V),X.N[i]? = some x→σ[i]? = some (some v)→Vis X.env.scope x→∃ u,RelV v u∧Look X.env s.heap m x u
  cell:∀ x c,X.env.cells.lookup x=some c→∃ v,s.heap.IsCell c v
  free:H X.env.locals=none
  freeC:∀ x c,X.env.cells.lookup x=some c→H c=none
  pin:∀ p∈X.pn ++ pins,s.heap.get? p.1=some p.2∧H p.1=none∧p.1≠X.env.locals∧p.1∉X.fs∧∀ v,p.2.data≠.cell v
  hok:HOk X.prog X.w H s.heap
  len:σ.length=X.N.length
section
variable {X:Cx} {pins:List (Addr × Obj)} {σ:List (Option V)} {H H':Hp} {s:Shared} {h':Heap}
theorem Cx.Ok.nofr (ok:X.Ok) {b:Addr} {o:Obj} (e:X.base.get? b=some o):b∉X.fs:=fun hb=>by
  have:=(ok.funs.mem hb).1
  rw [e] at this;cases this
theorem Inv.bs (I:Inv X pins σ H s):∀ b o,X.base.get? b=some o→s.heap.get? b=some o∧H b=none:=fun b o e =>
  ⟨I.base.keep b o (I.ok.bs b o e).1 (I.ok.bs b o e).2 (I.ok.nofr e) (I.ok.noex b o e),I.base.free b o (I.ok.bs b o e).1 (I.ok.bs b o e).2 (I.ok.noex b o e)⟩
theorem Inv.bk (I:Inv X pins σ H s):∀ b o,X.base.get? b=some o→s.heap.get? b=some o:=fun b o e=>(I.bs b o e).1
theorem Inv.mod (I:Inv X pins σ H s):Mod X.K X.mg X.base:=I.ok.mod
theorem Inv.kIn (I:Inv X pins σ H s):X.K.In s.heap:=I.ok.mod.kin.keeps I.bk
theorem Inv.lt (I:Inv X pins σ H s):X.env.locals < s.heap.objs.size:=let ⟨_,hn,_⟩:=I.loc;hn.lt
theorem Inv.sz (I:Inv X pins σ H s):X.s₀.heap.objs.size≤s.heap.objs.size:=Nat.le_trans I.ok.above (Nat.le_of_lt I.lt)
theorem Inv.nofs (I:Inv X pins σ H s) {a:Addr} (h:s.heap.objs.size≤a):a∉X.fs:=fun hb=>by
  obtain ⟨_,o,ho,_⟩:=I.ok.funs.mem hb
  exact absurd (Nat.lt_of_lt_of_le (Heap.lt_size ho) (Nat.le_trans I.sz h)) (Nat.lt_irrefl _)
theorem Inv.cne (I:Inv X pins σ H s):∀ x c,X.env.cells.lookup x=some c→c≠X.env.locals:=fun x c e z=>by
  obtain ⟨v,o,ho,hd⟩:=I.cell x c e
  obtain ⟨m,⟨o',es,ep,ho',hd',_⟩,_⟩:=I.loc
  rw [z,ho'] at ho;cases ho;rw [hd'] at hd;cases hd
theorem Inv.funs (I:Inv X pins σ H s):s.heap.FunFrames X.base X.outer:=by
  have all:∀ (l:List Env),(∀ b∈frs l,b∈X.fs)→X.s₀.heap.FunFrames X.base l→s.heap.FunFrames X.base l:=by
    intro l
    induction l with
    | nil=>intro _ _;trivial
    | cons env r ih =>
      intro hs hl
      obtain ⟨hk,⟨L,o,hf,hn,ho,hd⟩,hr⟩:=hl
      have hL:L∈X.fs:=hs L (by unfold frs;rw [List.filterMap_cons,hf];exact List.mem_cons_self)
      obtain ⟨sl,e⟩:=I.base.slot L o ho (I.ok.frf L hL) hL fun z=>I.ok.exfs L z hL
      exact ⟨hk,⟨L,_,hf,hn,e,hd⟩,ih (fun b hb=>hs b (by unfold frs;rw [List.filterMap_cons,hf];exact List.mem_cons_of_mem _ hb)) hr⟩
  exact all X.outer (fun _ hb=>hb) I.ok.funs
theorem Inv.stack (I:Inv X pins σ H s):s.heap.FunFrames X.base X.stack:=by
  rcases I.ok.stk with e | ⟨e,hf⟩
  · rw [e];exact I.funs
  · rw [e]
    obtain ⟨m,hn,_⟩:=I.loc
    refine .cons (by rw [I.ok.kind];decide) hf hn ?_ I.funs
    exact Heap.get?_none_of_le (Nat.le_trans I.ok.bsz I.ok.above)
theorem Inv.stkSub (I:Inv X pins σ H s):∀ b∈frs X.stack,b∈X.env.locals :: X.fs:=fun b hb=>by
  rcases I.ok.stk with e | ⟨e,hf⟩
  · rw [e] at hb;exact List.mem_cons_of_mem _ hb
  · rw [e] at hb
    unfold frs at hb
    rw [List.filterMap_cons,hf] at hb
    exact hb
theorem Inv.stkFree (I:Inv X pins σ H s):∀ b∈frs X.stack,H b=none:=fun b hb=>by
  rcases List.mem_cons.mp (I.stkSub b hb) with e | hb
  · rw [e];exact I.free
  · obtain ⟨_,o,ho,_⟩:=I.ok.funs.mem hb
    exact I.base.free b o ho (I.ok.frf b hb) fun z=>I.ok.exfs b z hb
theorem Inv.step {g':Array GenState} {t':Nat} {d':Drawn} {ch:List Addr} (I:Inv X pins σ H s)
    (hch:∀ b∈ch,(b∈X.ex∨X.s₀.heap.objs.size≤b)∧b≠X.env.locals∧(∀ x c,X.env.cells.lookup x=some c→c≠b)∧∀ p∈X.pn ++ pins,p.1≠b)
    (keep:∀ b o,b≠X.env.locals→b∉X.fs→b∉ch→s.heap.get? b=some o→H b=none→h'.get? b=some o)
    (slot:∀ b o,b≠X.env.locals→b∈X.fs→b∉ch→s.heap.get? b=some o→H b=none→∃ sl,h'.get? b=some { o with slots:=sl }) (free:∀ b o,b∉ch→s.heap.get? b=some o→H b=none→H' b=none)
    (there:∀ b o,b∉ch→s.heap.get? b=some o→∃ o',h'.get? b=some o')
    (tups:∀ b xs,H b=some (.tup xs)→H' b=some (.tup xs)) (frzs:∀ b o u,H b=some (.frz o u)→H' b=some (.frz o u)) (tbls:∀ b ps,H b=some (.tbl ps)→∃ more,H' b=some (.tbl (ps ++ more)))
    (ns:∀ m,s.heap.Ns X.env.locals m→h'.Ns X.env.locals m) (hok:HOk X.prog X.w H' h') (hg:AllBare g') :
    Inv X pins σ H' { s with heap:=h',gens:=g',drawn:=d',toks:=t' }:=by
  have neL:∀ b o,X.s₀.heap.get? b=some o→b≠X.env.locals:=fun b o e=>Nat.ne_of_lt (Nat.lt_of_lt_of_le (Heap.lt_size e) I.ok.above)
  have neC:∀ b o,X.s₀.heap.get? b=some o→b∉X.ex→b∉ch:=fun b o e hx hb=>by
    rcases (hch b hb).1 with z | z
    · exact hx z
    · exact absurd (Nat.lt_of_lt_of_le (Heap.lt_size e) z) (Nat.lt_irrefl _)
  have cellK:∀ x c,X.env.cells.lookup x=some c→∀ v,s.heap.IsCell c v→h'.IsCell c v:=fun x c e v ⟨o,ho,hd⟩=>by
    have nch:c∉ch:=fun z=>(hch c z).2.2.1 x c e rfl
    by_cases hc:c∈X.fs
    · obtain ⟨sl,q⟩:=slot c o (I.cne x c e) hc nch ho (I.freeC x c e)
      exact ⟨_,q,hd⟩
    · exact ⟨o,keep c o (I.cne x c e) hc nch ho (I.freeC x c e),hd⟩
  refine ⟨I.ok,I.os,hg,⟨fun b o e n hb hx=>?_,fun b o e n hb hx=>?_,fun b o e n hx=>?_,fun b o e hx=>?_,fun b xs e=>tups b xs (I.base.tups b xs e),fun b o xs e=>frzs b o xs (I.base.frzs b o xs e),fun b ps e=>?_⟩,?_,fun x c e=>?_,?_,fun x c e=>?_,fun p hp=>?_,hok,I.len⟩
  · exact keep b o (neL b o e) hb (neC b o e hx) (I.base.keep b o e n hb hx) (I.base.free b o e n hx)
  · obtain ⟨sl,e1⟩:=I.base.slot b o e n hb hx
    obtain ⟨sl',e2⟩:=slot b _ (neL b o e) hb (neC b o e hx) e1 (I.base.free b o e n hx)
    exact ⟨sl',e2⟩
  · obtain ⟨o',e1⟩:=I.base.there b o e hx
    exact free b o' (neC b o e hx) e1 (I.base.free b o e n hx)
  · obtain ⟨o',e1⟩:=I.base.there b o e hx
    exact there b o' (neC b o e hx) e1
  · obtain ⟨m1,e1⟩:=I.base.tbls b ps e
    obtain ⟨m2,e2⟩:=tbls b _ e1
    exact ⟨m1 ++ m2,by rw [e2,Array.append_assoc]⟩
  · obtain ⟨m,hn,hl⟩:=I.loc
    refine ⟨m,ns m hn,fun i x v e1 e2 e3=>?_⟩
    obtain ⟨u,r,l⟩:=hl i x v e1 e2 e3
    refine ⟨u,r,?_⟩
    rcases l with l | ⟨k,c,e,z⟩
    · exact .inl l
    · exact .inr ⟨k,c,e,cellK x c e _ z⟩
  · obtain ⟨v,z⟩:=I.cell x c e
    exact ⟨v,cellK x c e v z⟩
  · obtain ⟨m,⟨o,_,_,ho,_⟩,_⟩:=I.loc
    exact free _ o (fun z=>(hch _ z).2.1 rfl) ho I.free
  · obtain ⟨v,o,ho,hd⟩:=I.cell x c e
    exact free c o (fun z=>(hch c z).2.2.1 x c e rfl) ho (I.freeC x c e)
  · obtain ⟨e,n,ne,nf,d⟩:=I.pin p hp
    have nch:p.1∉ch:=fun z=>(hch p.1 z).2.2.2 p hp rfl
    exact ⟨keep p.1 p.2 ne nf nch e n,free p.1 p.2 nch e n,ne,nf,d⟩
theorem Inv.un {t':Nat} (I:Inv X pins σ H s) (u:Un X.fs [] H H' s.heap h') (hok:HOk X.prog X.w H' h'):Inv X pins σ H' { s with heap:=h',toks:=t' }:=by
  obtain ⟨m,⟨o,es,ep,ho,r⟩,_⟩:=id I.loc
  obtain ⟨sl,hL⟩:=u.any ho I.free (by simp)
  exact I.step (g':=s.gens) (d':=s.drawn) (ch:=[]) (fun _ z=>nomatch z) (fun b o _ hb _ e n=>u.keep b o e n hb (by simp)) (fun b o _ hb _ e n=>u.slot b o e n hb (by simp)) (fun b o _ e n=>u.free b o e n (by simp)) (fun b o _ e=>u.there b o e (by simp)) u.tups u.frzs u.tbls (fun m' hm=>by
    obtain ⟨o',es',ep',ho',r'⟩:=hm
    rw [ho] at ho';cases ho'
    exact ⟨_,es',ep',hL,r'⟩) hok I.bare
theorem Inv.call {g':Array GenState} {t':Nat} {d':Drawn} {ch:List Addr} (I:Inv X pins σ H s) (u:Un (frs X.stack) ch H H' s.heap h') (hok:HOk X.prog X.w H' h') (hg:AllBare g')
    (hch:∀ b∈ch,(b∈X.ex∨X.s₀.heap.objs.size≤b)∧b≠X.env.locals∧(∀ x c,X.env.cells.lookup x=some c→c≠b)∧∀ p∈X.pn ++ pins,p.1≠b) :
    Inv X pins σ H' { s with heap:=h',gens:=g',drawn:=d',toks:=t' }:=by
  obtain ⟨m,⟨o,es,ep,ho,r⟩,_⟩:=id I.loc
  obtain ⟨sl,hL⟩:=u.any ho I.free fun z=>(hch _ z).2.1 rfl
  exact I.step (ch:=ch) hch (fun b o hL hb hc e n=>u.keep b o e n (fun z=>(List.mem_cons.mp (I.stkSub b z)).elim hL hb) hc) (fun b o _ _ hc e n=>u.any e n hc) (fun b o hc e n=>u.free b o e n hc) (fun b o hc e=>u.there b o e hc) u.tups u.frzs u.tbls (fun m' hm=>by
    obtain ⟨o',es',ep',ho',r'⟩:=hm
    rw [ho] at ho';cases ho'
    exact ⟨_,es',ep',hL,r'⟩) hok hg
theorem Inv.turned {t':Nat} {it:Addr} (I:Inv X pins σ H s) (k:∀ b o,b≠it→s.heap.get? b=some o→h'.get? b=some o) (hn:H it=none) (hL:it≠X.env.locals)
    (h1:it∈X.ex∨X.s₀.heap.objs.size≤it) (h2:∀ x c,X.env.cells.lookup x=some c→c≠it) (h3:∀ p∈X.pn ++ pins,p.1≠it):Inv X pins σ H { s with heap:=h',toks:=t' }:=by
  have nit:∀ b u,H b=some u→b≠it:=fun b u e z=>by rw [z,hn] at e;cases e
  refine I.step (g':=s.gens) (d':=s.drawn) (ch:=[it]) (fun b hb=>?_) (fun b o _ _ hc e _=>k b o (fun z=>hc (by simp [z])) e) (fun b o _ _ hc e _=>⟨o.slots,k b o (fun z=>hc (by simp [z])) e⟩) (fun _ _ _ _ n=>n)
    (fun b o hc e=>⟨o,k b o (fun z=>hc (by simp [z])) e⟩) (fun _ _ e=>e) (fun _ _ _ e=>e) (fun b ps e=>⟨#[],by rw [e];simp⟩) (fun m hm=>?_) (fun b u e=>?_) I.bare
  · have e:b=it:=by simpa using hb
    subst e
    exact ⟨h1,hL,h2,h3⟩
  · obtain ⟨o,es,ep,ho,r⟩:=hm
    exact ⟨o,es,ep,k _ o (Ne.symm hL) ho,r⟩
  · refine (I.hok b u e).stay (fun c v hc q=>k c v ?_ q) (fun _ q=>q) fun _ _ q=>q
    rcases hc with z | z
    · rw [z];exact nit b u e
    · exact nit c _ z
theorem Inv.tok (I:Inv X pins σ H s) (t:Nat):Inv X pins σ H { s with toks:=t }:=I.un (h':=s.heap) (t':=t) Un.refl I.hok
theorem Inv.kept {t':Nat} (I:Inv X pins σ H s) (k:∀ b u,s.heap.get? b=some u→h'.get? b=some u):Inv X pins σ H { s with heap:=h',toks:=t' }:=I.un (Un.kept k) (I.hok.kept k)
theorem Inv.laid {a:Addr} {o:HO} {t':Nat} (I:Inv X pins σ H s) (k:∀ b u,s.heap.get? b=some u→h'.get? b=some u) (hp:s.heap.objs.size≤a) (new:Hh X.prog X.w (upd H a o) h' a o) :
    Inv X pins σ (upd H a o) { s with heap:=h',toks:=t' }:=I.un (Un.laid k hp (I.hok.fresh hp)) (I.hok.laid k hp new)
theorem Inv.write {x e:Addr} {o:HO} {t':Nat} (I:Inv X pins σ H s) (mu:Mut (H x)) (he:e=x∨H e=some (.own x)) (k:∀ b u,b≠e→s.heap.get? b=some u→h'.get? b=some u) (heo:∃ u,h'.get? e=some u)
    (new:Hh X.prog X.w (upd H x o) h' x o):Inv X pins σ (upd H x o) { s with heap:=h',toks:=t' }:=I.un (Un.write mu he k heo) (I.hok.write mu he k heo new)
theorem Inv.pins_of {pins':List (Addr × Obj)} (I:Inv X pins σ H s) (h:∀ p∈pins',s.heap.get? p.1=some p.2∧H p.1=none∧p.1≠X.env.locals∧p.1∉X.fs∧∀ v,p.2.data≠.cell v):Inv X pins' σ H s :=
  ⟨I.ok,I.os,I.bare,I.base,I.loc,I.cell,I.free,I.freeC,fun p hp=>(List.mem_append.mp hp).elim (fun z=>I.pin p (List.mem_append_left _ z)) (h p),I.hok,I.len⟩
theorem Ud {N:List Str} (hN:N.Nodup) {i j:Nat} {x:Str} (a:N[i]? = some x) (b:N[j]? = some x):i=j:=by
  obtain ⟨h1,e1⟩:=List.getElem?_eq_some_iff.mp a
  obtain ⟨h2,e2⟩:=List.getElem?_eq_some_iff.mp b
  exact (List.getElem_inj hN).mp (e1.trans e2.symm)
theorem Rb {M:Model} {A:Around} {E:Value→Shared→Prop} {i:Nat} {x:Str} {v:V} {u:Value} {Q:Unit→Shared→Prop} (I:Inv X pins σ H s) (hN:X.N.Nodup) (hi:X.N[i]? = some x) (hx:Loc X.env.scope x) (r:RelV v u)
    (h:∀ s',Inv X pins (σ.set i (some v)) H s'→(∃ a,Heap.SameBut a s.heap s'.heap∧(a=X.env.locals∨X.env.cells.lookup x=some a))→Q () s') (hf:X.fn x=true∨X.env.scope.names.lookup x=some .local:=by first | exact .inl rfl | exact .inr rfl | assumption):wpAny M A (storeName X.env x u) Q E s:=by
  obtain ⟨m,hn,hl⟩:=id I.loc
  have hcls:(X.env.scope.kind == .class || (X.env.scope.kind == .module && X.env.locals != X.env.globals))=false:=by rw [I.ok.kind];rfl
  have hiσ:i < σ.length:=by rw [I.len];exact (List.getElem?_eq_some_iff.mp hi).1
  have cne:=I.cne
  have tracked:∀ {a:Addr} {h':Heap},(∃ o,s.heap.get? a=some o∧H a=none)→Heap.SameBut a s.heap h'→HOk X.prog X.w H h':=fun {a h'} ha hs b ob e=>by
    obtain ⟨_,_,hfree⟩:=ha
    refine (I.hok b ob e).stay (fun c w' hc q=>(hs.2 c ?_).trans q) (fun _ q=>q) fun _ _ q=>q
    rintro rfl
    rcases hc with rfl | hc
    · rw [hfree] at e;cases e
    · rw [hfree] at hc;cases hc
  rcases hx with hk | hk
  · refine wpAny_storeName_local hk hn (fun h' hn' hs=>?_) hcls
    obtain ⟨oL,_,_,hoL,_⟩:=id hn
    refine h _ ⟨I.ok,I.os,I.bare,⟨fun b o e n hb hx=>?_,fun b o e n hb hx=>?_,I.base.free,fun b o e hx=>?_,I.base.tups,I.base.frzs,I.base.tbls⟩,⟨_,hn',fun j y v' e1 e2 e3=>?_⟩,fun y c e=>?_,I.free,I.freeC,fun p hp=>?_,tracked ⟨oL,hoL,I.free⟩ hs,by simpa using I.len⟩ ⟨_,hs,.inl rfl⟩
    · exact (hs.2 b (Nat.ne_of_lt (Nat.lt_of_lt_of_le (Heap.lt_size e) I.ok.above))).trans (I.base.keep b o e n hb hx)
    · obtain ⟨sl,e1⟩:=I.base.slot b o e n hb hx
      exact ⟨sl,(hs.2 b (Nat.ne_of_lt (Nat.lt_of_lt_of_le (Heap.lt_size e) I.ok.above))).trans e1⟩
    · obtain ⟨o',e1⟩:=I.base.there b o e hx
      exact ⟨o',(hs.2 b (Nat.ne_of_lt (Nat.lt_of_lt_of_le (Heap.lt_size e) I.ok.above))).trans e1⟩
    · by_cases hj:j=i
      · subst hj
        rw [hi] at e1;cases e1
        rw [List.getElem?_set_self hiσ] at e2
        cases e2
        exact ⟨u,r,.inl ⟨hk,by simp⟩⟩
      · rw [List.getElem?_set_ne (Ne.symm hj)] at e2
        obtain ⟨u',r',q⟩:=hl j y v' e1 e2 e3
        refine ⟨u',r',?_⟩
        rcases q with ⟨k,e⟩ | ⟨k,c,e,z⟩
        · refine .inl ⟨k,?_⟩
          have:y≠x:=fun e=>hj (Ud hN e1 (e ▸ hi))
          simp [this,e]
        · exact .inr ⟨k,c,e,z.sameBut hs (cne y c e)⟩
    · obtain ⟨w',z⟩:=I.cell y c e
      exact ⟨w',z.sameBut hs (cne y c e)⟩
    · obtain ⟨e,n,ne,nf,d⟩:=I.pin p hp
      exact ⟨(hs.2 p.1 ne).trans e,n,ne,nf,d⟩
  · have hfn:X.fn x=true:=by
      rcases hf with z | z
      · exact z
      · rw [z] at hk;cases hk
    obtain ⟨c,hc⟩:=I.ok.has x (.inl hk)
    obtain ⟨w',z⟩:=I.cell x c hc
    refine wpAny_storeName_cell I.ok.kind hk hc z (fun h' hc' hs=>?_)
    obtain ⟨oc,hoc,hocd⟩:=id z
    refine h { s with heap:=h' } ⟨I.ok,I.os,I.bare,⟨fun b o e n hb hx=>?_,fun b o e n hb hx=>?_,I.base.free,fun b o e hx=>?_,I.base.tups,I.base.frzs,I.base.tbls⟩,⟨m,hn.sameBut hs (Ne.symm (cne x c hc)),fun j y v' e1 e2 e3=>?_⟩,fun y c' e=>?_,I.free,I.freeC,fun p hp=>?_,tracked ⟨oc,hoc,I.freeC x c hc⟩ hs,by simpa using I.len⟩ ⟨c,hs,.inr hc⟩
    · exact (hs.2 b (Nat.ne_of_lt (Nat.lt_of_lt_of_le (Heap.lt_size e) (I.ok.cab x c hfn hc)))).trans (I.base.keep b o e n hb hx)
    · obtain ⟨sl,e1⟩:=I.base.slot b o e n hb hx
      exact ⟨sl,(hs.2 b (Nat.ne_of_lt (Nat.lt_of_lt_of_le (Heap.lt_size e) (I.ok.cab x c hfn hc)))).trans e1⟩
    · obtain ⟨o',e1⟩:=I.base.there b o e hx
      exact ⟨o',(hs.2 b (Nat.ne_of_lt (Nat.lt_of_lt_of_le (Heap.lt_size e) (I.ok.cab x c hfn hc)))).trans e1⟩
    · by_cases hj:j=i
      · subst hj
        rw [hi] at e1;cases e1
        rw [List.getElem?_set_self hiσ] at e2
        cases e2
        exact ⟨u,r,.inr ⟨.inl hk,c,hc,hc'⟩⟩
      · rw [List.getElem?_set_ne (Ne.symm hj)] at e2
        obtain ⟨u',r',q⟩:=hl j y v' e1 e2 e3
        refine ⟨u',r',?_⟩
        rcases q with q | ⟨k,c',e,z'⟩
        · exact .inl q
        · refine .inr ⟨k,c',e,z'.sameBut hs ?_⟩
          rintro rfl
          exact hj (Ud hN e1 (I.ok.inj _ _ _ e hc ▸ hi))
    · by_cases hcc:c'=c
      · subst hcc;exact ⟨_,hc'⟩
      · obtain ⟨w2,z2⟩:=I.cell y c' e
        exact ⟨w2,z2.sameBut hs hcc⟩
    · obtain ⟨e,n,ne,nf,d⟩:=I.pin p hp
      refine ⟨(hs.2 p.1 ?_).trans e,n,ne,nf,d⟩
      intro q
      rw [q,hoc] at e
      have q':oc=p.2:=Option.some.inj e
      exact d w' (by rw [←q'];exact hocd)
theorem G3 {M:Model} {A:Around} {E:Value→Shared→Prop} {i:Nat} {x:Str} {v:V} {u:Value} {Q:Unit→Shared→Prop} (I:Inv X pins σ H s) (hN:X.N.Nodup) (hi:X.N[i]? = some x) (hx:Loc X.env.scope x) (r:RelV v u)
    (h:∀ s',Inv X pins (σ.set i (some v)) H s'→Q () s') (hf:X.fn x=true∨X.env.scope.names.lookup x=some .local:=by first | exact .inl rfl | exact .inr rfl | assumption):wpAny M A (storeName X.env x u) Q E s :=
  Rb I hN hi hx r (fun s' I' _=>h s' I') hf
theorem Inv.call' {s':Shared} {ch:List Addr} (I:Inv X pins σ H s) (ho:s'.os=s.os) (u:Un (frs X.stack) ch H H' s.heap s'.heap) (hok:HOk X.prog X.w H' s'.heap) (hg:AllBare s'.gens)
    (hch:∀ b∈ch,(b∈X.ex∨X.s₀.heap.objs.size≤b)∧b≠X.env.locals∧(∀ x c,X.env.cells.lookup x=some c→c≠b)∧∀ p∈X.pn ++ pins,p.1≠b):Inv X pins σ H' s':=by
  obtain ⟨h',g',d',t',o'⟩:=s'
  have e:o'=s.os:=ho
  subst e
  exact I.call (g':=g') (t':=t') (d':=d') u hok hg hch
end
noncomputable abbrev XK:=Value→Option Addr→Hp→Prop
noncomputable abbrev St:=List (Option V)
noncomputable abbrev VK:=V→Hp→Prop
noncomputable abbrev TE:=St→Hp→VK→Prop
noncomputable abbrev TT:=St→Hp→(Bool→Hp→Prop)→Prop
noncomputable abbrev TA:=St→Hp→(List V→Hp→Prop)→Prop
structure Ends where
  nx:St→Hp→Prop
  rt:VK
  bk:St→Hp→Prop:=fun _ _=>False
  ct:St→Hp→Prop:=fun _ _=>False
noncomputable abbrev TS:=Ends→St→Hp→Prop
noncomputable def EP (X:Cx) (pins:List (Addr × Obj)) (σ:St) (Q:VK) (u:Value) (s':Shared):Prop:=∃ v H',Inv X pins σ H' s'∧RelV v u∧Q v H'
noncomputable def TP (X:Cx) (pins:List (Addr × Obj)) (σ:St) (Q:Bool→Hp→Prop) (b:Bool) (s':Shared):Prop:=∃ H',Inv X pins σ H' s'∧Q b H'
noncomputable def AP (X:Cx) (pins:List (Addr × Obj)) (σ:St) (Q:List V→Hp→Prop) (us:List Value) (s':Shared):Prop:=∃ vs H',Inv X pins σ H' s'∧Vals vs us∧Q vs H'
noncomputable def SP (X:Cx) (pins:List (Addr × Obj)) (D:Ends) (f:Flow) (s':Shared):Prop :=
  match f with
  | .next=>∃ σ' H',Inv X pins σ' H' s'∧D.nx σ' H'
  | .brk=>∃ σ' H',Inv X pins σ' H' s'∧D.bk σ' H'
  | .cont=>∃ σ' H',Inv X pins σ' H' s'∧D.ct σ' H'
  | .ret u=>∃ v σ' H',Inv X pins σ' H' s'∧RelV v u∧D.rt v H'
noncomputable def PE (X:Cx) (e:Expr) (t:TE):Prop :=
  ∀ (pins:List (Addr × Obj)) (s:Shared) (σ:St) (H:Hp) (Q:VK),Inv X pins σ H s→t σ H Q→wpAny (model X.prog X.w) X.A (eval e X.env) (EP X pins σ Q) X.xe s
noncomputable def PT (X:Cx) (e:Expr) (t:TT):Prop :=
  ∀ (pins:List (Addr × Obj)) (s:Shared) (σ:St) (H:Hp) (Q:Bool→Hp→Prop),Inv X pins σ H s→t σ H Q→wpAny (model X.prog X.w) X.A (isTrue e X.env (eval e X.env)) (TP X pins σ Q) X.xe s
noncomputable def PW (X:Cx) (e:Expr) (t:TT):Prop :=
  ∀ (whole:Sem Value) (pins:List (Addr × Obj)) (s:Shared) (σ:St) (H:Hp) (Q:Bool→Hp→Prop),Inv X pins σ H s→t σ H Q→wpAny (model X.prog X.w) X.A (isTrue e X.env whole) (TP X pins σ Q) X.xe s
theorem PW.pt {X:Cx} {e:Expr} {t:TT} (h:PW X e t):PT X e t:=h _
noncomputable def PA (X:Cx) (es:List Expr) (t:TA):Prop :=
  ∀ (pos:Pos) (pins:List (Addr × Obj)) (s:Shared) (σ:St) (H:Hp) (Q:List V→Hp→Prop),Inv X pins σ H s→t σ H Q→wpAny (model X.prog X.w) X.A (spliced (backTo pos (starEach es X.env))) (AP X pins σ Q) X.xe s
noncomputable def PS (X:Cx) (st:Stmt) (t:TS):Prop :=
  ∀ (pins:List (Addr × Obj)) (s:Shared) (σ:St) (H:Hp) (D:Ends),Inv X pins σ H s→t D σ H→wpAny (model X.prog X.w) X.A (exec st X.env) (SP X pins D) X.xe s
noncomputable def PSs (X:Cx) (st:List Stmt) (t:TS):Prop :=
  ∀ (pins:List (Addr × Obj)) (s:Shared) (σ:St) (H:Hp) (D:Ends),Inv X pins σ H s→t D σ H→wpAny (model X.prog X.w) X.A (execs st X.env) (SP X pins D) X.xe s
theorem thn {α:Type} {t:Sem α} {Q Q':α→Shared→Prop} {M:Model} {A:Around} {E:Value→Shared→Prop} {s:Shared} (h:wpAny M A t Q E s) (hQ:∀ a s,Q a s→Q' a s):wpAny M A t Q' E s:=wpAny_mono h hQ fun _ _ x=>x
end L2
namespace L2
open PySem PySem.Spec PyProof.Rows
section
variable {X:Cx}
theorem bin {a b:Expr} {ta tb:TE} (ha:PE X a ta) (hb:PE X b tb) {pins:List (Addr × Obj)} {s:Shared} {σ:St} {H:Hp} {R:V→V→Hp→Prop} (I:Inv X pins σ H s) (h:ta σ H fun x H1=>tb σ H1 fun y H2=>R x y H2)
    {α:Type} {Q:α→Shared→Prop} {f:Value→Value→Sem α}
    (hf:∀ v u s2 x y H2,Inv X pins σ H2 s2→RelV x v→RelV y u→R x y H2→wpAny (model X.prog X.w) X.A (f v u) Q X.xe s2) :
    wpAny (model X.prog X.w) X.A (eval a X.env) (fun v s₁=>wpAny (model X.prog X.w) X.A (eval b X.env) (fun u s₂=>wpAny (model X.prog X.w) X.A (f v u) Q X.xe s₂) X.xe s₁) X.xe s:=by
  refine thn (ha pins s σ H _ I h) fun v s1 ⟨x,H1,I1,r1,q1⟩=>?_
  refine thn (hb pins s1 σ H1 _ I1 q1) fun u s2 ⟨y,H2,I2,r2,q2⟩=>?_
  exact hf v u s2 x y H2 I2 r1 r2 q2
noncomputable def Ak7 (i:Nat):TE:=fun σ H Q=>∃ v,σ[i]? = some (some v)∧Q v H
noncomputable def tC (v:V):TE:=fun _ H Q=>Q v H
theorem LC {i:Nat} {x:Str} {pos:Pos} (hN:X.N[i]? = some x) (hv:Vis X.env.scope x) (hd:(x == ("__debug__":Str))=false:=by decide) (hcd:(x == ("__classdict__":Str))=false:=by decide):PE X (.Name x pos) (Ak7 i):=by
  intro pins s σ H Q I h
  obtain ⟨v,e,h⟩:=h
  obtain ⟨m,hn,hl⟩:=I.loc
  obtain ⟨u,r,l⟩:=hl i x v hN e hv
  have fin:EP X pins σ Q u s:=⟨v,H,I,r,h⟩
  rcases l with ⟨hk,hm⟩ | ⟨hk,c,hc,hcell⟩
  · exact wpAny_Name (wpAny_loadName_local I.ok.kind hk hn hm fin) hd
  · rcases hk with hk | hk
    · exact wpAny_Name (wpAny_loadName_cell I.ok.kind hk hc hcell fin) hd
    · exact wpAny_Name (wpAny_loadName_free I.ok.kind hk hc hcell fin hcd) hd
theorem AeI {i j pos}:PE X (.Constant (.int i) j pos) (tC (.int i)):=fun _ _ _ H _ I h=>wpAny_Constant_int ⟨.int i,H,I.tok _,⟨_,rfl⟩,h⟩
theorem Agd {b j pos}:PE X (.Constant (.bool b) j pos) (tC (.bl b)):=fun _ _ _ H _ I h=>Constant_bool ⟨.bl b,H,I,rfl,h⟩
theorem AdV {x j pos}:PE X (.Constant (.str x) j pos) (tC (.str x)):=fun _ _ _ H _ I h=>Calls.Constant_str ⟨.str x,H,I.tok _,⟨_,rfl⟩,h⟩
noncomputable def Gl (X:Cx) (x:Str):Prop:=X.env.kindOf x=some .globalImplicit
theorem Sh {E:Value→Shared→Prop} {pins:List (Addr × Obj)} {s:Shared} {σ:St} {H:Hp} {x:Str} {u:Value} {pos:Pos} {Q:Value→Shared→Prop} (I:Inv X pins σ H s) (hg:Gl X x) (hm:X.mg x=some u) (h:Q u s)
    (hd:(x == ("__debug__":Str))=false:=by decide):wpAny (model X.prog X.w) X.A (eval (.Name x pos) X.env) Q E s :=
  Calls.Name_function_global I.ok.kind hg (Calls.loadGlobal_global (by rw [I.ok.glob];exact I.mod.glob.keeps I.bk) hm h) hd
theorem Mv {E:Value→Shared→Prop} {pins:List (Addr × Obj)} {s:Shared} {σ:St} {H:Hp} {x:Str} {u:Value} {pos:Pos} {Q:Value→Shared→Prop} (I:Inv X pins σ H s) (hg:Gl X x) (hm:X.mg x=none) (hv:bootBuiltins x=some u) (h:Q u s)
    (hn:x≠"__name__":=by decide) (hd:(x == ("__debug__":Str))=false:=by decide):wpAny (model X.prog X.w) X.A (eval (.Name x pos) X.env) Q E s:=by
  obtain ⟨mb,h1,h2⟩:=I.mod.blt
  exact Calls.Name_function_global I.ok.kind hg (Calls.loadGlobal_builtin (by rw [I.ok.glob];exact I.mod.glob.keeps I.bk) hm (by rw [I.ok.blt];exact h1.keeps I.bk) ((h2 x hn).trans hv) h) hd
theorem Wo {x:Str} {v:V} {u:Value} {pos:Pos} (hg:Gl X x) (hm:X.mg x=some u) (r:RelV v u) (hd:(x == ("__debug__":Str))=false:=by decide):PE X (.Name x pos) (tC v) :=
  fun _ _ _ H _ I h=>Sh I hg hm ⟨v,H,I,r,h⟩ hd
theorem AcA {x:Str} {v:V} {u:Value} {pos:Pos} (hg:Gl X x) (hm:X.mg x=none) (hv:bootBuiltins x=some u) (r:RelV v u) (hn:x≠"__name__":=by decide) (hd:(x == ("__debug__":Str))=false:=by decide):PE X (.Name x pos) (tC v) :=
  fun _ _ _ H _ I h=>Mv I hg hm hv ⟨v,H,I,r,h⟩ hn hd
variable {a b:Expr} {ta tb:TE} {pos:Pos}
noncomputable def PC (X:Cx) (op:CmpOp) (a b:Expr) (t:TE):Prop :=
  ∀ (pins:List (Addr × Obj)) (s:Shared) (σ:St) (H:Hp) (Q:VK),Inv X pins σ H s→t σ H Q →
    wpAny (model X.prog X.w) X.A (eval a X.env) (fun v s₁=>wpAny (model X.prog X.w) X.A (eval b X.env) (fun u s₂=>wpAny (model X.prog X.w) X.A (compareOp op v u) (EP X pins σ Q) X.xe s₂) X.xe s₁) X.xe s
noncomputable def tB (t:TE):TT:=fun σ H Q=>t σ H fun x H1=>∃ c,x=.bl c∧Q c H1
theorem AkY {op:CmpOp} {t:TE} (h:PC X op a b t) (h1:behindInMarks op b=false:=by first | exact nobehind _ (by decide) (by decide) | rfl):PT X (.Compare a [op] [b] pos) (tB t):=by
  intro pins s σ H Q I hw
  refine wpAny_isTrue_Compare1 (thn (h pins s σ H _ I hw) fun v s1 h1=>thn h1 fun u s2 h2=>thn h2 fun c s3 ⟨x,H1,I1,r1,q1⟩=>?_) h1
  obtain ⟨d,rfl,q⟩:=q1
  cases r1
  exact wpAny_truthy_bool ⟨H1,I1,q⟩
theorem Afn {e:Expr} {t:TE} (h:PE X e t) (he:∀ whole,isTrue e X.env whole=(do let v ←whole;standAt e.pos;holding [v] (truthy v)):=by intro _;rfl):PT X e (tB t):=by
  intro pins s σ H Q I hw
  refine isTrue_plain (thn (h pins s σ H _ I hw) fun v s1 ⟨x,H1,I1,r1,q1⟩=>?_) (he _)
  obtain ⟨d,rfl,q⟩:=q1
  cases r1
  exact wpAny_truthy_bool ⟨H1,I1,q⟩
variable {tA tB':TT} {rest:List Expr}
noncomputable def Aj4 (t u:TT):TT:=fun σ H Q=>t σ H fun c H1=>if c=true then u σ H1 Q else Q false H1
noncomputable def tOr (t u:TT):TT:=fun σ H Q=>t σ H fun c H1=>if c=true then Q true H1 else u σ H1 Q
noncomputable def AkR (t:TT):TT:=fun σ H Q=>t σ H fun c H1=>Q (!c) H1
theorem AbQ (ha:PT X a tA):PW X (.BoolOp .And [a] pos) tA:=by
  intro wh pins s σ H Q I h
  refine isTrue_and (thn (ha pins s σ H Q I h) fun c s1 e=>?_)
  cases c with
  | true=>exact isTrue_and_nil e
  | false=>exact e
theorem AeS (ha:PT X a tA):PW X (.BoolOp .Or [a] pos) tA:=by
  intro wh pins s σ H Q I h
  refine isTrue_or (thn (ha pins s σ H Q I h) fun c s1 e=>?_)
  cases c with
  | false=>exact isTrue_or_nil e
  | true=>exact e
theorem AeY (ha:PT X a tA) (hb:PW X (.BoolOp .And (b :: rest) pos) tB'):PW X (.BoolOp .And (a :: b :: rest) pos) (Aj4 tA tB'):=by
  intro wh pins s σ H Q I h
  refine isTrue_and (thn (ha pins s σ H _ I h) fun c s1 ⟨H1,I1,q1⟩=>?_)
  cases c with
  | true=>exact hb wh pins s1 σ H1 Q I1 q1
  | false=>exact ⟨H1,I1,q1⟩
theorem AiF (ha:PT X a tA) (hb:PW X (.BoolOp .Or (b :: rest) pos) tB'):PW X (.BoolOp .Or (a :: b :: rest) pos) (tOr tA tB'):=by
  intro wh pins s σ H Q I h
  refine isTrue_or (thn (ha pins s σ H _ I h) fun c s1 ⟨H1,I1,q1⟩=>?_)
  cases c with
  | true=>exact ⟨H1,I1,q1⟩
  | false=>exact hb wh pins s1 σ H1 Q I1 q1
theorem AeG (ha:PT X a tA):PT X (.UnaryOp .Not a pos) (AkR tA):=by
  intro pins s σ H Q I h
  exact isTrue_not (ha pins s σ H (fun c H1=>Q (!c) H1) I h)
noncomputable def AfY (ta tb:TE):TE:=fun σ H Q=>ta σ H fun x H1=>∃ c,x=.bl c∧if c=true then tb σ H1 Q else Q (.bl false) H1
noncomputable def Aj1 (ta tb:TE):TE:=fun σ H Q=>ta σ H fun x H1=>∃ c,x=.bl c∧if c=true then Q (.bl true) H1 else tb σ H1 Q
noncomputable def AfN (ta:TE):TE:=fun σ H Q=>ta σ H fun x H1=>∃ c,x=.bl c∧Q (.bl (!c)) H1
theorem Afr {op} {t:TE} (h:PE X a t):PE X (.BoolOp op [a] pos) t:=fun pins s σ H Q I hw=>BoolOp_one (h pins s σ H Q I hw)
theorem Afs (ha:PE X a ta) (hb:PE X (.BoolOp .And (b :: rest) pos) tb):PE X (.BoolOp .And (a :: b :: rest) pos) (AfY ta tb):=by
  intro pins s σ H Q I h
  refine BoolOp_and (thn (ha pins s σ H _ I h) fun v s1 ⟨x,H1,I1,r1,q1⟩=>?_)
  obtain ⟨c,rfl,q1⟩:=q1
  cases r1
  refine wpAny_truthy_bool ?_
  cases c with
  | true=>exact hb pins s1 σ H1 Q I1 q1
  | false=>exact ⟨.bl false,H1,I1,rfl,q1⟩
theorem Ai2 (ha:PE X a ta) (hb:PE X (.BoolOp .Or (b :: rest) pos) tb):PE X (.BoolOp .Or (a :: b :: rest) pos) (Aj1 ta tb):=by
  intro pins s σ H Q I h
  refine BoolOp_or (thn (ha pins s σ H _ I h) fun v s1 ⟨x,H1,I1,r1,q1⟩=>?_)
  obtain ⟨c,rfl,q1⟩:=q1
  cases r1
  refine wpAny_truthy_bool ?_
  cases c with
  | false=>exact hb pins s1 σ H1 Q I1 q1
  | true=>exact ⟨.bl true,H1,I1,rfl,q1⟩
theorem Aek (ha:PE X a ta):PE X (.UnaryOp .Not a pos) (AfN ta):=by
  intro pins s σ H Q I h
  refine UnaryOp_ (thn (ha pins s σ H _ I h) fun v s1 ⟨x,H1,I1,r1,q1⟩=>?_)
  obtain ⟨c,rfl,q1⟩:=q1
  cases r1
  exact not_of (wpAny_truthy_bool ⟨.bl (!c),H1,I1,rfl,q1⟩)
end
end L2
namespace L2
open PySem PySem.Spec PyProof.Rows
noncomputable def SqL (K:PySem.W.Frag) (H:Hp) (a:Addr) (xs:List V):Prop :=
  Rd H a (.lst xs) ∨
    ∃ (o:Obj) (its:Array Value) (n:Nat),K.lookup a=some o∧o.cls=.type "list"∧o.dict=none∧o.data=.seq its n∧its.size≤sizeLine∧Vals xs its.toList
noncomputable def SqT (K:PySem.W.Frag) (H:Hp) (a:Addr) (xs:List V):Prop :=
  Rd H a (.tup xs) ∨
    ∃ (o:Obj) (its:Array Value) (n:Nat),K.lookup a=some o∧o.cls=.type "tuple"∧o.data=.seq its n∧its.size≤sizeLine∧Vals xs its.toList
noncomputable def AjX:Value→Option V
  | .none=>some .non
  | .bool b=>some (.bl b)
  | .int i _=>some (.int i)
  | .str x _=>some (.str x)
  | .bytes b _=>some (.byt b)
  | .float b _=>some (.flt b)
  | .ref a=>some (.ref a)
  | .type n=>some (.ty n)
  | _=>none
theorem RelV.abs {x:V} {u:Value} (r:RelV x u):AjX u=some x:=by
  cases x with
  | non=>cases r;rfl
  | bl _=>cases r;rfl
  | int _=>obtain ⟨t,rfl⟩:=r;rfl
  | str _=>obtain ⟨t,rfl⟩:=r;rfl
  | byt _=>obtain ⟨t,rfl⟩:=r;rfl
  | flt _=>obtain ⟨t,rfl⟩:=r;rfl
  | ref _=>cases r;rfl
  | ty _=>cases r;rfl
theorem RelV.inj {x y:V} {u:Value} (r:RelV x u) (q:RelV y u):x=y:=Option.some.inj (r.abs.symm.trans q.abs)
theorem Vals.inj:∀ {xs ys:List V} {us:List Value},Vals xs us→Vals ys us→xs=ys
  | _,_,_,.nil,.nil=>rfl
  | _,_,_,.cons r t,.cons r' t'=>by rw [r.inj r',Vals.inj t t']
section
variable {X:Cx} {pins:List (Addr × Obj)} {σ:St} {H:Hp} {s:Shared} {a:Addr} {xs ys:List V}
theorem SqL.of {K:PySem.W.Frag} (h:H a=some (.lst xs)):SqL K H a xs:=.inl (.inl h)
theorem SqT.of {K:PySem.W.Frag} (h:H a=some (.tup xs)):SqT K H a xs:=.inl (.inl h)
theorem Inv.list (I:Inv X pins σ H s) (h:SqL X.K H a xs):∃ its:List Value,Vals xs its∧PlainL s.heap a its.toArray∧xs.length≤sizeLine:=by
  rcases h with h | ⟨o,its,n,hk,hc,hd,hs,hz,r⟩
  · obtain ⟨z,its,n,r,e⟩:=h.ok I.hok
    exact ⟨its,r,⟨_,n,e,rfl,rfl,rfl⟩,z⟩
  · refine ⟨its.toList,r,⟨o,n,I.kIn a o hk,hc,hd,by simpa using hs⟩,?_⟩
    have e:=r.length
    simp only [Array.length_toList] at e
    omega
theorem Inv.tuple (I:Inv X pins σ H s) (h:SqT X.K H a xs):∃ its:List Value,Vals xs its∧IsTup s.heap a its.toArray∧xs.length≤sizeLine:=by
  rcases h with h | ⟨o,its,n,hk,hc,hs,hz,r⟩
  · obtain ⟨z,its,r,p⟩:=h.ok I.hok
    exact ⟨its,r,p,z⟩
  · refine ⟨its.toList,r,⟨o,I.kIn a o hk,hc,n,by simpa using hs⟩,?_⟩
    have e:=r.length
    simp only [Array.length_toList] at e
    omega
theorem Inv.list_inj (I:Inv X pins σ H s) (h:SqL X.K H a xs) (h':SqL X.K H a ys):xs=ys:=by
  obtain ⟨its,r,⟨o,n,e,_,_,d⟩,_⟩:=I.list h
  obtain ⟨its',r',⟨o',n',e',_,_,d'⟩,_⟩:=I.list h'
  rw [e] at e';cases e'
  rw [d] at d'
  injection d' with d1 _
  have:its=its':=by simpa using congrArg Array.toList d1
  subst this
  exact r.inj r'
theorem Inv.tuple_inj (I:Inv X pins σ H s) (h:SqT X.K H a xs) (h':SqT X.K H a ys):xs=ys:=by
  obtain ⟨its,r,⟨o,e,_,n,d⟩,_⟩:=I.tuple h
  obtain ⟨its',r',⟨o',e',_,n',d'⟩,_⟩:=I.tuple h'
  rw [e] at e';cases e'
  rw [d] at d'
  injection d' with d1 _
  have:its=its':=by simpa using congrArg Array.toList d1
  subst this
  exact r.inj r'
end
noncomputable abbrev Cx.wish (X:Cx) (E:Value→Shared→Prop):Cx:={ X with xe:=E }
noncomputable abbrev Cx.nox (X:Cx):Cx:=X.wish fun _ _=>False
theorem Cx.Ok.wish {X:Cx} (ok:X.Ok) (E:Value→Shared→Prop):(X.wish E).Ok :=
  ⟨ok.mod,ok.kind,ok.glob,ok.blt,ok.above,ok.inj,ok.has,ok.cab,ok.hd,ok.frames,ok.stk,ok.exf,ok.bs,ok.bsz,ok.noex,ok.exfs,ok.funs,ok.frf⟩
theorem Cx.Ok.unwish {X:Cx} {E:Value→Shared→Prop} (ok:(X.wish E).Ok):X.Ok :=
  ⟨ok.mod,ok.kind,ok.glob,ok.blt,ok.above,ok.inj,ok.has,ok.cab,ok.hd,ok.frames,ok.stk,ok.exf,ok.bs,ok.bsz,ok.noex,ok.exfs,ok.funs,ok.frf⟩
section
variable {X:Cx} {pins:List (Addr × Obj)} {σ:St} {H:Hp} {s:Shared} {E:Value→Shared→Prop}
theorem Inv.wish (I:Inv X pins σ H s) (E:Value→Shared→Prop):Inv (X.wish E) pins σ H s:=⟨I.ok.wish E,I.os,I.bare,I.base,I.loc,I.cell,I.free,I.freeC,I.pin,I.hok,I.len⟩
theorem Inv.unwish (I:Inv (X.wish E) pins σ H s):Inv X pins σ H s:=⟨I.ok.unwish,I.os,I.bare,I.base,I.loc,I.cell,I.free,I.freeC,I.pin,I.hok,I.len⟩
theorem SP.unwish {D:Ends} {f:Flow} {s':Shared} (h:SP (X.wish E) pins D f s'):SP X pins D f s':=by
  cases f with
  | next=>obtain ⟨σ',H',I,q⟩:=h;exact ⟨σ',H',I.unwish,q⟩
  | brk=>obtain ⟨σ',H',I,q⟩:=h;exact ⟨σ',H',I.unwish,q⟩
  | cont=>obtain ⟨σ',H',I,q⟩:=h;exact ⟨σ',H',I.unwish,q⟩
  | ret u=>obtain ⟨v,σ',H',I,r,q⟩:=h;exact ⟨v,σ',H',I.unwish,r,q⟩
theorem PSs.nox {st:List Stmt} {t:TS} (h:PSs X.nox st t):PSs X st t:=fun pins s σ H D I hw =>
  wpAny_mono (h pins s σ H D (I.wish _) hw) (fun _ _ q=>q.unwish) fun _ _ z=>False.elim z
end
section
variable {X:Cx} {st:Stmt} {rest:List Stmt} {t u:TS} {e:Expr} {te:TE} {pos:Pos}
noncomputable def AiV:TS:=fun D σ H=>D.nx σ H
noncomputable def Alc (t u:TS):TS:=fun D σ H=>t { D with nx:=u D } σ H
theorem AbF:PSs X [] AiV:=fun _ _ σ H _ I h=>wpAny_execs_nil ⟨σ,H,I,h⟩
theorem Ov (h1:PS X st t) (h2:PSs X rest u):PSs X (st :: rest) (Alc t u):=by
  intro pins s σ H D I h
  refine wpAny_execs_cons (thn (h1 pins s σ H { D with nx:=u D } I h) fun f s1 q=>?_)
  cases f with
  | next =>
    obtain ⟨σ',H',I',q⟩:=q
    exact h2 pins s1 σ' H' D I' q
  | ret v=>exact q
  | brk=>exact q
  | cont=>exact q
theorem R6 (h1:PS X st t):PSs X [st] t:=by
  intro pins s σ H D I h
  refine wpAny_execs_cons (thn (h1 pins s σ H D I h) fun f s1 q=>?_)
  cases f with
  | next=>exact wpAny_execs_nil q
  | ret v=>exact q
  | brk=>exact q
  | cont=>exact q
theorem Inv.quiet {pins:List (Addr × Obj)} {σ:St} {H:Hp} {s:Shared} (I:Inv X pins σ H s):interactive X.env=false:=by simp [interactive,I.ok.kind]
noncomputable def AiL (te:TE):TS:=fun D σ H=>te σ H fun _ H1=>D.nx σ H1
theorem Sy (he:PE X e te) (hs:swapsWith e none pos.line X.env=pure false:=by rfl):PS X (.Expr e pos) (AiL te):=by
  intro pins s σ H D I h
  exact wpAny_Expr_any (thn (he pins s σ H _ I h) fun v s1 ⟨x,H1,I1,r1,q1⟩=>⟨σ,H1,I1,q1⟩) I.quiet hs
noncomputable def Ald (te:TE):TS:=fun D σ H=>te σ H D.rt
theorem Aen (he:PE X e te):PS X (.Return (some e) pos) (Ald te):=by
  intro pins s σ H D I h
  exact wpAny_Return_some (thn (he pins s σ H _ I h) fun v s1 ⟨x,H1,I1,r1,q1⟩=>⟨x,σ,H1,I1,r1,q1⟩)
noncomputable def AkB (c:TT) (t u:TS):TS:=fun D σ H=>c σ H fun b H1=>if b=true then t D σ H1 else u D σ H1
theorem AfK {c:Expr} {a b:List Stmt} {tc:TT} (hc:PT X c tc) (ha:PSs X a t) (hb:PSs X b u):PS X (.If c a b pos) (AkB tc t u):=by
  intro pins s σ H D I h
  refine wpAny_If (thn (hc pins s σ H _ I h) fun d s1 ⟨H1,I1,q1⟩=>?_)
  cases d with
  | true=>exact ha pins s1 σ H1 D I1 q1
  | false=>exact hb pins s1 σ H1 D I1 q1
noncomputable def Aft:TS:=fun _ _ _=>False
theorem AaG:PS X st Aft:=fun _ _ _ _ _ _ h=>h.elim
end
noncomputable abbrev TG:=V→St→Hp→(St→Hp→Prop)→Prop
noncomputable abbrev TGs:=List V→St→Hp→(St→Hp→Prop)→Prop
noncomputable def PG (X:Cx) (target:Expr) (t:TG):Prop :=
  ∀ (pins:List (Addr × Obj)) (s:Shared) (σ:St) (H:Hp) (v:V) (u:Value) (Q:St→Hp→Prop),Inv X pins σ H s→RelV v u→t v σ H Q →
    wpAny (model X.prog X.w) X.A (assign target X.env u) (fun _ s'=>∃ σ' H',Inv X pins σ' H' s'∧Q σ' H') X.xe s
noncomputable def PGs (X:Cx) (ts:List Expr) (t:TGs):Prop :=
  ∀ (pins:List (Addr × Obj)) (s:Shared) (σ:St) (H:Hp) (vs:List V) (us:List Value) (Q:St→Hp→Prop),Inv X pins σ H s→Vals vs us→t vs σ H Q →
    wpAny (model X.prog X.w) X.A (assignInOrder ((assignEach ts X.env).map (·.2)) us) (fun _ s'=>∃ σ' H',Inv X pins σ' H' s'∧Q σ' H') X.xe s
section
variable {X:Cx} {pos:Pos}
noncomputable def Xd (i:Nat):TG:=fun v σ H Q=>Q (σ.set i (some v)) H
theorem RG {i:Nat} {x:Str} (hN:X.N.Nodup) (hi:X.N[i]? = some x) (hx:Loc X.env.scope x) (hf:X.fn x=true∨X.env.scope.names.lookup x=some .local:=by first | exact .inl rfl | exact .inr rfl | assumption):PG X (.Name x pos) (Xd i):=by
  intro pins s σ H v u Q I r h
  exact wpAny_assign_Name (G3 I hN hi hx r (fun s' I'=>⟨_,H,I',h⟩) hf)
noncomputable def AjF:TGs:=fun vs σ H Q=>vs=[]∧Q σ H
noncomputable def AhP (t:TG) (u:TGs):TGs:=fun vs σ H Q=>∃ v r,vs=v :: r∧t v σ H fun σ' H'=>u r σ' H' Q
theorem Acb:PGs X [] AjF:=by
  intro pins s σ H vs us Q I r h
  obtain ⟨e,h⟩:=h
  subst e
  cases r
  exact assignInOrder_nil ⟨σ,H,I,h⟩
theorem Aap {e:Expr} {es:List Expr} {t:TG} {u:TGs} (h1:PG X e t) (h2:PGs X es u)
    (hs:(assignEach (e :: es) X.env).map (·.2)=assign e X.env :: (assignEach es X.env).map (·.2):=by rfl):PGs X (e :: es) (AhP t u):=by
  intro pins s σ H vs us Q I r h
  obtain ⟨v,vr,e1,h⟩:=h
  subst e1
  cases r with
  | cons r rr =>
    rw [hs]
    refine assignInOrder_cons (thn (h1 pins s σ H _ _ _ I r h) fun _ s1 ⟨σ1,H1,I1,q1⟩=>?_)
    exact h2 pins s1 σ1 H1 _ _ Q I1 rr q1
noncomputable def AjP (K:PySem.W.Frag) (n:Nat) (t:TGs):TG:=fun v σ H Q=>∃ a xs,v=.ref a∧SqT K H a xs∧xs.length=n∧t xs σ H Q
theorem Aet {es:List Expr} {k:Nat} {t:TGs} {n:Nat} (hc:X.calm=true) (h:PGs X es t)
    (hn:(assignEach es X.env).length=n:=by rfl) (hst:(assignEach es X.env).findIdx? (·.1)=none:=by rfl):PG X (.Tuple es k pos) (AjP X.K n t):=by
  intro pins s σ H v u Q I r hw
  obtain ⟨a,xs,e1,hq,hl,hw⟩:=hw
  subst e1
  cases r
  obtain ⟨its,rv,ht,hz⟩:=I.tuple hq
  refine assign_Tuple_tuple (I.ok.hd hc) ht (by simp [hn,←hl,rv.length]) hst fun h' hx=>?_
  have I1:Inv X pins σ H { s with heap:=h' }:=I.kept (t':=s.toks) fun b o e=>hx b o (Nat.ne_of_lt (Heap.lt_size e)) e
  exact h pins _ σ H xs _ Q I1 (by simpa using rv) hw
noncomputable def Ai4 (te:TE) (g:TG):TS:=fun D σ H=>te σ H fun x H1=>g x σ H1 D.nx
theorem Afy {tg e:Expr} {te:TE} {g:TG} (he:PE X e te) (hg:PG X tg g) (hs:swapsWithSole [tg] e pos.line X.env=pure false:=by rfl) (hw:swappedStores [tg] e X.env=pure none:=by rfl)
    (h1:(assignEach [tg] X.env).map (·.2)=[assign tg X.env]:=by rfl):PS X (.Assign [tg] e pos) (Ai4 te g):=by
  intro pins s σ H D I h
  refine wpAny_Assign_stores (thn (he pins s σ H _ I h) fun v s1 ⟨x,H1,I1,r1,q1⟩=>?_) hs hw
  rw [h1]
  exact thn (hg pins s1 σ H1 x v _ I1 r1 q1) fun _ s2 q=>q
theorem Zn {i:Nat} {x:Str} {e:Expr} {te:TE} {pos':Pos} (hN:X.N.Nodup) (hi:X.N[i]? = some x) (hx:Loc X.env.scope x) (he:PE X e te) (hs:swapsWith e (some (.Name x pos')) pos.line X.env=pure false:=by rfl) (hf:X.fn x=true∨X.env.scope.names.lookup x=some .local:=by first | exact .inl rfl | exact .inr rfl | assumption) :
    PS X (.Assign [.Name x pos'] e pos) (Ai4 te (Xd i)):=by
  intro pins s σ H D I h
  refine wpAny_Assign_Name (thn (he pins s σ H _ I h) fun v s1 ⟨y,H1,I1,r1,q1⟩=>?_) hs
  exact G3 I1 hN hi hx r1 (fun s2 I2=>⟨_,H1,I2,q1⟩) hf
noncomputable def Akx (i j:Nat) (ta:TA):TS:=fun D σ H=>ta σ H fun vs H1=>∃ v w,vs=[v,w]∧D.nx ((σ.set i (some v)).set j (some w)) H1
theorem Ae4 {i j:Nat} {x y:Str} {a b:Expr} {ta:TA} {px py pt:Pos} {kt k2 pt2} (hc:X.calm=true) (hN:X.N.Nodup) (hi:X.N[i]? = some x) (hj:X.N[j]? = some y) (hij:i≠j)
    (hx:X.env.scope.names.lookup x=some .local) (hy:X.env.scope.names.lookup y=some .local) (ha:PA X [a,b] ta)
    (hw:swappedStores [.Tuple [.Name x px,.Name y py] kt pt] (.Tuple [a,b] k2 pt2) X.env=pure (some [x,y]))
    (hs:swapsWithSole [.Tuple [.Name x px,.Name y py] kt pt] (.Tuple [a,b] k2 pt2) pos.line X.env=pure false:=by rfl) :
    PS X (.Assign [.Tuple [.Name x px,.Name y py] kt pt] (.Tuple [a,b] k2 pt2) pos) (Akx i j ta):=by
  intro pins s σ H D I h
  rw [exec_Assign_arm]
  refine wpAny_bind (wpAny_standAt ?_)
  rw [hs]
  refine wpAny_bind (wpAny_pure ?_)
  rw [if_neg (by decide)]
  refine wpAny_bind (Tuple_ (thn (ha _ pins s σ H _ I h) fun us s1 ⟨vs,H1,I1,r1,q1⟩=>?_))
  obtain ⟨v,w,e1,q1⟩:=q1
  subst e1
  obtain ⟨u1,u2,rfl,rv,rw'⟩:∃ u1 u2,us=[u1,u2]∧RelV v u1∧RelV w u2:=by
    cases r1 with
    | cons p q =>
      cases q with
      | cons p' q' =>
        cases q'
        exact ⟨_,_,rfl,p,p'⟩
  refine wpAny_newObj_type ?_ (by show 2≤sizeLine;decide)
  have I2:Inv X pins σ H1 { s1 with heap:=s1.heap.push { cls:=.type "tuple",data:=.seq [u1,u2].toArray } }:=I1.kept (t':=s1.toks) fun b o e=>Heap.get?_push_of_some _ e
  rw [hw]
  refine wpAny_bind (wpAny_pure ?_)
  show wpAny (model X.prog X.w) X.A (do rule "assign.swapped-stores";let items ←unpackItems (.ref s1.heap.objs.size) 2 none;assignInOrder [fun v=>bindName X.env y v,fun v=>bindName X.env x v] items.reverse;pure Flow.next) _ _ _
  refine wpAny_bind (wpAny_rule (wpAny_bind (unpackItems_tuple (items:=#[u1,u2]) (I.ok.hd hc) (IsTup.new s1.heap _) fun h' hx'=>?_)))
  have I3:=I2.kept (h':=h') (t':=s1.toks) fun b o e=>hx' b o (Nat.ne_of_lt (Heap.lt_size e)) e
  show wpAny _ _ (assignInOrder [fun v=>bindName X.env y v,fun v=>bindName X.env x v] [u2,u1] >>= fun _=>pure Flow.next) _ _ _
  refine wpAny_bind (assignInOrder_cons (wpAny_bindName (G3 I3 hN hj (.inl hy) rw' (fun s2 I4=>?_) (.inr hy))))
  refine assignInOrder_cons (wpAny_bindName (G3 I4 hN hi (.inl hx) rv (fun s3 I5=>assignInOrder_nil (wpAny_pure ?_)) (.inr hx)))
  rw [List.set_comm _ _ (Ne.symm hij)] at I5
  exact ⟨_,H1,I5,q1⟩
end
section
variable {X:Cx} {pos:Pos}
noncomputable def Ad6 (c:TT) (tb:TS):TS:=fun D σ H=>∃ W:Nat→St→Hp→Prop,(∃ m,W m σ H)∧∀ m σ H,W m σ H →
  c σ H fun b H1=>if b=true then ∃ N:St→Hp→Prop,(∀ σ' H',N σ' H'→∃ m',m' < m∧W m' σ' H')∧tb { D with nx:=N,ct:=N,bk:=D.nx } σ H1 else D.nx σ H1
theorem Za {c:Expr} {body:List Stmt} {tc:TT} {tb:TS} (hp:PassesOwn (model X.prog X.w) X.A X.env X.xe) (hc:PT X c tc) (hb:PSs X body tb):PS X (.While c body [] pos) (Ad6 tc tb):=by
  intro pins s σ H D I h
  obtain ⟨W,⟨m0,w0⟩,turn⟩:=h
  refine wpAny_While (codeAny_whileLoop (fun n s'=>∃ σ' H',Inv X pins σ' H' s'∧W n σ' H') ?_ m0 ⟨σ,H,I,w0⟩)
  rintro n s1 ⟨σ1,H1,I1,w1⟩
  refine wpAny_passesOwn hp (thn (hc pins s1 σ1 H1 _ I1 (turn n σ1 H1 w1)) fun b s2 ⟨H2,I2,q2⟩=>?_)
  cases b with
  | true =>
    obtain ⟨N,hN,q2⟩:=q2
    rw [if_pos rfl]
    refine wpAny_passesOwn hp (thn (hb pins s2 σ1 H2 _ I2 q2) fun f s3 q3=>?_)
    cases f with
    | next =>
      obtain ⟨σ3,H3,I3,n3⟩:=q3
      obtain ⟨m',hm,w3⟩:=hN σ3 H3 n3
      exact ⟨m',hm,σ3,H3,I3,w3⟩
    | cont =>
      obtain ⟨σ3,H3,I3,n3⟩:=q3
      obtain ⟨m',hm,w3⟩:=hN σ3 H3 n3
      exact ⟨m',hm,σ3,H3,I3,w3⟩
    | brk=>exact q3
    | ret v=>exact q3
  | false =>
    rw [if_neg Bool.false_ne_true]
    exact wpAny_execs_nil ⟨σ1,H2,I2,q2⟩
end
structure It where
  go:Nat→Hp→Prop
  yld:Nat→Hp→V→Hp→Prop
  stop:Nat→Hp→Prop
noncomputable def KC (X:Cx) (pins:List (Addr × Obj)) (H:Hp) (b:Addr):Prop :=
  H b=none∧b≠X.env.locals∧b∉X.fs∧(b∈X.ex∨X.s₀.heap.objs.size≤b)∧(∀ x c,X.env.cells.lookup x=some c→c≠b)∧∀ p∈X.pn ++ pins,p.1≠b
theorem Inv.fpOk {X:Cx} {pins:List (Addr × Obj)} {σ:St} {H H':Hp} {s:Shared} {b:Addr} (I:Inv X pins σ H s) (hb:s.heap.objs.size≤b) (hn:H' b=none):KC X pins H' b:=by
  refine ⟨hn,Nat.ne_of_gt (Nat.lt_of_lt_of_le I.lt hb),I.nofs hb,.inr (Nat.le_trans I.sz hb),fun x c e z=>?_,fun p hp z=>?_⟩
  · obtain ⟨v,q⟩:=I.cell x c e
    exact absurd (Nat.lt_of_lt_of_le q.lt (by rw [z];exact hb)) (Nat.lt_irrefl _)
  · exact absurd (Nat.lt_of_lt_of_le (Heap.lt_size (I.pin p hp).1) (by rw [z];exact hb)) (Nat.lt_irrefl _)
structure Turn (P:Program) (w:World) (K:PySem.W.Frag) (tg:Expr) (J:It) (fp:List Addr) (it:Addr) (tn:Nat→Heap→Prop):Prop where
  mem:it∈fp
  obj:∀ i h,tn i h→∀ b∈fp,∃ o,h.get? b=some o∧∀ v,o.data≠.cell v
  keep:∀ i h h',tn i h→(∀ b∈fp,∀ o,h.get? b=some o→h'.get? b=some o)→tn i h'
  item:∀ (X:Cx),X.prog=P→X.w=w→X.K=K→X.calm=true→∀ (i:Nat) (pins:List (Addr × Obj)) (s:Shared) (σ:St) (H:Hp) (E:Value→Shared→Prop),Inv X pins σ H s→(∀ b∈fp,KC X pins H b)→tn i s.heap→J.go i H →
    wpAny (model P w) X.A (pyNext (.ref it)) (fun r s1=>∃ u,r=some u ∧
      wpAny (model P w) X.A (letOwnedTupleGo tg (.ref it) u) (fun _ s2=>∃ x H',Inv X pins σ H' s2∧RelV x u∧J.yld i H x H'∧tn (i+1) s2.heap∧∀ b∈fp,H' b=none) E s1) E s
  done:∀ (X:Cx),X.prog=P→X.w=w→X.K=K→X.calm=true→∀ (i:Nat) (pins:List (Addr × Obj)) (s:Shared) (σ:St) (H:Hp) (E:Value→Shared→Prop),Inv X pins σ H s→(∀ b∈fp,KC X pins H b)→tn i s.heap→J.stop i H →
    wpAny (model P w) X.A (pyNext (.ref it)) (fun r s1=>r=none∧Inv X pins σ H s1) E s
  self:∀ (A:Around) (i:Nat) (s:Shared) (Q:Value→Shared→Prop) (E:Value→Shared→Prop),tn i s.heap→Q (.ref it) s→wpAny (model P w) A (pyIter (.ref it)) Q E s
noncomputable abbrev TI:=St→Hp→(It→Hp→Prop)→Prop
noncomputable def PIE (X:Cx) (pins:List (Addr × Obj)) (σ:St) (tg:Expr) (R:It→Hp→Prop) (itv:Value) (s2:Shared):Prop :=
  ∃ (it:Addr) (fp:List Addr) (tn:Nat→Heap→Prop) (J:It) (H':Hp),itv=.ref it∧Inv X pins σ H' s2∧Turn X.prog X.w X.K tg J fp it tn∧tn 0 s2.heap∧(∀ b∈fp,KC X pins H' b)∧R J H'
noncomputable def PI (X:Cx) (tg iter:Expr) (wi:TI):Prop :=
  ∀ (pins:List (Addr × Obj)) (s:Shared) (σ:St) (H:Hp) (R:It→Hp→Prop),Inv X pins σ H s→wi σ H R →
    wpAny (model X.prog X.w) X.A (eval iter X.env) (fun v s1=>wpAny (model X.prog X.w) X.A (pyIter v) (PIE X pins σ tg R) X.xe s1) X.xe s
theorem Aaz {M:Model} {A:Around} {E:Value→Shared→Prop} {s:Shared} {tg:Expr} {it:Addr} {u:Value} {o:Obj} {n:String} {vs:Array Value} {Q:Unit→Shared→Prop} (ho:s.heap.get? it=some o) (hc:o.cls=.type n) (hd:o.data=.fields vs)
    (hn:["enumerate","zip","dict_itemiterator","dict_reverseitemiterator","odict_iterator","itertools.zip_longest","itertools.pairwise"].contains n=false) (hQ:Q () s):wpAny M A (letOwnedTupleGo tg (.ref it) u) Q E s:=by
  unfold letOwnedTupleGo
  cases tg <;> first
    | exact wpAny_pure hQ
    | (cases u <;> first
        | exact wpAny_pure hQ
        | (refine wpAny_bind (wpAny_load ho ?_)
           rw [hc,hd]
           show wpAny M A (if (["enumerate","zip","dict_itemiterator","dict_reverseitemiterator","odict_iterator","itertools.zip_longest","itertools.pairwise"].contains n && vs[0]? == some (rawInt _))=true then _ else _) Q E s
           rw [if_neg (by intro h;rw [hn,Bool.false_and] at h;cases h)]
           exact wpAny_pure hQ))
noncomputable def Itl (K:PySem.W.Frag) (a:Addr):It :=
  ⟨fun i H=>∃ xs x,SqL K H a xs∧xs[i]? = some x,fun i H x H'=>H'=H∧∀ xs,SqL K H a xs→xs[i]? = some x,fun i H=>∃ xs,SqL K H a xs∧xs.length≤i⟩
noncomputable def Itt (K:PySem.W.Frag) (a:Addr):It :=
  ⟨fun i H=>∃ xs x,SqT K H a xs∧xs[i]? = some x,fun i H x H'=>H'=H∧∀ xs,SqT K H a xs→xs[i]? = some x,fun i H=>∃ xs,SqT K H a xs∧xs.length≤i⟩
noncomputable def Itr (lo:Int) (n:Nat):It:=⟨fun i _=>i < n,fun i H x H'=>H'=H∧x=.int (lo+i),fun i _=>n≤i⟩
theorem XH {P:Program} {w:World} {K:PySem.W.Frag} {tg:Expr} (a it:Addr):Turn P w K tg (Itl K a) [it] it (fun i h=>h.IsListIter it a i) where
  mem:=by simp
  obj:=fun i h st b hb=>by
    have e:b=it:=by simpa using hb
    subst e
    obtain ⟨o,e,c,d⟩:=st
    exact ⟨o,e,fun v z=>by rw [d] at z;cases z⟩
  keep:=fun i h h' st k=>st.at fun o e=>k it (by simp) o e
  item:=by
    intro X hP hw hK hc i pins s σ H E I hf st hg
    subst hP hw hK
    obtain ⟨xs,x,hq,hx⟩:=hg
    obtain ⟨its,rv,p,hz⟩:=I.list hq
    obtain ⟨u,hu,ru⟩:=rv.get hx
    obtain ⟨f0,f1,f2,f3,f4,f5⟩:=hf it (by simp)
    refine wpAny_pyNext_list_item st p.isList (x:=u) (by simpa using hu) fun h' st' sb=>?_
    have I1:Inv X pins σ H { s with heap:=h' }:=I.turned (t':=s.toks) (fun b o hb e=>(sb.2 b hb).trans e) f0 f1 f3 f4 f5
    obtain ⟨o,e,c,d⟩:=id st'
    exact ⟨u,rfl,Aaz (s:={ s with heap:=h' }) e c d (by decide) ⟨x,H,I1,ru,⟨rfl,fun ys hy=>by rw [I.list_inj hy hq];exact hx⟩,st',fun b hb=>(hf b hb).1⟩⟩
  done:=by
    intro X hP hw hK hc i pins s σ H E I hf st hg
    subst hP hw hK
    obtain ⟨xs,hq,hx⟩:=hg
    obtain ⟨its,rv,p,hz⟩:=I.list hq
    obtain ⟨f0,f1,f2,f3,f4,f5⟩:=hf it (by simp)
    have hl:=rv.length
    exact wpAny_pyNext_list_end (I.ok.hd hc) st p.isList (by simp;omega) fun h' eb=>⟨rfl,I.turned (t':=s.toks) (fun b o hb e=>eb b o hb e) f0 f1 f3 f4 f5⟩
  self:=fun _ _ _ _ _ st h=>wpAny_pyIter_listiter st h
theorem V7 {P:Program} {w:World} {K:PySem.W.Frag} {tg:Expr} (a it:Addr):Turn P w K tg (Itt K a) [it] it (fun i h=>h.IsTupleIter it a i) where
  mem:=by simp
  obj:=fun i h st b hb=>by
    have e:b=it:=by simpa using hb
    subst e
    obtain ⟨o,e,c,d⟩:=st
    exact ⟨o,e,fun v z=>by rw [d] at z;cases z⟩
  keep:=fun i h h' st k=>st.at fun o e=>k it (by simp) o e
  item:=by
    intro X hP hw hK hc i pins s σ H E I hf st hg
    subst hP hw hK
    obtain ⟨xs,x,hq,hx⟩:=hg
    obtain ⟨its,rv,p,hz⟩:=I.tuple hq
    obtain ⟨u,hu,ru⟩:=rv.get hx
    obtain ⟨f0,f1,f2,f3,f4,f5⟩:=hf it (by simp)
    refine wpAny_pyNext_tuple_item st (show s.heap.IsTuple a its.toArray from p) (x:=u) (by simpa using hu) fun h' st' sb=>?_
    have I1:Inv X pins σ H { s with heap:=h' }:=I.turned (t':=s.toks) (fun b o hb e=>(sb.2 b hb).trans e) f0 f1 f3 f4 f5
    obtain ⟨o,e,c,d⟩:=id st'
    exact ⟨u,rfl,Aaz (s:={ s with heap:=h' }) e c d (by decide) ⟨x,H,I1,ru,⟨rfl,fun ys hy=>by rw [I.tuple_inj hy hq];exact hx⟩,st',fun b hb=>(hf b hb).1⟩⟩
  done:=by
    intro X hP hw hK hc i pins s σ H E I hf st hg
    subst hP hw hK
    obtain ⟨xs,hq,hx⟩:=hg
    obtain ⟨its,rv,p,hz⟩:=I.tuple hq
    obtain ⟨f0,f1,f2,f3,f4,f5⟩:=hf it (by simp)
    have hl:=rv.length
    exact wpAny_pyNext_tuple_end (I.ok.hd hc) st (show s.heap.IsTuple a its.toArray from p) (by simp;omega) fun h' eb=>⟨rfl,I.turned (t':=s.toks) (fun b o hb e=>eb b o hb e) f0 f1 f3 f4 f5⟩
  self:=fun _ _ _ _ _ st h=>wpAny_pyIter_tupleiter st h
theorem VP {P:Program} {w:World} {K:PySem.W.Frag} {tg:Expr} (it:Addr) (lo:Int) (n:Nat):Turn P w K tg (Itr lo n) [it] it (fun i h=>IsRangeIter h it (lo+(i:Nat)*1) ((n:Int) - (i:Nat)) 1) where
  mem:=by simp
  obj:=fun i h st b hb=>by
    have e:b=it:=by simpa using hb
    subst e
    exact ⟨_,st,fun v z=>by
      have z':Data.fields _=Data.cell v:=z
      cases z'⟩
  keep:=fun i h h' st k=>k it (by simp) _ st
  item:=by
    intro X hP hw hK hc i pins s σ H E I hf st hg
    subst hP hw hK
    obtain ⟨f0,f1,f2,f3,f4,f5⟩:=hf it (by simp)
    have W:=Walks.range (prog:=X.prog) (w:=X.w) (I.ok.hd hc) it lo 1 n
    refine W.item i s _ _ hg st fun v h' tk hv st' kk=>?_
    obtain ⟨t,rfl⟩:=hv
    have I1:Inv X pins σ H { s with heap:=h',toks:=tk }:=I.turned (fun b o hb e=>kk b o (by simpa using hb) e) f0 f1 f3 f4 f5
    refine ⟨_,rfl,Aaz (s:={ s with heap:=h',toks:=tk }) (n:="range_iterator") st' rfl rfl (by decide) ⟨.int (lo+i),H,I1,⟨t,?_⟩,⟨rfl,rfl⟩,st',fun b hb=>(hf b hb).1⟩⟩
    rw [Int.mul_one]
  done:=by
    intro X hP hw hK hc i pins s σ H E I hf st hg
    subst hP hw hK
    obtain ⟨f0,f1,f2,f3,f4,f5⟩:=hf it (by simp)
    exact wpAny_pyNext_range_end (I.ok.hd hc) st (by have:n≤i:=hg;omega) fun h' eb=>⟨rfl,I.turned (t':=s.toks) (fun b o hb e=>eb b o hb e) f0 f1 f3 f4 f5⟩
  self:=fun _ _ _ _ _ st h=>wpAny_pyIter_rangeiter st h
end L2
namespace L2
open PySem PySem.Spec PyProof.Rows
section
variable {X:Cx} {tg:Expr}
noncomputable def Ahl (K:PySem.W.Frag) (tl:TE):TI:=fun σ H R=>tl σ H fun x H1=>∃ a,x=.ref a∧(∃ xs,SqL K H1 a xs)∧R (Itl K a) H1
noncomputable def Ali (K:PySem.W.Frag) (tl:TE):TI:=fun σ H R=>tl σ H fun x H1=>∃ a,x=.ref a∧(∃ xs,SqT K H1 a xs)∧R (Itt K a) H1
theorem Acj {l:Expr} {tl:TE} (hl:PE X l tl):PI X tg l (Ahl X.K tl):=by
  intro pins s σ H R I h
  refine thn (hl pins s σ H _ I h) fun v s1 ⟨x,H1,I1,r1,q1⟩=>?_
  obtain ⟨a,e,⟨xs,hq⟩,q⟩:=q1
  subst e
  cases r1
  obtain ⟨its,rv,p,hz⟩:=I1.list hq
  refine wpAny_pyIter_list p.isList ?_
  refine ⟨s1.heap.objs.size,[s1.heap.objs.size],_,_,H1,rfl,I1.kept (t':=s1.toks) fun b o e=>Heap.get?_push_of_some _ e,XH a _,⟨_,Heap.get?_push_size _ rfl,rfl,rfl⟩,fun b hb=>?_,q⟩
  have e:b=s1.heap.objs.size:=by simpa using hb
  subst e
  exact I1.fpOk (Nat.le_refl _) (I1.hok.fresh (Nat.le_refl _))
theorem Aec {l:Expr} {tl:TE} (hl:PE X l tl):PI X tg l (Ali X.K tl):=by
  intro pins s σ H R I h
  refine thn (hl pins s σ H _ I h) fun v s1 ⟨x,H1,I1,r1,q1⟩=>?_
  obtain ⟨a,e,⟨xs,hq⟩,q⟩:=q1
  subst e
  cases r1
  obtain ⟨its,rv,p,hz⟩:=I1.tuple hq
  refine wpAny_pyIter_tuple (show s1.heap.IsTuple a its.toArray from p) ?_
  refine ⟨s1.heap.objs.size,[s1.heap.objs.size],_,_,H1,rfl,I1.kept (t':=s1.toks) fun b o e=>Heap.get?_push_of_some _ e,V7 a _,⟨_,Heap.get?_push_size _ rfl,rfl,rfl⟩,fun b hb=>?_,q⟩
  have e:b=s1.heap.objs.size:=by simpa using hb
  subst e
  exact I1.fpOk (Nat.le_refl _) (I1.hok.fresh (Nat.le_refl _))
theorem UW {pins:List (Addr × Obj)} {σ:St} {H:Hp} {s:Shared} {R:It→Hp→Prop} {E:Value→Shared→Prop} {lo hi:Int} {t u v:Tok} {tk:Nat} (I:Inv X pins σ H s) (h1:-(2 ^ 62)≤lo) (h2:lo < 2 ^ 62) (h3:-(2 ^ 62)≤hi) (h4:hi < 2 ^ 62)
    (q:R (Itr lo (hi - lo).toNat) H):wpAny (model X.prog X.w) X.A (pyIter (.ref s.heap.objs.size)) (PIE X pins σ tg R) E { s with heap:=s.heap.push { cls:=.type "range",data:=.fields #[.int lo t,.int hi u,.int 1 v] },toks:=tk }:=by
  refine wpAny_pyIter_range (IsRange.new ..) (small_one h1 h2 h3 h4) ?_
  have I1:Inv X pins σ H { s with heap:=s.heap.push { cls:=.type "range",data:=.fields #[.int lo t,.int hi u,.int 1 v] },toks:=tk }:=I.kept fun b o e=>Heap.get?_push_of_some _ e
  refine ⟨(s.heap.push { cls:=.type "range",data:=.fields #[.int lo t,.int hi u,.int 1 v] }).objs.size,[(s.heap.push { cls:=.type "range",data:=.fields #[.int lo t,.int hi u,.int 1 v] }).objs.size],_,_,H,rfl,
    I1.kept (t':=tk) fun b o e=>Heap.get?_push_of_some _ e,VP _ lo (hi - lo).toNat,?_,fun b hb=>?_,q⟩
  · have e1:lo+((0:Nat):Int)*1=lo:=by simp
    have e2:(((hi - lo).toNat:Nat):Int) - ((0:Nat):Int)=Builtin.Range.rangeSize lo hi 1:=by rw [rangeSize_one];split <;> omega
    show IsRangeIter _ _ (lo+((0:Nat):Int)*1) ((((hi - lo).toNat:Nat):Int) - ((0:Nat):Int)) 1
    rw [e1,e2]
    exact Heap.get?_push_size _ rfl
  · have e:b=(s.heap.push { cls:=.type "range",data:=.fields #[.int lo t,.int hi u,.int 1 v] }).objs.size:=by simpa using hb
    subst e
    exact I1.fpOk (Nat.le_refl _) (I1.hok.fresh (Nat.le_refl _))
noncomputable def Ag7 (ta:TA):TI:=fun σ H R=>ta σ H fun vs H1=>∃ j:Int,vs=[.int j]∧-(2 ^ 62)≤j∧j < 2 ^ 62∧R (Itr 0 j.toNat) H1
noncomputable def AhV (ta:TA):TI:=fun σ H R=>ta σ H fun vs H1=>∃ i j:Int,vs=[.int i,.int j]∧(-(2 ^ 62)≤i∧i < 2 ^ 62∧-(2 ^ 62)≤j∧j < 2 ^ 62)∧R (Itr i (j - i).toNat) H1
theorem XJ {a:Expr} {ta:TA} {p pos:Pos} (hg:Gl X "range") (hm:X.mg "range"=none) (ha:PA X [a] ta) (hs:starEach [a] X.env=[(false,eval a X.env)]:=by rfl):PI X tg (.Call (.Name "range" p) [a] [] pos) (Ag7 ta):=by
  intro pins s σ H R I h
  refine Call_ (Mv I hg hm boot_range (PyProof.Rows.callWith_type1 (thn (ha pos pins s σ H _ I h) fun us s1 ⟨vs,H1,I1,r1,q1⟩=>?_) hs rfl))
  obtain ⟨j,e,q1,q2,q⟩:=q1
  subst e
  cases r1 with
  | cons r rr =>
    cases rr
    obtain ⟨t,rfl⟩:=r
    exact call_range_1 (UW I1 (by omega) (by omega) q1 q2 (by simpa using q))
theorem X6 {a b:Expr} {ta:TA} {p pos:Pos} (hg:Gl X "range") (hm:X.mg "range"=none) (ha:PA X [a,b] ta) (hs:starEach [a,b] X.env=[(false,eval a X.env),(false,eval b X.env)]:=by rfl) (hs2:starEach [b] X.env=[(false,eval b X.env)]:=by rfl) :
    PI X tg (.Call (.Name "range" p) [a,b] [] pos) (AhV ta):=by
  intro pins s σ H R I h
  refine Call_ (Mv I hg hm boot_range (PyProof.Rows.callWith_type1 (thn (ha pos pins s σ H _ I h) fun us s1 ⟨vs,H1,I1,r1,q1⟩=>?_) (by rw [hs,hs2]) (by rw [hs2];rfl)))
  obtain ⟨i,j,e,⟨q1,q2,q3,q4⟩,q⟩:=q1
  subst e
  cases r1 with
  | cons r rr =>
    cases rr with
    | cons r' rr =>
      cases rr
      obtain ⟨t,rfl⟩:=r
      obtain ⟨t',rfl⟩:=r'
      exact call_range_2 (UW I1 q1 q2 q3 q4 q)
noncomputable def Akl (wi:TI) (g:TG) (tb:TS):TS:=fun D σ H=>wi σ H fun J H1=>∃ W:Nat→Nat→St→Hp→Prop,(∃ m,W 0 m σ H1)∧∀ i m σ H,W i m σ H →
  (J.stop i H∧D.nx σ H)∨(J.go i H∧∃ N:St→Hp→Prop,(∀ σ' H',N σ' H'→∃ m',m' < m∧W (i+1) m' σ' H')∧∀ x H',J.yld i H x H'→g x σ H' fun σ2 H2=>tb { D with nx:=N,ct:=N,bk:=D.nx } σ2 H2)
noncomputable def Ms (fp:List Addr) (h:Heap):List (Addr × Obj):=fp.filterMap fun b=>(h.get? b).map fun o=>(b,o)
theorem Gf {fp:List Addr} {h:Heap} {b:Addr} {o:Obj} (hb:b∈fp) (e:h.get? b=some o):(b,o)∈Ms fp h:=List.mem_filterMap.mpr ⟨b,hb,by rw [e];rfl⟩
theorem Xy {fp:List Addr} {h:Heap} {p:Addr × Obj} (hp:p∈Ms fp h):p.1∈fp∧h.get? p.1=some p.2:=by
  obtain ⟨b,hb,e⟩:=List.mem_filterMap.mp hp
  cases q:h.get? b with
  | none=>rw [q] at e;cases e
  | some o =>
    rw [q] at e
    have e':(b,o)=p:=Option.some.inj e
    subst e'
    exact ⟨hb,q⟩
theorem Inv.pinned {pins:List (Addr × Obj)} {σ:St} {H:Hp} {s:Shared} {fp:List Addr} (I:Inv X pins σ H s) (hf:∀ b∈fp,KC X pins H b) (ho:∀ b∈fp,∃ o,s.heap.get? b=some o∧∀ v,o.data≠.cell v):Inv X (pins ++ Ms fp s.heap) σ H s :=
  I.pins_of fun p hp=>(List.mem_append.mp hp).elim (fun z=>I.pin p (List.mem_append_right _ z)) fun z=>by
    obtain ⟨hb,e⟩:=Xy z
    obtain ⟨f0,f1,f2,_⟩:=hf p.1 hb
    obtain ⟨o,e',d⟩:=ho p.1 hb
    rw [e] at e';cases e'
    exact ⟨e,f0,f1,f2,d⟩
theorem Inv.unpinned {pins pl:List (Addr × Obj)} {σ:St} {H:Hp} {s:Shared} (I:Inv X (pins ++ pl) σ H s):Inv X pins σ H s:=I.pins_of fun p hp=>I.pin p (List.mem_append_right _ (List.mem_append_left _ hp))
theorem Afw {iter:Expr} {body:List Stmt} {wi:TI} {g:TG} {tb:TS} {pos:Pos} (hp:PassesOwn (model X.prog X.w) X.A X.env X.xe) (hc:X.calm=true) (hi:PI X tg iter wi) (hg:PG X tg g) (hb:PSs X body tb)
    (hs:∀ x,foldedSetIterable iter X.env x=pure x:=by intro _;rfl):PS X (.For tg iter body [] pos) (Akl wi g tb):=by
  intro pins s σ H D I h
  refine wpAny_For (thn (hi pins s σ H _ I h) fun v s1 h1=>thn h1 fun itv s2 h2=>?_) hs
  obtain ⟨it,fp,tn,J,H2,e,I2,T,st2,f2,W,⟨m0,w0⟩,turn⟩:=h2
  subst e
  have stat:∀ {H':Hp},(∀ b∈fp,H' b=none)→∀ b∈fp,KC X pins H' b:=fun hn b hb=>⟨hn b hb,(f2 b hb).2⟩
  refine codeAny_forLoop_any (fun n s'=>∃ i σ' H',Inv X pins σ' H' s'∧tn i s'.heap∧(∀ b∈fp,H' b=none)∧W i n σ' H') ?_ m0 ⟨0,σ,H2,I2,st2,fun b hb=>(f2 b hb).1,w0⟩
  rintro n s3 ⟨i,σ3,H3,I3,st3,fr3,w3⟩
  rcases turn i n σ3 H3 w3 with ⟨stop,qn⟩ | ⟨go,N,hN,step⟩
  · refine wpAny_passesOwn hp (thn (T.done X rfl rfl rfl hc i pins s3 σ3 H3 X.xe I3 (stat fr3) st3 stop) fun r s4 ⟨hr,I4⟩=>?_)
    subst hr
    exact wpAny_execs_nil ⟨σ3,H3,I4,qn⟩
  · refine wpAny_passesOwn hp (thn (T.item X rfl rfl rfl hc i pins s3 σ3 H3 X.xe I3 (stat fr3) st3 go) fun r s4 ⟨u,hr,h4⟩=>?_)
    subst hr
    refine wpAny_passesOwn hp (thn h4 fun _ s5 ⟨x,H5,I5,r5,y5,st5,fr5⟩=>?_)
    have I5':=I5.pinned (stat fr5) (T.obj _ _ st5)
    refine wpAny_passesOwn hp (thn (hg _ s5 σ3 H5 x u _ I5' r5 (step x H5 y5)) fun _ s6 ⟨σ6,H6,I6,q6⟩=>?_)
    refine wpAny_passesOwn hp (thn (hb _ s6 σ6 H6 _ I6 q6) fun f s7 q7=>?_)
    have again:∀ {σ7:St} {H7:Hp},Inv X (pins ++ Ms fp s5.heap) σ7 H7 s7→N σ7 H7→∃ m,m < n∧∃ i σ' H',Inv X pins σ' H' s7∧tn i s7.heap∧(∀ b∈fp,H' b=none)∧W i m σ' H':=fun {σ7 H7} I7 n7=>by
      obtain ⟨m',hm,w7⟩:=hN σ7 H7 n7
      refine ⟨m',hm,i+1,σ7,H7,I7.unpinned,T.keep _ _ _ st5 fun b hb o e=>(I7.pin (b,o) (List.mem_append_right _ (List.mem_append_right _ (Gf hb e)))).1,fun b hb=>?_,w7⟩
      obtain ⟨o,e,d⟩:=T.obj _ _ st5 b hb
      exact (I7.pin (b,o) (List.mem_append_right _ (List.mem_append_right _ (Gf hb e)))).2.1
    cases f with
    | next=>obtain ⟨σ7,H7,I7,n7⟩:=q7;exact again I7 n7
    | cont=>obtain ⟨σ7,H7,I7,n7⟩:=q7;exact again I7 n7
    | brk=>obtain ⟨σ7,H7,I7,q7⟩:=q7;exact ⟨σ7,H7,I7.unpinned,q7⟩
    | ret v=>obtain ⟨x7,σ7,H7,I7,r7,q7⟩:=q7;exact ⟨x7,σ7,H7,I7.unpinned,r7,q7⟩
end
end L2
namespace L2
open PySem PySem.Spec PyProof.Rows
noncomputable abbrev R2:=V→V→Hp→VK→Prop
noncomputable def OpR (X:Cx) (f:Value→Value→Sem Value) (r:R2):Prop :=
  ∀ (pins:List (Addr × Obj)) (s:Shared) (σ:St) (H:Hp) (x y:V) (v u:Value) (Q:VK),Inv X pins σ H s→RelV x v→RelV y u→r x y H Q →
    wpAny (model X.prog X.w) X.A (f v u) (EP X pins σ Q) X.xe s
noncomputable def UnR (X:Cx) (f:Value→Sem Value) (r:V→Hp→VK→Prop):Prop :=
  ∀ (pins:List (Addr × Obj)) (s:Shared) (σ:St) (H:Hp) (x:V) (v:Value) (Q:VK),Inv X pins σ H s→RelV x v→r x H Q →
    wpAny (model X.prog X.w) X.A (f v) (EP X pins σ Q) X.xe s
noncomputable def Ju (X:Cx) (f:Value) (r:List V→Hp→VK→Prop):Prop :=
  ∀ (pins:List (Addr × Obj)) (s:Shared) (σ:St) (H:Hp) (xs:List V) (us:List Value) (Q:VK),Inv X pins σ H s→Vals xs us→r xs H Q →
    wpAny (model X.prog X.w) X.A (call f us) (EP X pins σ Q) X.xe s
noncomputable def tOp (r:R2) (ta tb:TE):TE:=fun σ H Q=>ta σ H fun x H1=>tb σ H1 fun y H2=>r x y H2 Q
noncomputable def tUn (r:V→Hp→VK→Prop) (ta:TE):TE:=fun σ H Q=>ta σ H fun x H1=>r x H1 Q
noncomputable def rI (C:Int→Int→Prop) (g:Int→Int→V):R2:=fun x y H Q=>∃ i j,x=.int i∧y=.int j∧C i j∧Q (g i j) H
noncomputable def rI0 (g:Int→Int→V):R2:=fun x y H Q=>∃ i j,x=.int i∧y=.int j∧Q (g i j) H
noncomputable def rU (g:Int→V):V→Hp→VK→Prop:=fun x H Q=>∃ i,x=.int i∧Q (g i) H
section
variable {X:Cx} {a b c:Expr} {ta tb tc:TE} {pos:Pos}
theorem Afa (ha:PE X a ta) (hb:PE X b tb) {pins:List (Addr × Obj)} {s:Shared} {σ:St} {H:Hp} {R:V→V→Hp→Prop} (I:Inv X pins σ H s)
    (h:ta σ H fun x H1=>tb σ H1 fun y H2=>R x y H2) {Q:Value→Shared→Prop} {f:Value→Value→Sem Value}
    (hf:∀ v u s2 x y H2,Inv X pins σ H2 s2→RelV x v→RelV y u→R x y H2→wpAny (model X.prog X.w) X.A (f v u) Q X.xe s2) :
    wpAny (model X.prog X.w) X.A (eval a X.env) (fun v s₁=>wpAny (model X.prog X.w) X.A (eval b X.env) (fun u s₂=>wpAny (model X.prog X.w) X.A (f v u) Q X.xe s₂) X.xe s₁) X.xe s:=by
  refine thn (ha pins s σ H _ I h) fun v s1 ⟨x,H1,I1,r1,q1⟩=>?_
  refine thn (hb pins s1 σ H1 _ I1 q1) fun u s2 ⟨y,H2,I2,r2,q2⟩=>?_
  exact hf v u s2 x y H2 I2 r1 r2 q2
theorem Ahr {op:Operator} {r:R2} (ho:OpR X (binaryOp op) r) (ha:PE X a ta) (hb:PE X b tb):PE X (.BinOp a op b pos) (tOp r ta tb):=by
  intro pins s σ H Q I h
  exact wpAny_BinOp (Afa ha hb I h fun v u s2 x y H2 I2 rx ry q=>ho pins s2 σ H2 x y v u Q I2 rx ry q)
theorem Ait {op:UnaryOp} {r:V→Hp→VK→Prop} (ho:UnR X (unaryOp op) r) (ha:PE X a ta):PE X (.UnaryOp op a pos) (tUn r ta):=by
  intro pins s σ H Q I h
  exact UnaryOp_ (thn (ha pins s σ H _ I h) fun v s1 ⟨x,H1,I1,r1,q1⟩=>ho pins s1 σ H1 x v Q I1 r1 q1)
theorem opI {f:Value→Value→Sem Value} {C:Int→Int→Prop} {g:Int→Int→Int}
    (rule:∀ (i j:Int) (t u:Tok) (s:Shared) (Q:Value→Shared→Prop) (E:Value→Shared→Prop),C i j→Q (.int (g i j) s.toks) { s with toks:=s.toks+1 }→wpAny (model X.prog X.w) X.A (f (.int i t) (.int j u)) Q E s) :
    OpR X f (rI C fun i j=>.int (g i j)):=by
  intro pins s σ H x y v u Q I rx ry h
  obtain ⟨i,j,rfl,rfl,hc,q⟩:=h
  obtain ⟨t,rfl⟩:=rx
  obtain ⟨t',rfl⟩:=ry
  exact rule i j t t' s _ _ hc ⟨.int (g i j),H,I.tok _,⟨_,rfl⟩,q⟩
theorem AhD {f:Value→Value→Sem Value} {g:Int→Int→Int}
    (rule:∀ (i j:Int) (t u:Tok) (s:Shared) (Q:Value→Shared→Prop) (E:Value→Shared→Prop),Q (.int (g i j) s.toks) { s with toks:=s.toks+1 }→wpAny (model X.prog X.w) X.A (f (.int i t) (.int j u)) Q E s) :
    OpR X f (rI0 fun i j=>.int (g i j)):=by
  intro pins s σ H x y v u Q I rx ry h
  obtain ⟨i,j,rfl,rfl,q⟩:=h
  obtain ⟨t,rfl⟩:=rx
  obtain ⟨t',rfl⟩:=ry
  exact rule i j t t' s _ _ ⟨.int (g i j),H,I.tok _,⟨_,rfl⟩,q⟩
theorem AaP {f:Value→Value→Sem Value} {g:Int→Int→Bool}
    (rule:∀ (i j:Int) (t u:Tok) (s:Shared) (Q:Value→Shared→Prop) (E:Value→Shared→Prop),Q (.bool (g i j)) s→wpAny (model X.prog X.w) X.A (f (.int i t) (.int j u)) Q E s) :
    OpR X f (rI0 fun i j=>.bl (g i j)):=by
  intro pins s σ H x y v u Q I rx ry h
  obtain ⟨i,j,rfl,rfl,q⟩:=h
  obtain ⟨t,rfl⟩:=rx
  obtain ⟨t',rfl⟩:=ry
  exact rule i j t t' s _ _ ⟨.bl (g i j),H,I,rfl,q⟩
noncomputable def Vz (i j:Int):Prop:=0≤j∧j≤1000000∧i.natAbs < 2 ^ 64
theorem AdY:OpR X (binaryOp .Add) (rI0 fun i j=>.int (i+j)):=AhD fun _ _ _ _ _ _ _ q=>add_int q
theorem Ad1:OpR X (binaryOp .Sub) (rI0 fun i j=>.int (i - j)):=AhD fun _ _ _ _ _ _ _ q=>sub_int q
theorem Acq:OpR X (binaryOp .Mod) (rI (fun _ j=>j≠0) fun i j=>.int (i.fmod j)):=opI fun _ _ _ _ _ _ _ hc q=>mod_int' hc q
theorem Afk:OpR X (binaryOp .Pow) (rI Vz fun i j=>.int (i ^ j.toNat)):=opI fun _ _ _ _ _ _ _ hc q=>pow_int_small hc.1 hc.2.1 hc.2.2 q
theorem Aeu:OpR X (binaryOp .LShift) (rI Vz fun i j=>.int (i*2 ^ j.toNat)):=opI fun _ _ _ _ _ _ _ hc q=>lshift_int_small hc.1 hc.2.1 hc.2.2 q
theorem unI {f:Value→Sem Value} {g:Int→Int}
    (rule:∀ (i:Int) (t:Tok) (s:Shared) (Q:Value→Shared→Prop) (E:Value→Shared→Prop),Q (.int (g i) s.toks) { s with toks:=s.toks+1 }→wpAny (model X.prog X.w) X.A (f (.int i t)) Q E s) :
    UnR X f (rU fun i=>.int (g i)):=by
  intro pins s σ H x v Q I rx h
  obtain ⟨i,rfl,q⟩:=h
  obtain ⟨t,rfl⟩:=rx
  exact rule i t s _ _ ⟨.int (g i),H,I.tok _,⟨_,rfl⟩,q⟩
theorem Ae9:UnR X (unaryOp .USub) (rU fun i=>.int (-i)):=unI fun _ _ _ _ _ q=>neg_int q
end
section
variable {X:Cx} {a b c:Expr} {ta tb tc:TE} {pos:Pos}
theorem O6:OpR X (compareOp .Lt) (rI0 fun i j=>.bl (decide (i < j))):=AaP fun _ _ _ _ _ _ _ q=>lt_int q
theorem JV:OpR X (compareOp .LtE) (rI0 fun i j=>.bl (decide (i≤j))):=AaP fun _ _ _ _ _ _ _ q=>le_int q
theorem AgF:OpR X (compareOp .Gt) (rI0 fun i j=>.bl (decide (j < i))):=AaP fun _ _ _ _ _ _ _ q=>gt_int q
theorem AcR:OpR X (compareOp .GtE) (rI0 fun i j=>.bl (decide (j≤i))):=AaP fun _ _ _ _ _ _ _ q=>ge_int q
theorem JB (b:Expr) {op:CmpOp} (h:op≠.In:=by decide) (h2:op≠.NotIn:=by decide):behindInMarks op b=false:=by
  have e1:(op == CmpOp.In)=false:=by cases op <;> first | rfl | exact absurd rfl h
  have e2:(op == CmpOp.NotIn)=false:=by cases op <;> first | rfl | exact absurd rfl h2
  cases b <;> simp [behindInMarks,e1,e2]
theorem AaU {op:CmpOp} {r:R2} (ho:OpR X (compareOp op) r) (ha:PE X a ta) (hb:PE X b tb) (hm:behindInMarks op b=false):PE X (.Compare a [op] [b] pos) (tOp r ta tb):=by
  intro pins s σ H Q I h
  exact wpAny_Compare1 (Afa ha hb I h fun v u s2 x y H2 I2 rx ry q=>ho pins s2 σ H2 x y v u Q I2 rx ry q) hm
noncomputable def AfP (t:TE):TT:=fun σ H Q=>t σ H fun x H'=>∃ k,x=.bl k∧Q k H'
theorem AaZ {op:CmpOp} {r:R2} (ho:OpR X (compareOp op) r) (ha:PE X a ta) (hb:PE X b tb) (hm:behindInMarks op b=false):PT X (.Compare a [op] [b] pos) (AfP (tOp r ta tb)):=by
  intro pins s σ H Q I h
  refine wpAny_isTrue_Compare1 (thn (ha pins s σ H _ I h) fun v s1 ⟨x,H1,I1,r1,q1⟩=>thn (hb pins s1 σ H1 _ I1 q1) fun u s2 ⟨y,H2,I2,r2,q2⟩ =>
    thn (ho pins s2 σ H2 x y v u _ I2 r1 r2 q2) fun c s3 ⟨z,H3,I3,r3,k,e,q3⟩=>?_) hm
  subst e
  cases r3
  exact wpAny_truthy_bool ⟨H3,I3,q3⟩
noncomputable def Aav (r r':R2) (ta tb tc:TE):TE:=fun σ H Q=>ta σ H fun x H1=>tb σ H1 fun y H2=>r x y H2 fun z H3=>∃ k,z=.bl k ∧
  (if k=true then tc σ H3 fun w' H4=>r' y w' H4 Q else Q (.bl false) H3)
theorem Aal {op op':CmpOp} {r r':R2} (ho:OpR X (compareOp op) r) (ho':OpR X (compareOp op') r') (ha:PE X a ta) (hb:PE X b tb) (hc:PE X c tc)
    (hm:lastMarks [op,op'] [b,c]=false:=by with_unfolding_all rfl):PE X (.Compare a [op,op'] [b,c] pos) (Aav r r' ta tb tc):=by
  intro pins s σ H Q I h
  refine Compare_chain (thn (ha pins s σ H _ I h) fun v s1 ⟨x,H1,I1,r1,q1⟩=>chain_link (thn (hb pins s1 σ H1 _ I1 q1) fun u s2 ⟨y,H2,I2,r2,q2⟩ =>
    thn (ho pins s2 σ H2 x y v u _ I2 r1 r2 q2) fun d s3 ⟨z,H3,I3,r3,k,e,q3⟩=>?_)) hm
  subst e
  cases r3
  refine wpAny_truthy_bool ?_
  cases k with
  | false=>exact ite_ff ⟨.bl false,H3,I3,rfl,q3⟩
  | true=>exact ite_tt (chain_last (thn (hc pins s3 σ H3 _ I3 q3) fun w' s4 ⟨z',H4,I4,r4,q4⟩=>ho' pins s4 σ H4 y z' u w' Q I4 r2 r4 q4))
theorem RP:(sizeLine:Nat) < 2 ^ 63:=by rw [sizeLine_eq];decide
theorem vals1 {x:V} {us:List Value} (r:Vals [x] us):∃ u,us=[u]∧RelV x u:=by
  cases r with
  | cons r1 r2=>cases r2;exact ⟨_,rfl,r1⟩
theorem vals2 {x y:V} {us:List Value} (r:Vals [x,y] us):∃ u w',us=[u,w']∧RelV x u∧RelV y w':=by
  cases r with
  | cons r1 r2 =>
    cases r2 with
    | cons r3 r4=>cases r4;exact ⟨_,_,rfl,r1,r3⟩
theorem ZP:Ju X (.builtin "abs") (fun xs H Q=>∃ i,xs=[.int i]∧Q (.int (if i < 0 then -i else i)) H):=by
  intro pins s σ H xs us Q I r h
  obtain ⟨i,rfl,q⟩:=h
  obtain ⟨u,rfl,t,rfl⟩:=vals1 r
  exact call_abs_int fun u tk=>⟨.int (if i < 0 then -i else i),H,I.tok _,⟨_,rfl⟩,q⟩
theorem Xp (hc:X.calm=true):Ju X (.builtin "max") (fun xs H Q=>∃ i j,xs=[.int i,.int j]∧Q (.int (if j > i then j else i)) H):=by
  intro pins s σ H xs us Q I r h
  obtain ⟨i,j,rfl,q⟩:=h
  obtain ⟨u,w',rfl,⟨t,rfl⟩,⟨t',rfl⟩⟩:=vals2 r
  refine max_two_ints (I.ok.hd hc) fun h' tk k=>⟨_,H,I.kept k,?_,q⟩
  by_cases hj:j > i
  · rw [if_pos hj,if_pos hj];exact ⟨_,rfl⟩
  · rw [if_neg hj,if_neg hj];exact ⟨_,rfl⟩
end
end L2
namespace L2
open PySem PySem.Spec PyProof.Rows
structure Wd (h:Heap) (x dx C:Addr) (mA:Str→Option Value):Prop where
  obj:h.get? x=some (PySem.W.instObj C dx)
  ns:h.Ns1 dx mA
  ne:dx≠x
theorem X8 {h:Heap} {dx:Addr} {mA:Str→Option Value} (n:h.Ns1 dx mA):∃ od,h.get? dx=some od∧∀ name,PySem.W.lookIn name od=some (mA name):=by
  obtain ⟨o,es,ep,ho,hd,hk,_,hm⟩:=n
  refine ⟨o,ho,fun name=>?_⟩
  have e:=hm name
  unfold nsFind findBy at e
  rw [←Array.find?_toList] at e
  unfold PySem.W.lookIn
  rw [hd]
  dsimp only
  split
  · rename_i y q
    rw [q] at e
    exact congrArg some e
  · rename_i q
    rw [q] at e
    have a:es.toList.any (·.refKey)=false:=by
      rw [List.any_eq_false]
      intro y hy
      obtain ⟨z,t,hkey⟩:=hk y (Array.mem_toList_iff.mp hy)
      simp [DictEntry.refKey,hkey]
    have a':¬ es.toList.any (·.refKey)=true:=by rw [a];exact Bool.false_ne_true
    rw [if_neg a']
    exact congrArg some e
theorem Wd.look {h:Heap} {x dx C:Addr} {mA:Str→Option Value} (I:Wd h x dx C mA):∃ od,PySem.W.InstAt h x (PySem.W.instObj C dx) C (some od)∧∀ name,PySem.W.lookIn name od=some (mA name) :=
  let ⟨od,ho,hl⟩:=X8 I.ns
  ⟨od,⟨I.obj,rfl,rfl,ho⟩,hl⟩
section
variable {prog:Program} {w:World} {A:Around} {E:Value→Shared→Prop} {s:Shared} {K:PySem.W.Frag} {x dx C f:Addr} {mA:Str→Option Value} {name:Str} {v:Value}
theorem get_map {expr:Bool} {Q:Value→Shared→Prop} (X:K.In s.heap) (I:Wd s.heap x dx C mA) (hg:PySem.W.plainGet K C name=true) (hh:PySem.W.hasDictIn K C=true)
    (ha:PySem.W.findIn K (.ref C) name=some none) (hv:mA name=some v) (hv':PySem.W.handedIn v=true) (h:Q v { s with toks:=s.toks+1 }) :
    wpAny (model prog w) A (getAttr (.ref x) name expr) Q E s:=by
  obtain ⟨od,J,hl⟩:=I.look
  exact PySem.W.get_value X J (PySem.W.plainGet_of hg).1 (PySem.W.findObj_own hh ha rfl (by rw [hl,hv])) hv' h
theorem Z2 {pl:Sem Bool} {Q:Value × List Value→Shared→Prop} (X:K.In s.heap) (I:Wd s.heap x dx C mA) (hg:PySem.W.plainGet K C name=true)
    (hf:PySem.W.findIn K (.ref C) name=some (some (.ref f))) (ht:PySem.W.isFn K (.ref f)=true) (hv:mA name=none) (h:Q (.ref f,[.ref x]) s) :
    wpAny (model prog w) A (getMethod (.ref x) name pl) Q E s:=by
  obtain ⟨od,J,hl⟩:=I.look
  exact PySem.W.method_fn X J (PySem.W.plainGet_of hg).1 (PySem.W.plainGet_of hg).2 hf (beq_iff_eq.mp ht) (by show (PySem.W.lookIn name od).map (·.isSome)=some false;rw [hl,hv];rfl) h
theorem AcC {ns:List Str} {Q:Unit→Shared→Prop} (X:K.In s.heap) (I:Wd s.heap x dx C mA)
    (hs:PySem.W.findIn K (.ref C) "__setattr__"=some (some (.builtin "object.__setattr__"))) (hp:PySem.W.plainOver K C=true) (ht:PySem.W.takerIn K C name=some none) (hh:PySem.W.hasDictIn K C=true)
    (hw:PySem.Within mA ns) (hsz:ns.length≤sizeLine)
    (h:∀ h',Wd h' x dx C (fun y=>if y=name then some v else mA y)→Heap.SameBut dx s.heap h'→Q () { s with heap:=h',toks:=s.toks+2 }) :
    wpAny (model prog w) A (setAttr (.ref x) name v) Q E s:=by
  obtain ⟨od,J,hl⟩:=I.look
  refine PySem.W.set_plain X J hs (PySem.W.osa_open (s:={ s with toks:=s.toks+1 }) (r:=none) X J hp ht fun b=>?_)
  obtain ⟨cd,hc,hd'⟩:=PySem.W.any_some hh
  have hx:s.heap.get? x=some ⟨.ref C,some dx,.plain,#[]⟩:=I.obj
  refine wpAny_bind (wpAny_pure (wpAny_bind (wpAny_bind (wpAny_loadPart hx (wpAny_bind (PySem.W.Looks.here (s:={ s with toks:=s.toks+1 }) (PySem.W.looks_clsIn X hc) ?_))))))
  rw [hd']
  refine wpAny_pure (a:=some dx) (wpAny_bind (wpAny_pure (wpAny_bind ?_)))
  refine wpAny_nsSet1 (s:={ s with toks:=s.toks+1 }) I.ns fun h' hn2 hs2=>?_
  obtain ⟨oD,esD,epD,hoD,hdD,hcD⟩:=hn2.count (PySem.Within.cons name v hw)
  refine wpAny_bind (wpAny_lookBehind hoD (by rw [hdD];exact pastItsLine_dict (Nat.le_trans hcD (by rw [List.length_cons];omega))) ?_)
  exact wpAny_pure (h _ ⟨(hs2.2 _ (Ne.symm I.ne)).trans I.obj,hn2,I.ne⟩ hs2)
theorem Aau {R:Result→Shared→Prop} {vs:List Value} {kw:List (Str × Value)} (X:K.In s.heap) (hm:PySem.W.makesIn K C=true)
    (hi:PySem.W.findIn K (.ref C) "__init__"=some (some (.ref f))) (hf:PySem.W.typeIn K (.ref f)=some (.type "function"))
    (h:codeAny (model prog w) (A.under (.builtin "type.__call__" ⟨.ref C :: vs,kw⟩)) (.call (.ref f) ⟨.ref (s.heap.objs.size+1) :: vs,kw⟩) (PySem.W.InitBack (s.heap.objs.size+1) R)
      { s with heap:=(s.heap.push PySem.W.emptyDict).push (PySem.W.instObj C s.heap.objs.size) }) :
    codeAny (model prog w) A (.call (.ref C) ⟨vs,kw⟩) R s:=by
  obtain ⟨hh,g,d,t,os⟩:=s
  exact PySem.W.make_core (PySem.W.makes_of X hm) (PySem.W.looks_findIn X hi) (fun self=>PySem.W.bind_fn X self hf) (.inl rfl) h
end
noncomputable def G6 (f:Str) (v:V):List (Str × V)→List (Str × V)
  | []=>[(f,v)]
  | (g,x) :: r=>if g=f then (g,v) :: r else (g,x) :: G6 f v r
theorem M9 (f g:Str) (v:V):∀ fs:List (Str × V),(G6 f v fs).lookup g=if g=f then some v else fs.lookup g
  | []=>by
    show List.lookup g [(f,v)]=_
    by_cases h:g=f
    · have hb:(g == f)=true:=beq_iff_eq.mpr h
      simp only [List.lookup,hb,if_pos h]
    · have hb:(g == f)=false:=beq_eq_false_iff_ne.mpr h
      simp only [List.lookup,hb,if_neg h]
  | (k,x) :: r=>by
    have ih:=M9 f g v r
    rw [show G6 f v ((k,x) :: r)=(if k=f then (k,v) :: r else (k,x) :: G6 f v r) from rfl]
    by_cases hk:k=f
    · rw [if_pos hk]
      by_cases h:g=k
      · have hb:(g == k)=true:=beq_iff_eq.mpr h
        simp only [List.lookup,hb,if_pos (h.trans hk)]
      · have hb:(g == k)=false:=beq_eq_false_iff_ne.mpr h
        simp only [List.lookup,hb,if_neg (fun e:g=f=>h (e.trans hk.symm))]
    · rw [if_neg hk]
      by_cases h:g=k
      · have hb:(g == k)=true:=beq_iff_eq.mpr h
        simp only [List.lookup,hb,if_neg (fun e:g=f=>hk (h.symm.trans e))]
      · have hb:(g == k)=false:=beq_eq_false_iff_ne.mpr h
        simp only [List.lookup,hb]
        exact ih
theorem Ly (f:Str) (v:V):∀ fs:List (Str × V),f∈(G6 f v fs).map (·.1)∧∀ g,g∈fs.map (·.1)→g∈(G6 f v fs).map (·.1)
  | []=>⟨by simp [G6],fun g h=>by simp at h⟩
  | (k,x) :: r=>by
    obtain ⟨i1,i2⟩:=Ly f v r
    rw [show G6 f v ((k,x) :: r)=(if k=f then (k,v) :: r else (k,x) :: G6 f v r) from rfl]
    by_cases hk:k=f
    · rw [if_pos hk]
      subst hk
      exact ⟨by simp,fun g h=>by simpa using h⟩
    · rw [if_neg hk]
      refine ⟨?_,fun g h=>?_⟩
      · rw [List.map_cons]
        exact List.mem_cons_of_mem _ i1
      · rw [List.map_cons] at h ⊢
        rcases List.mem_cons.mp h with e | e
        · exact List.mem_cons.mpr (.inl e)
        · exact List.mem_cons_of_mem _ (i2 g e)
theorem M7 (f:Str) (v:V):∀ fs:List (Str × V),(G6 f v fs).length≤fs.length+1
  | []=>by simp [G6]
  | (k,x) :: r=>by
    have ih:=M7 f v r
    rw [show G6 f v ((k,x) :: r)=(if k=f then (k,v) :: r else (k,x) :: G6 f v r) from rfl]
    by_cases hk:k=f
    · rw [if_pos hk,List.length_cons,List.length_cons];omega
    · rw [if_neg hk,List.length_cons,List.length_cons];omega
theorem Qf.some_of {v:V} {o:Option Value} (r:Qf (some v) o):∃ u,o=some u∧RelV v u:=by
  cases o with
  | none=>exact (show False from r).elim
  | some u=>exact ⟨u,rfl,r⟩
theorem Qf.none_of {o:Option Value} (r:Qf none o):o=none:=by
  cases o with
  | none=>rfl
  | some u=>exact (show False from r).elim
theorem XS {v:V} {u:Value} (r:RelV v u):PySem.W.handedIn u=true:=by
  cases v with
  | non=>cases (show u=Value.none from r);rfl
  | bl b=>cases (show u=Value.bool b from r);rfl
  | int i=>obtain ⟨t,e⟩:=(show ∃ t,u=Value.int i t from r);cases e;rfl
  | str x=>obtain ⟨t,e⟩:=(show ∃ t,u=Value.str x t from r);cases e;rfl
  | byt b=>obtain ⟨t,e⟩:=(show ∃ t,u=Value.bytes b t from r);cases e;rfl
  | flt b=>obtain ⟨t,e⟩:=(show ∃ t,u=Value.float b t from r);cases e;rfl
  | ref a=>cases (show u=Value.ref a from r);rfl
  | ty n=>cases (show u=Value.type n from r);rfl
section
variable {P:Program} {w:World} {H H':Hp} {h h':Heap} {a C dx:Addr} {fs fs':List (Str × V)}
theorem S9 (hok:HOk P w H h) (e:H a=some (.ins C dx fs)):∃ mA,Wd h a dx C mA∧(∀ f,Qf (fs.lookup f) (mA f))∧PySem.Within mA (fs.map (·.1))∧fs.length≤1000∧H dx=some (.own a):=by
  obtain ⟨d,z,ne,ob,mA,n,r,q⟩:=(show Hh P w H h a (.ins C dx fs) from hok a _ e)
  exact ⟨mA,⟨ob,n,ne⟩,r,q,z,d⟩
end
structure Cls (K:PySem.W.Frag) (C:Addr):Prop where
  pg:PySem.W.plainGet K C Str.empty=true
  hd:PySem.W.hasDictIn K C=true
  po:PySem.W.plainOver K C=true
  sa:PySem.W.findIn K (.ref C) "__setattr__"=some (some (.builtin "object.__setattr__"))
theorem Cls.get {K:PySem.W.Frag} {C:Addr} (c:Cls K C) (f:Str):PySem.W.plainGet K C f=true:=c.pg
noncomputable def HD (K:PySem.W.Frag) (C:Addr) (f:Str):Prop:=PySem.W.findIn K (.ref C) f=some none
theorem HD.taker {K:PySem.W.Frag} {C:Addr} {f:Str} (n:HD K C f):PySem.W.takerIn K C f=some none:=by
  unfold PySem.W.takerIn
  rw [show PySem.W.findIn K (.ref C) f=some none from n]
  rfl
structure Meth (K:PySem.W.Frag) (C:Addr) (m:Str) (f:Addr):Prop where
  at_:PySem.W.findIn K (.ref C) m=some (some (.ref f))
  fn:PySem.W.isFn K (.ref f)=true
  kp:PySem.W.keepIn K (.ref f)=true
section
variable {X:Cx} {pins:List (Addr × Obj)} {σ:St} {H:Hp} {s:Shared} {a C dx:Addr} {fs:List (Str × V)} {f:Str} {v:V} {A:Around} {E:Value→Shared→Prop}
theorem Vy {b:Bool} {Q:Value→Shared→Prop} (I:Inv X pins σ H s) (e:H a=some (.ins C dx fs)) (c:Cls X.K C) (n:HD X.K C f) (l:fs.lookup f=some v)
    (h:∀ u s',Inv X pins σ H s'→RelV v u→Q u s'):wpAny (model X.prog X.w) A (getAttr (.ref a) f b) Q E s:=by
  obtain ⟨mA,O,r,_,_,_⟩:=S9 I.hok e
  obtain ⟨u,hu,ru⟩:=Qf.some_of (v:=v) (o:=mA f) (by rw [←l];exact r f)
  exact get_map I.kIn O (c.get f) c.hd n hu (XS ru) (h u _ (I.tok _) ru)
theorem VF {m:Str} {g:Addr} {pl:Sem Bool} {Q:Value × List Value→Shared→Prop} (I:Inv X pins σ H s) (e:H a=some (.ins C dx fs)) (c:Cls X.K C) (k:Meth X.K C m g) (l:fs.lookup m=none)
    (h:Q (.ref g,[.ref a]) s):wpAny (model X.prog X.w) A (getMethod (.ref a) m pl) Q E s:=by
  obtain ⟨mA,O,r,_,_,_⟩:=S9 I.hok e
  have hn:mA m=none:=Qf.none_of (by rw [←l];exact r m)
  exact Z2 I.kIn O (c.get m) k.at_ k.fn hn h
theorem Wa {y:V} {u:Value} {Q:Unit→Shared→Prop} (I:Inv X pins σ H s) (e:H a=some (.ins C dx fs)) (c:Cls X.K C) (n:HD X.K C f) (hl:fs.length < 1000) (ry:RelV y u)
    (h:∀ s',Inv X pins σ (upd H a (.ins C dx (G6 f y fs))) s'→Q () s'):wpAny (model X.prog X.w) A (setAttr (.ref a) f u) Q E s:=by
  obtain ⟨mA,O,r,wi,_,ho⟩:=S9 I.hok e
  have hz:(fs.map (·.1)).length≤sizeLine:=by rw [List.length_map,sizeLine_eq];omega
  refine AcC I.kIn O c.sa c.po n.taker c.hd wi hz fun h' O' sb=>h _ ?_
  have hd:∃ o,h'.get? dx=some o:=let ⟨o,_,_,e',_⟩:=O'.ns;⟨o,e'⟩
  refine I.write (x:=a) (e:=dx) (by rw [e];exact True.intro) (.inr ho) (fun b q hb z=>(sb.2 b hb).trans z) hd ?_
  refine ⟨by rw [Bg O.ne];exact ho,?_,O.ne,O'.obj,_,O'.ns,fun g=>?_,fun g hg=>?_⟩
  · have:=M7 f y fs;omega
  · show Qf ((G6 f y fs).lookup g) (if g=f then some u else mA g)
    rw [M9]
    by_cases q:g=f
    · rw [if_pos q,if_pos q];exact ry
    · rw [if_neg q,if_neg q];exact r g
  · by_cases q:g=f
    · rw [q];exact (Ly f y fs).1
    · refine (Ly f y fs).2 g (wi g fun z=>hg ?_)
      show (if g=f then some u else mA g)=none
      rw [if_neg q];exact z
theorem Inv.made (I:Inv X pins σ H s):Inv X pins σ (upd (upd H s.heap.objs.size (.own (s.heap.objs.size+1))) (s.heap.objs.size+1) (.ins C s.heap.objs.size []))
    { s with heap:=(s.heap.push PySem.W.emptyDict).push (PySem.W.instObj C s.heap.objs.size) }:=by
  have e1:(s.heap.push PySem.W.emptyDict).get? s.heap.objs.size=some PySem.W.emptyDict:=Heap.get?_push_size s.heap rfl
  have e2:((s.heap.push PySem.W.emptyDict).push (PySem.W.instObj C s.heap.objs.size)).get? (s.heap.objs.size+1)=some (PySem.W.instObj C s.heap.objs.size):=by
    have:=Heap.get?_push_size (s.heap.push PySem.W.emptyDict) (o:=PySem.W.instObj C s.heap.objs.size) rfl
    rwa [Heap.size_push] at this
  have e3:(s.heap.push PySem.W.emptyDict).Ns s.heap.objs.size (fun _=>none):=⟨PySem.W.emptyDict,#[],_,e1,rfl,(fun e he=>absurd he (by simp)),fun _=>rfl⟩
  have I1:=I.laid (a:=s.heap.objs.size) (o:=.own (s.heap.objs.size+1)) (h':=s.heap.push PySem.W.emptyDict) (t':=s.toks) (fun b u q=>Heap.get?_push_of_some _ q) (Nat.le_refl _) ⟨_,e1⟩
  refine I1.laid (a:=s.heap.objs.size+1) (o:=.ins C s.heap.objs.size []) (t':=s.toks) (fun b u q=>Heap.get?_push_of_some _ q) (Nat.le_of_eq (Heap.size_push _ _)) ?_
  have ne:s.heap.objs.size≠s.heap.objs.size+1:=Nat.ne_of_lt (Nat.lt_succ_self _)
  refine ⟨by rw [Bg ne,BP],Nat.zero_le _,ne,e2,fun _=>none,(Heap.Ns1.of_empty e3).at fun o q=>Heap.get?_push_of_some _ q,fun _=>True.intro,fun y hy=>absurd rfl hy⟩
theorem AaY {prog:Program} {w:World} {env:Env} {e:Expr} {f:Str} {pos:Pos} {s:Shared} {Q:Value→Shared→Prop} (hb:attributeBase e f env (eval e env)=eval e env)
    (h:wpAny (model prog w) A (eval e env) (fun o s₁=>wpAny (model prog w) A (getAttr o f true) Q E s₁) E s):wpAny (model prog w) A (eval (.Attribute e f pos) env) Q E s :=
  Attribute_any_ h (by rw [arm_eval_Attribute,hb])
end
noncomputable def AlB (K:PySem.W.Frag) (ta:TE) (f:Str):TE:=fun σ H Q=>ta σ H fun x H1=>∃ a C dx fs v,x=.ref a∧H1 a=some (.ins C dx fs)∧Cls K C∧HD K C f∧fs.lookup f=some v∧Q v H1
noncomputable def Ajp (K:PySem.W.Frag) (ta tv:TE) (f:Str):TS:=fun D σ H=>tv σ H fun y H1=>ta σ H1 fun x H2=>∃ a C dx fs,x=.ref a∧H2 a=some (.ins C dx fs)∧Cls K C∧HD K C f∧fs.length < 1000 ∧
  D.nx σ (upd H2 a (.ins C dx (G6 f y fs)))
section
variable {X:Cx} {o e value:Expr} {f:Str} {pos pos' tpos:Pos} {ta tv:TE}
theorem Ae0 (he:PE X e ta) (hb:attributeBase e f X.env (eval e X.env)=eval e X.env):PE X (.Attribute e f pos) (AlB X.K ta f):=by
  intro pins s σ H Q I h
  refine AaY hb (thn (he pins s σ H _ I h) fun u s1 ⟨x,H1,I1,rx,a,C,dx,fs,v,ex,ea,c,n,l,q⟩=>?_)
  subst ex
  obtain rfl:u=Value.ref a:=rx
  exact Vy I1 ea c n l fun u' s2 I2 ru=>⟨v,H1,I2,ru,q⟩
theorem VJ (ha:PE X o ta) (hv:PE X value tv) (hs:swapsWith value (some (.Attribute o f pos')) pos.line X.env=pure false):PS X (.Assign [.Attribute o f pos'] value pos) (Ajp X.K ta tv f):=by
  intro pins s σ H D I h
  refine plainObj_wpAny_Assign_Attribute (thn (hv pins s σ H _ I h) fun u s1 ⟨y,H1,I1,ry,q⟩=>thn (ha pins s1 σ H1 _ I1 q) fun ov s2 ⟨x,H2,I2,rx,a,C,dx,fs,ex,ea,c,n,l,q2⟩=>?_) hs
  subst ex
  obtain rfl:ov=Value.ref a:=rx
  exact Wa I2 ea c n l ry fun s3 I3=>⟨σ,_,I3,q2⟩
end
section
variable {X:Cx} {pins:List (Addr × Obj)} {σ:St} {H:Hp} {s:Shared} {A:Around} {E:Value→Shared→Prop} {Q:Value→Shared→Prop} {c:Value} {b:Bool}
end
end L2
namespace L2
open PySem PySem.Spec PyProof.Rows
structure Es (k:Nat) (A:Around):Prop where
  hd:A.handled=none
  dp:A.depth+3*k+5 < recursionLimit
  un:A.units+16*k+200 < cLine
theorem Es.mono {j k:Nat} {A:Around} (r:Es k A) (h:j≤k):Es j A:=⟨r.hd,by have:=r.dp;omega,by have:=r.un;omega⟩
theorem Es.deeper {k:Nat} {A:Around} (r:Es (k+1) A) (env:Env):Es k (A.deeper env) :=
  ⟨r.hd,by have:=r.dp;show A.depth+1+3*k+5 < _;omega,by have:=r.un;show A.units+3+16*k+200 < _;omega⟩
theorem V4 {A:Around} {C:Addr} {us:List Value} {kw:List (Str × Value)}:(A.under (.builtin "type.__call__" ⟨.ref C :: us,kw⟩)).depth=A.depth+1:=by
  first | rfl | simp [Around.under,Code.weight,Code.isCreation,Code.isGuard,Code.isCaller,Code.frames,Code.isFrame,guardIds]
theorem VB {A:Around} {C:Addr} {us:List Value} {kw:List (Str × Value)}:(A.under (.builtin "type.__call__" ⟨.ref C :: us,kw⟩)).units=A.units+1:=by
  first | rfl | simp [Around.under,Code.cUnits,Code.frames,Code.isFrame]
theorem Es.make {k:Nat} {A:Around} (r:Es (k+1) A) (C:Addr) (us:List Value) (kw:List (Str × Value)):Es k (A.under (.builtin "type.__call__" ⟨.ref C :: us,kw⟩)) :=
  ⟨r.hd,by have:=r.dp;rw [V4];omega,by have:=r.un;rw [VB];omega⟩
theorem Es.depth {k:Nat} {A:Around} (r:Es k A):A.depth < recursionLimit:=by have:=r.dp;omega
theorem Es.units {k:Nat} {A:Around} (r:Es k A):A.units+64 < cLine:=by have:=r.un;omega
noncomputable def Aiv:TA:=fun _ H Q=>Q [] H
noncomputable def AhU (ta:TE) (tr:TA):TA:=fun σ H Q=>ta σ H fun x H1=>tr σ H1 fun xs H2=>Q (x :: xs) H2
section
variable {X:Cx} {e:Expr} {es:List Expr} {te:TE} {t:TA} {pos:Pos}
theorem V0:PA X [] Aiv:=fun _ _ _ _ H Q I h=>Calls.spliced_nil ⟨[],H,I,.nil,h⟩
theorem Ld (ha:PE X e te) (hr:PA X es t) (hs:starEach (e :: es) X.env=(false,eval e X.env) :: starEach es X.env:=by rfl):PA X (e :: es) (AhU te t):=by
  intro pos pins s σ H Q I h
  rw [hs]
  show wpAny _ _ (spliced ((false,eval e X.env) :: backTo pos (starEach es X.env))) _ _ s
  refine Calls.spliced_cons (thn (ha pins s σ H _ I h) fun u s1 ⟨x,H1,I1,r1,q1⟩=>?_)
  exact thn (hr pos pins s1 σ H1 _ I1 q1) fun us s2 ⟨xs,H2,I2,r2,q2⟩=>⟨x :: xs,H2,I2,.cons r1 r2,q2⟩
noncomputable def AjQ (t:TA):TE:=fun σ H Q=>t σ H fun xs H1=>xs.length≤sizeLine∧∀ p,H1 p=none→Q (.ref p) (upd H1 p (.tup xs))
noncomputable def Akn (t:TA):TE:=fun σ H Q=>t σ H fun xs H1=>xs.length≤sizeLine∧∀ p,H1 p=none→Q (.ref p) (upd H1 p (.lst xs))
theorem Ae8 {x1} (h:PA X es t):PE X (.Tuple es x1 pos) (AjQ t):=by
  intro pins s σ H Q I hq
  refine wpAny_Tuple_spliced (thn (h pos pins s σ H _ I hq) fun us s1 ⟨xs,H1,I1,r,z,q⟩=>⟨by rw [←r.length];exact z,?_⟩)
  have hf:H1 s1.heap.objs.size=none:=I1.hok.fresh (Nat.le_refl _)
  refine ⟨.ref s1.heap.objs.size,upd H1 s1.heap.objs.size (.tup xs),I1.laid (t':=s1.toks) (fun b u e=>Heap.get?_push_of_some _ e) (Nat.le_refl _) ?_,rfl,q _ hf⟩
  exact ⟨z,us,r,⟨_,Heap.get?_push_size _ rfl,rfl,_,rfl⟩⟩
theorem Zt (h:PA X es t):PE X (.List es pos) (Akn t):=by
  intro pins s σ H Q I hq
  refine wpAny_List_spliced (thn (h pos pins s σ H _ I hq) fun us s1 ⟨xs,H1,I1,r,z,q⟩=>⟨by rw [←r.length];exact z,?_⟩)
  have hf:H1 s1.heap.objs.size=none:=I1.hok.fresh (Nat.le_refl _)
  refine ⟨.ref s1.heap.objs.size,upd H1 s1.heap.objs.size (.lst xs),I1.laid (t':=s1.toks) (fun b u e=>Heap.get?_push_of_some _ e) (Nat.le_refl _) ?_,rfl,q _ hf⟩
  exact ⟨z,us,0,r,Heap.get?_push_size _ rfl⟩
end
noncomputable abbrev Sp:=List V→Hp→VK→XK→Prop
noncomputable abbrev CXT:=List Env→Hp→Shared→XK→Value→Shared→Prop
structure Vg (P:Program) (w:World) (K:PySem.W.Frag) (mg:Str→Option Value) (base:Heap) (A:Around) (outer:List Env) (s:Shared) (H:Hp):Prop where
  frames:A.frames=some outer
  mod:Mod K mg base
  bs:∀ b o,base.get? b=some o→s.heap.get? b=some o∧H b=none
  bsz:base.objs.size≤s.heap.objs.size
  funs:s.heap.FunFrames base outer
  frf:∀ b∈frs outer,H b=none
  hok:HOk P w H s.heap
  bare:AllBare s.gens
noncomputable def CE (outer:List Env) (P:Program) (w:World) (H:Hp) (s:Shared) (Q:VK) (u:Value) (s':Shared):Prop :=
  ∃ v H',s'.os=s.os∧AllBare s'.gens∧Un (frs outer) [] H H' s.heap s'.heap∧HOk P w H' s'.heap∧RelV v u∧Q v H'
noncomputable def CR (CX:CXT) (outer:List Env) (P:Program) (w:World) (H:Hp) (s:Shared) (Q:VK) (E:XK) (r:Result) (s':Shared):Prop :=
  match r with
  | .ok (.ret u)=>CE outer P w H s Q u s'
  | .ok _=>False
  | .error e=>CX outer H s E e s'
structure Hl (P:Program) (w:World) (K:PySem.W.Frag) (mg:Str→Option Value) (base:Heap) (CX:CXT) (k:Nat) (f:Addr) (fd:FuncData) (ps:List Str) (sp:Sp):Prop where
  len:∀ vs H Q E,sp vs H Q E→vs.length=ps.length
  run:∀ (A:Around) (outer:List Env) (s:Shared) (H:Hp) (args:Args) (us:List Value) (vs:List V) (Q:VK) (E:XK),Es k A→Vg P w K mg base A outer s H→BindsTo s fd args (ps.zip us)→Vals vs us→sp vs H Q E →
    codeAny (model P w) A (.call (.ref f) args) (CR CX outer P w H s Q E) s
theorem Vg.make {P:Program} {w:World} {K:PySem.W.Frag} {mg:Str→Option Value} {base:Heap} {A:Around} {outer:List Env} {s:Shared} {H:Hp} (e:Vg P w K mg base A outer s H) (C:Addr) (us:List Value) (kw:List (Str × Value)) :
    Vg P w K mg base (A.under (.builtin "type.__call__" ⟨.ref C :: us,kw⟩)) outer s H:=⟨by first | exact e.frames | (simpa [Around.under,Code.envs,Code.isFrame,pushEnvs] using e.frames),e.mod,e.bs,e.bsz,e.funs,e.frf,e.hok,e.bare⟩
section
variable {X:Cx} {pins:List (Addr × Obj)} {σ:St} {H:Hp} {s s':Shared}
theorem Inv.env0 (I:Inv X pins σ H s):Vg X.prog X.w X.K X.mg X.base X.A X.stack s H :=
  ⟨I.ok.frames,I.ok.mod,I.bs,Nat.le_trans I.ok.bsz I.sz,I.stack,I.stkFree,I.hok,I.bare⟩
theorem Inv.after {Q:VK} {u:Value} (I:Inv X pins σ H s) (h:CE X.stack X.prog X.w H s Q u s'):EP X pins σ Q u s':=by
  obtain ⟨v,H',os,bare,un,hok,r,q⟩:=h
  obtain ⟨hh,g,d,t,os'⟩:=s'
  obtain rfl:os'=s.os:=os
  exact ⟨v,H',I.call (h':=hh) (g':=g) (d':=d) (t':=t) (ch:=[]) un hok bare (fun b z=>absurd z (by simp)),r,q⟩
end
noncomputable def Ac8 (sp:Sp) (dvs:List V) (E:XK) (t:TA):TE:=fun σ H Q=>t σ H fun vs H1=>sp (vs ++ dvs) H1 Q E
noncomputable def AhL (C:Addr) (sp:Sp) (dvs:List V) (E:XK) (t:TA):TE:=fun σ H Q=>t σ H fun vs H1=>∀ x dx,H1 x=none→H1 dx=none→dx≠x →
  sp (.ref x :: (vs ++ dvs)) (upd (upd H1 dx (.own x)) x (.ins C dx [])) (fun v H2=>v=.non∧Q (.ref x) H2) E
noncomputable def Binds (K:PySem.W.Frag) (fd:FuncData) (ps:List Str) (ds:List Value):Prop :=
  ∀ (s:Shared) (us:List Value),K.In s.heap→(us ++ ds).length=ps.length→BindsTo s fd ⟨us,[]⟩ (ps.zip (us ++ ds))
theorem Binds.all {K:PySem.W.Frag} {fd:FuncData} {ps:List Str} (h:∀ us:List Value,us.length=ps.length→bindArgs fd ⟨us,[]⟩=pure (ps.zip us)):Binds K fd ps []:=fun s us _ hl=>by
  rw [List.append_nil] at hl ⊢
  exact .of_eq (h us hl)
noncomputable def Passes (CX:CXT) (X:Cx) (E:XK):Prop:=∀ (pins:List (Addr × Obj)) (σ:St) (H:Hp) (s:Shared) (e:Value) (s':Shared),Inv X pins σ H s→CX X.stack H s E e s'→X.xe e s'
section
variable {X:Cx} {CX:CXT} {k:Nat} {f C:Addr} {fd:FuncData} {ps:List Str} {sp:Sp} {dvs:List V} {ds:List Value} {E:XK} {x m:Str} {p pos apos:Pos} {e o:Expr} {es:List Expr} {ta:TE} {t:TA}
theorem VL {pins:List (Addr × Obj)} {σ:St} {H:Hp} {s:Shared} {Q:VK} {us:List Value} {vs:List V} (F:Hl X.prog X.w X.K X.mg X.base CX k f fd ps sp) (hr:Es k X.A) (hb:Binds X.K fd ps ds) (hd:Vals dvs ds) (hx:Passes CX X E)
    (I:Inv X pins σ H s) (r:Vals vs us) (h:sp (vs ++ dvs) H Q E):wpAny (model X.prog X.w) X.A (call (.ref f) us) (EP X pins σ Q) X.xe s:=by
  have r2:Vals (vs ++ dvs) (us ++ ds):=r.append hd
  have hl:(us ++ ds).length=ps.length:=by rw [←r2.length];exact F.len _ _ _ _ h
  refine wpAny_call (codeAny_mono (F.run X.A X.stack s H ⟨us,[]⟩ (us ++ ds) (vs ++ dvs) Q E hr I.env0 (hb s us I.kIn hl) r2 h) fun r s' hq=>?_)
  cases r with
  | error e=>exact hx pins σ H s e s' I hq
  | ok fl =>
    cases fl with
    | ret u=>exact I.after hq
    | next=>exact False.elim hq
    | brk=>exact False.elim hq
    | cont=>exact False.elim hq
theorem Ab0 (F:Hl X.prog X.w X.K X.mg X.base CX k f fd ps sp) (hr:Es k X.A) (hg:Gl X x) (hm:X.mg x=some (.ref f)) (hk:PySem.W.keepIn X.K (.ref f)=true) (hb:Binds X.K fd ps ds) (hd:Vals dvs ds) (hx:Passes CX X E)
    (ha:PA X (e :: es) t) (hdb:(x == ("__debug__":Str))=false:=by decide) (he:starEach (e :: es) X.env=(false,eval e X.env) :: starEach es X.env:=by rfl) (hpl:(backTo pos (starEach es X.env)).any (·.1)=false:=by rfl) :
    PE X (.Call (.Name x p) (e :: es) [] pos) (Ac8 sp dvs E t):=by
  intro pins s σ H Q I h
  refine wpAny_Call_Name_kw (Sh I hg hm ?_ hdb)
  refine PySem.W.callWith_K (h₀:=X.base) I.ok.mod.kin hk (thn (ha pos pins s σ H _ I h) fun us s1 ⟨vs,H1,I1,r,q⟩=>⟨I1.kIn,?_⟩) he hpl
  exact VL F hr hb hd hx I1 r q
structure Mk (K:PySem.W.Frag) (C f:Addr):Prop where
  makes:PySem.W.makesIn K C=true
  init:PySem.W.findIn K (.ref C) "__init__"=some (some (.ref f))
  fn:PySem.W.isFn K (.ref f)=true
  kp:PySem.W.keepIn K (.ref C)=true
theorem Aax {pins:List (Addr × Obj)} {σ:St} {H:Hp} {s:Shared} {Q:VK} {us:List Value} {vs:List V} (M:Mk X.K C f) (F:Hl X.prog X.w X.K X.mg X.base CX k f fd ps sp) (hr:Es (k+1) X.A) (hb:Binds X.K fd ps ds) (hd:Vals dvs ds)
    (hx:Passes CX X E) (I:Inv X pins σ H s) (r:Vals vs us)
    (h:∀ x dx,H x=none→H dx=none→dx≠x→sp (.ref x :: (vs ++ dvs)) (upd (upd H dx (.own x)) x (.ins C dx [])) (fun v H2=>v=.non∧Q (.ref x) H2) E) :
    wpAny (model X.prog X.w) X.A (call (.ref C) us) (EP X pins σ Q) X.xe s:=by
  have hq:=h (s.heap.objs.size+1) s.heap.objs.size (I.hok.fresh (Nat.le_succ _)) (I.hok.fresh (Nat.le_refl _)) (Nat.ne_of_lt (Nat.lt_succ_self _))
  have I2:=Inv.made (C:=C) I
  have r2:Vals (V.ref (s.heap.objs.size+1) :: (vs ++ dvs)) (Value.ref (s.heap.objs.size+1) :: (us ++ ds)):=.cons rfl (r.append hd)
  have hl:(Value.ref (s.heap.objs.size+1) :: us ++ ds).length=ps.length:=by
    have e:=r2.length
    rw [F.len _ _ _ _ hq] at e
    exact e.symm
  refine wpAny_call (Aau (f:=f) I.kIn M.makes M.init (beq_iff_eq.mp M.fn) (codeAny_mono (F.run _ X.stack _ _ ⟨Value.ref (s.heap.objs.size+1) :: us,[]⟩ (Value.ref (s.heap.objs.size+1) :: (us ++ ds)) _ _ E (hr.make C us [])
    (I2.env0.make C us []) (hb _ (Value.ref (s.heap.objs.size+1) :: us) I2.kIn hl) r2 hq) fun r s' hq'=>?_))
  cases r with
  | error e=>exact hx pins σ _ _ e s' I2 hq'
  | ok fl =>
    cases fl with
    | ret u =>
      obtain ⟨v,H',I3,rv,ev,q3⟩:=I2.after hq'
      subst ev
      exact ⟨rv,⟨V.ref (s.heap.objs.size+1),H',I3,rfl,q3⟩⟩
    | next=>exact False.elim hq'
    | brk=>exact False.elim hq'
    | cont=>exact False.elim hq'
theorem AbL (M:Mk X.K C f) (F:Hl X.prog X.w X.K X.mg X.base CX k f fd ps sp) (hr:Es (k+1) X.A) (hg:Gl X x) (hm:X.mg x=some (.ref C)) (hb:Binds X.K fd ps ds) (hd:Vals dvs ds) (hx:Passes CX X E)
    (ha:PA X (e :: es) t) (hdb:(x == ("__debug__":Str))=false:=by decide) (he:starEach (e :: es) X.env=(false,eval e X.env) :: starEach es X.env:=by rfl) (hpl:(backTo pos (starEach es X.env)).any (·.1)=false:=by rfl) :
    PE X (.Call (.Name x p) (e :: es) [] pos) (AhL C sp dvs E t):=by
  intro pins s σ H Q I h
  refine wpAny_Call_Name_kw (Sh I hg hm ?_ hdb)
  refine PySem.W.callWith_K (h₀:=X.base) I.ok.mod.kin M.kp (thn (ha pos pins s σ H _ I h) fun us s1 ⟨vs,H1,I1,r,q⟩=>⟨I1.kIn,?_⟩) he hpl
  exact Aax M F hr hb hd hx I1 r q
end
section
variable {X:Cx} {CX:CXT} {k:Nat} {f C:Addr} {fd:FuncData} {ps ks:List Str} {sp:Sp} {E:XK} {x m:Str} {p pos apos kpos:Pos} {e o:Expr} {es:List Expr} {kws:List Keyword} {te ta:TE} {t tk:TA} {nm:Option Str}
variable {g:List Value→List Value→List Value} {gV:List V→List V→List V}
end
structure Ao (N P:List Str) (sc:Scope):Prop where
  kind:sc.kind=.function
  co:sc.isCoroutine=false
  gen:sc.isGenerator=false
  nd:N.Nodup
  pre:N.take P.length=P
  par:∀ x∈P,sc.names.lookup x=some .local∨sc.names.lookup x=some .cell
  nofree:∀ y∈sc.names,y.2≠.free
theorem Q0 {kindOf:Str→Option NameKind} {x:Str}:∀ {binds:List (Str × Value)} {m:Str→Option Value},(∀ v,(x,v)∉binds)→bindL kindOf binds m x=m x
  | [],_,_=>rfl
  | (n,v) :: r,m,h=>by
    unfold bindL
    rw [Q0 fun w hw=>h w (List.mem_cons_of_mem _ hw)]
    split
    · have:x≠n:=by rintro rfl;exact h v List.mem_cons_self
      simp [this]
    · rfl
theorem QW {kindOf:Str→Option NameKind} {x:Str}:∀ {binds:List (Str × Value)} {m:Str→Option Value},(∀ v,(x,v)∉binds)→bindC kindOf binds m x=m x
  | [],_,_=>rfl
  | (n,v) :: r,m,h=>by
    unfold bindC
    rw [QW fun w hw=>h w (List.mem_cons_of_mem _ hw)]
    split
    · rfl
    · have:x≠n:=by rintro rfl;exact h v List.mem_cons_self
      simp [this]
theorem QX {kindOf:Str→Option NameKind} {x:Str} {v:Value}:∀ {P:List Str} {vs:List Value} {i:Nat} {m:Str→Option Value},P.Nodup→P[i]? = some x→vs[i]? = some v→kindOf x=some .local →
    bindL kindOf (P.zip vs) m x=some v
  | [],_,_,_,_,h,_,_=>by simp at h
  | _ :: _,[],_,_,_,_,h,_=>by simp at h
  | p :: P,w :: vs,0,m,nd,h1,h2,hk=>by
    simp at h1 h2;subst h1;subst h2
    show bindL kindOf ((p,w) :: P.zip vs) m p=_
    unfold bindL
    rw [Q0 fun v hv=>(List.nodup_cons.mp nd).1 (List.of_mem_zip hv).1,if_pos hk]
    simp
  | p :: P,w :: vs,i+1,m,nd,h1,h2,hk=>by
    show bindL kindOf ((p,w) :: P.zip vs) m x=_
    unfold bindL
    exact QX (i:=i) (List.nodup_cons.mp nd).2 (by simpa using h1) (by simpa using h2) hk
theorem QV {kindOf:Str→Option NameKind} {x:Str} {v:Value}:∀ {P:List Str} {vs:List Value} {i:Nat} {m:Str→Option Value},P.Nodup→P[i]? = some x→vs[i]? = some v→kindOf x≠some .local →
    bindC kindOf (P.zip vs) m x=some v
  | [],_,_,_,_,h,_,_=>by simp at h
  | _ :: _,[],_,_,_,_,h,_=>by simp at h
  | p :: P,w :: vs,0,m,nd,h1,h2,hk=>by
    simp at h1 h2;subst h1;subst h2
    show bindC kindOf ((p,w) :: P.zip vs) m p=_
    unfold bindC
    rw [QW fun v hv=>(List.nodup_cons.mp nd).1 (List.of_mem_zip hv).1,if_neg hk]
    simp
  | p :: P,w :: vs,i+1,m,nd,h1,h2,hk=>by
    show bindC kindOf ((p,w) :: P.zip vs) m x=_
    unfold bindC
    exact QV (i:=i) (List.nodup_cons.mp nd).2 (by simpa using h1) (by simpa using h2) hk
noncomputable def start (N:List Str) (vs:List V):St:=vs.map some ++ List.replicate (N.length - vs.length) none
noncomputable def V6 (CX:CXT) (P:Program) (w:World) (K:PySem.W.Frag) (mg:Str→Option Value) (base:Heap) (N:List Str) (qual:Str) (scope:Scope) (f:Addr) (cd:Value) (A:Around) (outer:List Env) (s:Shared) (H:Hp) (E:XK):Cx where
  prog:=P
  w:=w
  K:=K
  mg:=mg
  base:=base
  A:=A.deeper (envOfC qual scope s.heap.objs.size f cd)
  N:=N
  s₀:=s
  H₀:=H
  env:=envOfC qual scope s.heap.objs.size f cd
  outer:=outer
  stack:=envOfC qual scope s.heap.objs.size f cd :: outer
  ex:=[]
  calm:=true
  fn:=fun _=>true
  pn:=[]
  xe:=fun e s'=>wpAny (model P w) (A.deeper (envOfC qual scope s.heap.objs.size f cd)) (leaving (envOfC qual scope s.heap.objs.size f cd) e) (fun _ s''=>CX outer H s E e s'') (fun e' s''=>CX outer H s E e' s'') s'
theorem Tw {sc:Scope} {n:Nat} {x:Str} (h:sc.names.lookup x=some .cell):∃ c,(cellsFrom n sc.names []).lookup x=some c:=by
  have q:=PySem.W.cellsFrom_some sc.names n [] (.inl h)
  exact Option.isSome_iff_exists.mp q
theorem Yj {CX:CXT} {P:Program} {w:World} {K:PySem.W.Frag} {mg:Str→Option Value} {base:Heap} {N ps:List Str} {qual:Str} {scope:Scope} {f:Addr} {cd:Value} {A:Around} {outer:List Env} {s s1:Shared} {H:Hp} {E:XK} {us:List Value} {vs:List V}
    (S:Ao N ps scope) (hd:A.handled=none) (e0:Vg P w K mg base A outer s H) (hl:vs.length=ps.length) (r:Vals vs us)
    (x:InCallC s s.heap.objs.size (bindL (envOfC qual scope s.heap.objs.size f cd).kindOf (ps.zip us) fun _=>none) (cellsFrom (s.heap.objs.size+1) scope.names []) (bindC (envOfC qual scope s.heap.objs.size f cd).kindOf (ps.zip us) fun _=>none) s1) :
    Inv (V6 CX P w K mg base N qual scope f cd A outer s H E) [] (start N vs) H s1:=by
  have hpl:ps.length≤N.length:=by have:=congrArg List.length S.pre;rw [List.length_take] at this;omega
  obtain ⟨h1,tk,rfl,hk⟩:=x.done
  have noA:∀ b:Addr,b∉(V6 CX P w K mg base N qual scope f cd A outer s H E).ex:=fun b z=>absurd (show b∈([]:List Addr) from z) (by simp)
  refine ⟨⟨e0.mod,S.kind,rfl,rfl,Nat.le_refl _,fun y z c h1 h2=>?_,fun y hy=>?_,fun y c _ h=>?_,fun _=>hd,Around.frames_deeper e0.frames,.inr ⟨rfl,rfl⟩,fun b z=>absurd z (noA b),e0.bs,e0.bsz,fun b _ _=>noA b,fun b z=>absurd z (noA b),e0.funs,e0.frf⟩,
    rfl,e0.bare,Un.kept hk,⟨_,x.toInCall.ns,fun i y v h1 h2 h3=>?_⟩,fun y c h=>⟨_,x.cell y c h⟩,e0.hok.fresh (Nat.le_refl _),fun y c h=>?_,fun p hp=>absurd (show p∈([]:List (Addr × Obj)) from hp) (by simp),e0.hok.kept hk,?_⟩
  · exact name_of_addr x.apart (PySem.mem_of_lookup h1) (PySem.mem_of_lookup h2)
  · have hy:scope.names.lookup y=some .cell∨scope.names.lookup y=some .free:=hy
    rcases hy with hy | hy
    · exact Tw hy
    · exact absurd rfl (S.nofree _ (PySem.mem_of_lookup hy))
  · exact Nat.le_of_lt (x.above y c (PySem.mem_of_lookup h))
  · have hi:i < vs.length:=by
      unfold start at h2
      by_cases hi:i < vs.length
      · exact hi
      · rw [List.getElem?_append_right (by simpa using hi)] at h2
        rw [List.getElem?_replicate] at h2
        split at h2 <;> cases h2
    have ha:vs[i]? = some v:=by
      unfold start at h2
      rw [List.getElem?_append_left (by simpa using hi),List.getElem?_map] at h2
      cases e:vs[i]? with
      | none=>rw [e] at h2;cases h2
      | some a=>rw [e] at h2;cases h2;rfl
    obtain ⟨u,hu,rv⟩:=r.get ha
    have hp:ps[i]? = some y:=by
      rw [←S.pre,List.getElem?_take_of_lt (by omega)];exact h1
    have ndP:ps.Nodup:=by rw [←S.pre];exact S.nd.sublist (List.take_sublist _ _)
    refine ⟨u,rv,?_⟩
    rcases S.par y (List.mem_of_getElem? hp) with k | k
    · exact .inl ⟨k,QX ndP hp hu k⟩
    · obtain ⟨c,e⟩:=Tw (n:=s.heap.objs.size+1) k
      refine .inr ⟨.inl k,c,e,?_⟩
      have q:=x.cell y c e
      rw [QV ndP hp hu (by show scope.names.lookup y≠_;rw [k];decide)] at q
      exact q
  · exact e0.hok.fresh (Nat.le_of_lt (x.above y c (PySem.mem_of_lookup h)))
  · unfold start
    show _=N.length
    rw [List.length_append,List.length_map,List.length_replicate]
    omega
theorem Ah3 {CX:CXT} {P:Program} {w:World} {K:PySem.W.Frag} {mg:Str→Option Value} {base:Heap} {k:Nat} {f:Addr} {name qual:Str} {params:Arguments} {body:List Stmt} {scope:Scope} {dV kV doc pm cdv ct oc:Value} {an od:Option Addr}
    {osl:Array (Option Value)} {N ps:List Str} {sp:Sp} (lk:K.lookup f=some ⟨oc,od,.func (PySem.W.fnOf name qual params body scope dV kV doc pm an cdv ct),osl⟩) (hcd:PySem.W.codeIn K cdv qual=true) (S:Ao N ps scope)
    (len:∀ vs H Q E,sp vs H Q E→vs.length=ps.length)
    (hbody:∀ (A:Around) (outer:List Env) (s:Shared) (H:Hp) (vs:List V) (Q:VK) (E:XK),Es k (A.deeper (envOfC qual scope s.heap.objs.size f cdv))→sp vs H Q E →
      ∃ t,PSs (V6 CX P w K mg base N qual scope f cdv A outer s H E) body t∧t { nx:=fun _ H'=>Q .non H',rt:=Q } (start N vs) H) :
    Hl P w K mg base CX (k+1) f (PySem.W.fnOf name qual params body scope dV kV doc pm an cdv ct) ps sp:=by
  refine ⟨len,fun A outer s H args us vs Q E hr e0 hb r hsp=>?_⟩
  have hl:=len _ _ _ _ hsp
  have KX:K.In s.heap:=e0.mod.kin.keeps fun b o e=>(e0.bs b o e).1
  have lim:s.heap.NoLimit:=e0.mod.nolimit.keeps fun b o e=>(e0.bs b o e).1
  have hkind:∀ y∈ps.zip us,scope.names.lookup y.1=some .local∨(scope.names.lookup y.1=some .cell∧((cellsFrom (s.heap.objs.size+1) scope.names []).lookup y.1).isSome=true):=fun ⟨n,v⟩ hy=>by
    rcases S.par n (List.of_mem_zip hy).1 with q | q
    · exact .inl q
    · exact .inr ⟨q,PySem.W.cellsFrom_some _ _ _ (.inl q)⟩
  refine codeAny_call_function hr.depth (KX _ _ lk) rfl S.co S.gen rfl (PySem.W.codeRec_of KX hcd) (hb _ _ _ _ ?_)
  refine wpAny_newFunctionEnv_cells S.kind hkind fun env he s1 x=>?_
  subst he
  refine ⟨lim.keeps x.toInCall.keep,codeAny_func ?_⟩
  obtain ⟨t,ht,hq⟩:=hbody A outer s H vs Q E (hr.deeper _) hsp
  have I:Inv (V6 CX P w K mg base N qual scope f cdv A outer s H E) [] (start N vs) H s1:=Yj S hr.hd e0 hl r x
  refine wpAny_mono (ht [] s1 (start N vs) H _ I hq) (fun fl s' hs=>?_) fun e s' hs=>hs
  have fin:∀ {σ':St} {H':Hp} {v:V} {u:Value},Inv (V6 CX P w K mg base N qual scope f cdv A outer s H E) [] σ' H' s'→RelV v u→Q v H'→CE outer P w H s Q u s' :=
    fun {σ' H' v u} J rv q=>⟨v,H',J.os,J.bare,J.base,J.hok,rv,q⟩
  cases fl with
  | ret u =>
    obtain ⟨v,σ',H',J,rv,q⟩:=hs
    exact fin J rv q
  | next =>
    obtain ⟨σ',H',J,q⟩:=hs
    exact fin (v:=V.non) (u:=Value.none) J rfl q
  | brk =>
    obtain ⟨_,_,_,q⟩:=hs
    exact False.elim q
  | cont =>
    obtain ⟨_,_,_,q⟩:=hs
    exact False.elim q
end L2
namespace L2
open PySem PySem.Spec PyProof.Rows
section
variable {X:Cx} {x:Str} {p pos:Pos} {e:Expr} {es:List Expr} {t:TA} {id T:String} {r:List V→Hp→VK→Prop}
noncomputable def tCB (r:List V→Hp→VK→Prop) (t:TA):TE:=fun σ H Q=>t σ H fun vs H1=>r vs H1 Q
theorem Us (hc:Ju X (.builtin id) r) (hg:Gl X x) (hm:X.mg x=none) (hv:bootBuiltins x=some (.builtin id)) (ha:PA X (e :: es) t) (hn:x≠"__name__":=by decide) (hdb:(x == ("__debug__":Str))=false:=by decide)
    (he:starEach (e :: es) X.env=(false,eval e X.env) :: starEach es X.env:=by rfl) (hpl:(backTo pos (starEach es X.env)).any (·.1)=false:=by rfl):PE X (.Call (.Name x p) (e :: es) [] pos) (tCB r t):=by
  intro pins s σ H Q I h
  refine wpAny_Call_Name_kw (Mv I hg hm hv ?_ hn hdb)
  exact PyProof.Rows.callWith_builtin1 (thn (ha pos pins s σ H _ I h) fun us s1 ⟨vs,H1,I1,r1,q1⟩=>hc pins s1 σ H1 vs us Q I1 r1 q1) he hpl
theorem Xn (hc:Ju X (.type T) r) (hg:Gl X x) (hm:X.mg x=none) (hv:bootBuiltins x=some (.type T)) (ha:PA X (e :: es) t) (hn:x≠"__name__":=by decide) (hdb:(x == ("__debug__":Str))=false:=by decide)
    (he:starEach (e :: es) X.env=(false,eval e X.env) :: starEach es X.env:=by rfl) (hpl:(backTo pos (starEach es X.env)).any (·.1)=false:=by rfl):PE X (.Call (.Name x p) (e :: es) [] pos) (tCB r t):=by
  intro pins s σ H Q I h
  refine wpAny_Call_Name_kw (Mv I hg hm hv ?_ hn hdb)
  exact PyProof.Rows.callWith_type1 (thn (ha pos pins s σ H _ I h) fun us s1 ⟨vs,H1,I1,r1,q1⟩=>hc pins s1 σ H1 vs us Q I1 r1 q1) he hpl
end
end L2
namespace HT
open PySem PyProof.Rows
noncomputable def lexLt:List Int→List Int→Bool
  | [],[]=>false
  | [],_ :: _=>true
  | _ :: _,[]=>false
  | x :: xs,y :: ys=>if x=y then lexLt xs ys else decide (x < y)
theorem Fd (x y:Int) (xs ys:List Int):lexLt (x :: xs) (y :: ys)=if x=y then lexLt xs ys else decide (x < y):=rfl
theorem Gk:lexLt [] []=false:=rfl
theorem Oa (y:Int) (ys:List Int):lexLt [] (y :: ys)=true:=rfl
theorem Oz (x:Int) (xs:List Int):lexLt (x :: xs) []=false:=rfl
theorem AaA (A:Around) (s:Shared) (a:Int) (t:Tok) (c:Int) (u:Tok):∃ e,SeqAt.EqAt A s (.int a t) (.int c u) e∧(e=true↔a=c) :=
  ⟨(a == c),SeqAt.EqAt.int_int a t c u,by simp⟩
theorem Zc (A:Around) (s:Shared) (a:Int) (t:Tok) (c:Int) (u:Tok) (prog:Program) (w:World) (E:Value→Shared→Prop) (Q:Value→Shared→Prop) (h:Q (.bool (decide (a < c))) s) :
    wpAny (model prog w) A (richCompare .Lt (.int a t) (.int c u)) Q E s :=
  (PyProof.Rows.lt_int h:wpAny (model prog w) A (compareOp .Lt (.int a t) (.int c u)) Q E s)
section
open PySem.SeqAt
open PySem.AutoSeq1 (wpAny_loadPart')
open PySem.MeetsSeq PySem.MeetsSeq2 PySem.MeetsSeq3
theorem Qp (l b:Addr) (items items2:Array Value) (n n2:Nat) (dd dd2:Option Addr) (sl sl2:Array (Option Value)) (ns ms:List Int) (hi:IntsAre items.toList ns) (hj:IntsAre items2.toList ms) :
    Meets (Builtin.«tuple.__lt__» ⟨[.ref l,.ref b],[]⟩)
      (fun _ R s=>s.heap.get? l=some { cls:=.type "tuple",dict:=dd,data:=.seq items n,slots:=sl }∧s.heap.get? b=some { cls:=.type "tuple",dict:=dd2,data:=.seq items2 n2,slots:=sl2 } ∧
        R (.ok (.ret (.bool (lexLt ns ms)))) s) :=
  .of_wp fun prog w A R s h=>by
    obtain ⟨hp,g,d,tk,os⟩:=s;obtain ⟨hl,hb,h⟩:=h
    have f2:=AutoSeq1.sub_tuple_tuple
    have z1:items.size=ns.length:=by rw [←hi.length];simp
    have z2:items2.size=ms.length:=by rw [←hj.length];simp
    wp_walk using wpAny_loadPart' hl,wpAny_loadPart' hb,wpAny_forIn_list _ (fun rest b s'=>b.1=none∧s'=⟨hp,g,d,tk,os⟩∧∃ (vs ws:List Value) (ns' ms':List Int),rest=vs.zip ws ∧
      IntsAre vs ns'∧IntsAre ws ms'∧ns'.length+items2.size=ms'.length+items.size∧R (.ok (.ret (.bool (lexLt ns' ms')))) ⟨hp,g,d,tk,os⟩) _
    case turn =>
      rintro ⟨y,x⟩ rest b s' ⟨hb',rfl,vs,ws,ns',ms',hz,hvi,hwi,hlen,hR⟩
      cases hvi with
      | nil=>rw [List.zip_nil_left] at hz;cases hz
      | cons a t hvi' =>
        cases hwi with
        | nil=>rw [List.zip_nil_right] at hz;cases hz
        | cons c u hwi' =>
          rw [List.zip_cons_cons] at hz
          injection hz with hyx hrest
          injection hyx with hy hx
          subst hy hx
          rw [Fd] at hR
          simp only [List.length_cons] at hlen
          obtain ⟨e,he,hiff⟩:=AaA A.in1 ⟨hp,g,d,tk,os⟩ a t c u
          refine wpAny_bind (he prog w _ _ ?_)
          cases e with
          | true =>
            rw [if_pos (hiff.mp rfl)] at hR
            wp_walk
            exact ⟨rfl,rfl,_,_,_,_,hrest,hvi',hwi',by omega,hR⟩
          | false =>
            rw [if_neg (fun q=>absurd (hiff.mpr q) Bool.false_ne_true)] at hR
            have hri:=Zc A.in1 ⟨hp,g,d,tk,os⟩ a t c u prog w
            wp_walk using hri
            exact ⟨_,rfl,by simpa using hR⟩
    case fin =>
      rintro ⟨b1,b2⟩ s' ⟨hb',rfl,vs,ws,ns',ms',hz,hvi,hwi,hlen,hR⟩
      simp only at hb'
      subst hb'
      have hv:lexLt ns' ms'=decide (items.size < items2.size):=by
        cases hvi with
        | nil =>
          cases hwi with
          | nil =>
            simp only [List.length_nil] at hlen
            rw [Gk]
            exact (decide_eq_false (by omega)).symm
          | cons c u hw =>
            simp only [List.length_nil,List.length_cons] at hlen
            rw [Oa]
            exact (decide_eq_true (by omega)).symm
        | cons a t hv =>
          cases hwi with
          | nil =>
            simp only [List.length_nil,List.length_cons] at hlen
            rw [Oz]
            exact (decide_eq_false (by omega)).symm
          | cons c u hw =>
            rw [List.zip_cons_cons] at hz
            cases hz
      rw [hv] at hR
      wp_walk
      exact ⟨_,rfl,by simpa [Builtin.Tuple.tupleCompareSizes] using hR⟩
    case h =>
      exact ⟨rfl,rfl,items.toList,items2.toList,ns,ms,rfl,hi,hj,by omega,h⟩
end
section
variable {prog:Program} {w:World} {A:Around} {E:Value→Shared→Prop} {s:Shared}
theorem Kw {l b:Addr} {items items2:Array Value} {ns ms:List Int} {Q:Value→Shared→Prop} (hl:IsTup s.heap l items) (hb:IsTup s.heap b items2) (hi:IntsAre items.toList ns) (hj:IntsAre items2.toList ms)
    (hu:A.units < cLine) (h:Q (.bool (lexLt ns ms)) s):wpAny (model prog w) A (compareOp .Lt (.ref l) (.ref b)) Q E s:=by
  obtain ⟨⟨cls,dd,data,sl⟩,ho,hc,n,hd⟩:=id hl
  obtain ⟨⟨cls2,dd2,data2,sl2⟩,ho2,hc2,n2,hd2⟩:=id hb
  simp only at hc hd hc2 hd2
  subst hc hd hc2 hd2
  exact richCompare_meets_room (op:=.Lt) ⟨_,ho,rfl⟩ ⟨_,ho2,rfl⟩ PySem.F.slot_tuple_lt PySem.F.entry_tuple_lt (PySem.F.args_tuple_lt_2 _ _) (Qp l b items items2 n n2 dd dd2 sl sl2 ns ms hi hj)
    ⟨ho,ho2,show Value.bool (lexLt ns ms)≠Value.notImplemented∧Q (.bool (lexLt ns ms)) s from ⟨(fun x=>nomatch x),h⟩⟩ hu
noncomputable def sIx (n d:Nat):Option Int→Nat
  | none=>d
  | some v=>if v < 0 then (v+(n:Int)).toNat else min v.toNat n
theorem TV (n d:Nat):sIx n d none=d:=rfl
theorem W2 (n d k:Nat):sIx n d (some (k:Int))=min k n:=by
  show (if (k:Int) < 0 then ((k:Int)+(n:Int)).toNat else min (k:Int).toNat n)=min k n
  rw [if_neg (by omega),Int.toNat_natCast]
end
end HT
namespace L2
open PySem PySem.Spec PyProof.Rows
noncomputable abbrev TO:=St→Hp→(Option Int→Hp→Prop)→Prop
noncomputable def PO (X:Cx) (e:Option Expr) (t:TO):Prop :=
  ∀ (pins:List (Addr × Obj)) (s:Shared) (σ:St) (H:Hp) (Q:Option Int→Hp→Prop),Inv X pins σ H s→t σ H Q →
    wpAny (model X.prog X.w) X.A (evalPart e X.env) (fun u s'=>∃ o H',Inv X pins σ H' s'∧IsPart u o∧Q o H') X.xe s
noncomputable def AaM:TO:=fun _ H Q=>Q none H
noncomputable def AhA (t:TE):TO:=fun σ H Q=>t σ H fun x H1=>∃ i,x=.int i∧Q (some i) H1
theorem intsAre_of {ns:List Int}:∀ {us:List Value},Vals (ns.map V.int) us→IntsAre us ns:=by
  induction ns with
  | nil=>intro us r;rw [List.map_nil] at r;cases r;exact .nil
  | cons n ns ih =>
    intro us r
    rw [List.map_cons] at r
    cases r with
    | cons r1 r2 =>
      obtain ⟨t,e⟩:=r1
      subst e
      exact .cons n t (ih r2)
section
variable {X:Cx} {e:Expr} {te:TE} {lo hi:Option Expr} {tl th:TO} {pos p2:Pos}
theorem Acs:PO X none AaM:=by
  intro pins s σ H Q I h
  rw [evalPart_none]
  exact wpAny_pure ⟨none,H,I,.none,h⟩
theorem Abl (h:PE X e te):PO X (some e) (AhA te):=by
  intro pins s σ H Q I hw
  rw [evalPart_some]
  refine thn (h pins s σ H _ I hw) fun u s1 ⟨x,H1,I1,r1,q1⟩=>?_
  obtain ⟨i,rfl,q⟩:=q1
  obtain ⟨t,rfl⟩:=r1
  exact ⟨some i,H1,I1,.int i t,q⟩
noncomputable def SlR (X:Cx) (r:V→Option Int→Option Int→Hp→VK→Prop):Prop :=
  ∀ (pins:List (Addr × Obj)) (s:Shared) (σ:St) (H:Hp) (x:V) (v vl vu:Value) (lo hi:Option Int) (sl:Addr) (Q:VK),Inv X pins σ H s→RelV x v→s.heap.IsSliceOf sl vl vu .none→IsPart vl lo→IsPart vu hi→r x lo hi H Q →
    ∃ T id,typeLookup (.type T) "__getitem__"=pure (some (.builtin id))∧s.TypeIs v T∧wpAny (model X.prog X.w) X.A (getItem v (.ref sl)) (EP X pins σ Q) X.xe s
noncomputable def tSl (r:V→Option Int→Option Int→Hp→VK→Prop) (te:TE) (tl th:TO):TE:=fun σ H Q=>te σ H fun x H1=>tl σ H1 fun l H2=>th σ H2 fun u H3=>r x l u H3 Q
theorem YD {r:V→Option Int→Option Int→Hp→VK→Prop} (hr:SlR X r) (he:PE X e te) (hl:PO X lo tl) (hu:PO X hi th):PE X (.Subscript e (.Slice lo hi none p2) pos) (tSl r te tl th):=by
  intro pins s σ H Q I h
  refine Subscript_ (thn (he pins s σ H _ I h) fun v s1 ⟨x,H1,I1,r1,q1⟩=>?_)
  refine wpAny_Slice (thn (hl pins s1 σ H1 _ I1 q1) fun vl s2 ⟨l,H2,I2,pl,q2⟩=>thn (hu pins s2 σ H2 _ I2 q2) fun vu s3 ⟨u,H3,I3,pu,q3⟩=>?_)
  rw [evalPart_none]
  refine wpAny_pure ?_
  have I4:Inv X pins σ H3 { s3 with heap:=s3.heap.push { cls:=.type "slice",data:=.fields #[vl,vu,.none] } }:=I3.kept (t':=s3.toks) fun b ob q=>Heap.get?_push_of_some _ q
  obtain ⟨T,id,hT,ht,hg⟩:=hr pins { s3 with heap:=s3.heap.push { cls:=.type "slice",data:=.fields #[vl,vu,.none] } } σ H3 x v vl vu l u s3.heap.objs.size Q I4 r1 (Heap.IsSliceOf.new ..) pl pu q3
  show wpAny (model X.prog X.w) X.A (subscriptTail e (.Slice lo hi none p2) v (.ref s3.heap.objs.size)) (EP X pins σ Q) X.xe { s3 with heap:=s3.heap.push { cls:=.type "slice",data:=.fields #[vl,vu,.none] } }
  exact tail_any (ops:=[.ref s3.heap.objs.size,v]) ht hT hg (by with_unfolding_all rfl)
noncomputable def Yh (xs:List V) (lo hi:Option Int):List V:=(xs.drop (HT.sIx xs.length 0 lo)).take (HT.sIx xs.length xs.length hi - HT.sIx xs.length 0 lo)
theorem UJ (xs:List V) (lo hi:Option Int):(Yh xs lo hi).length≤xs.length:=by
  unfold Yh
  rw [List.length_take,List.length_drop]
  omega
end
end L2
namespace L2
open PySem PySem.Spec PyProof.Rows
noncomputable def ixN (n:Nat) (i:Int):Option Nat:=if 0≤i then (if i < n then some i.toNat else none) else if -(n:Int)≤i then some (i+n).toNat else none
noncomputable def atI {α:Type} (xs:List α) (i:Int):Option α:=(ixN xs.length i).bind fun j=>xs[j]?
theorem AbU {n:Nat} {i:Int} {j:Nat} (h:ixN n i=some j):seqIndex? i n=some j∧j < n∧-(n:Int)≤i∧i < n:=by
  unfold ixN at h
  by_cases h0:0≤i
  · rw [if_pos h0] at h
    by_cases h1:i < n
    · rw [if_pos h1] at h
      have e:i.toNat=j:=Option.some.inj h
      exact ⟨by rw [seqIndex_of h0 h1,e],by omega,by omega,h1⟩
    · rw [if_neg h1] at h;cases h
  · rw [if_neg h0] at h
    by_cases h1:-(n:Int)≤i
    · rw [if_pos h1] at h
      have e:(i+n).toNat=j:=Option.some.inj h
      exact ⟨by rw [seqIndex_neg (by omega) h1,e],by omega,h1,by omega⟩
    · rw [if_neg h1] at h;cases h
theorem Tg {α:Type} {xs:List α} {i:Int} {v:α} (h:atI xs i=some v):∃ j,seqIndex? i xs.length=some j∧xs[j]? = some v∧j < xs.length∧-(xs.length:Int)≤i∧i < xs.length:=by
  unfold atI at h
  cases e:ixN xs.length i with
  | none=>rw [e] at h;cases h
  | some j =>
    rw [e] at h
    obtain ⟨h1,h2,h3,h4⟩:=AbU e
    exact ⟨j,h1,h,h2,h3,h4⟩
theorem Ack {α:Type} {xs:List α} {j:Nat} {v:α} (h:xs[j]? = some v):atI xs (j:Int)=some v:=by
  have hj:j < xs.length:=(List.getElem?_eq_some_iff.mp h).1
  have e:ixN xs.length (j:Int)=some j:=by
    unfold ixN
    rw [if_pos (by omega),if_pos (by omega)];simp
  unfold atI;rw [e];exact h
noncomputable def Tj (b:Expr):Prop:=∀ o i,subscripted b false o i=operate [o,i] (getItem o i)
noncomputable def IxR (X:Cx) (r:R2):Prop :=
  ∀ (value slice:Expr) (pins:List (Addr × Obj)) (s:Shared) (σ:St) (H:Hp) (x y:V) (v u:Value) (Q:VK),Inv X pins σ H s→RelV x v→RelV y u→r x y H Q →
    subscripted slice false v u=operate [v,u] (getItem v u)→wpAny (model X.prog X.w) X.A (subscriptTail value slice v u) (EP X pins σ Q) X.xe s
noncomputable def MtR (X:Cx) (id:String) (r:V→List V→Hp→VK→Prop):Prop :=
  ∀ (pins:List (Addr × Obj)) (s:Shared) (σ:St) (H:Hp) (x:V) (xs:List V) (v:Value) (us:List Value) (Q:VK),Inv X pins σ H s→RelV x v→Vals xs us→r x xs H Q →
    wpAny (model X.prog X.w) X.A (call (.builtin id) (v :: us)) (EP X pins σ Q) X.xe s
section
variable {X:Cx} {a b:Expr} {ta tb:TE} {pos:Pos}
theorem IxR.or {r r':R2} (h:IxR X r) (h':IxR X r'):IxR X (fun x y H Q=>r x y H Q∨r' x y H Q):=by
  intro value slice pins s σ H x y v u Q I rx ry q hs
  rcases q with q | q
  · exact h value slice pins s σ H x y v u Q I rx ry q hs
  · exact h' value slice pins s σ H x y v u Q I rx ry q hs
theorem AiR {r:R2} (hr:IxR X r) (ha:PE X a ta) (hb:PE X b tb) (hs:Tj b):PE X (.Subscript a b pos) (tOp r ta tb):=by
  intro pins s σ H Q I h
  exact Subscript_ (Afa ha hb I h fun v u s2 x y H2 I2 rx ry q=>hr a b pins s2 σ H2 x y v u Q I2 rx ry q (hs _ _))
noncomputable def AgS (K:PySem.W.Frag):R2:=fun x y H Q=>∃ p xs i v,x=.ref p∧y=.int i∧SqL K H p xs∧atI xs i=some v∧Q v H
noncomputable def AgD (K:PySem.W.Frag):R2:=fun x y H Q=>∃ p xs i v,x=.ref p∧y=.int i∧SqT K H p xs∧atI xs i=some v∧Q v H
noncomputable def Ai5:R2:=fun x y H Q=>∃ z i c,x=.str z∧y=.int i∧z.length≤sizeLine∧atI z.cps.toList i=some c∧Q (.str ⟨#[c]⟩) H
theorem Abj:IxR X (AgS X.K):=by
  intro value slice pins s σ H x y v u Q I rx ry h hs
  obtain ⟨p,xs,i,z,rfl,rfl,hq,he,q⟩:=h
  cases rx
  obtain ⟨t,rfl⟩:=ry
  obtain ⟨its,r,pl,hz⟩:=I.list hq
  obtain ⟨j,h1,h2,h3,h4,h5⟩:=Tg he
  obtain ⟨w,ew,rw'⟩:=r.get h2
  have hl:=r.length
  have hn:=RP
  have fin:EP X pins σ Q w s:=⟨z,H,I,rw',q⟩
  by_cases h0:0≤i
  · have hj:i.toNat=j:=by
      rw [seqIndex_of h0 h5] at h1
      exact Option.some.inj h1
    exact item_listR pl.isList h0 (by omega) (by rw [hj];simpa using ew) fin hs
  · have hj:(i+(its.toArray.size:Int)).toNat=j:=by
      rw [seqIndex_neg (by omega) h4] at h1
      rw [List.size_toArray,←hl]
      exact Option.some.inj h1
    exact subscriptTail_builtinR (x:=w) pl.isList.typeIs slot_list_getitem.lookup
      (wpAny_getItem_list_neg (Q:=fun r s'=>r=w∧EP X pins σ Q r s') pl.isList (by omega) (by rw [List.size_toArray] <;> omega) (by omega) (by rw [hj];simpa using ew) ⟨rfl,fin⟩) hs
theorem AeD:IxR X (AgD X.K):=by
  intro value slice pins s σ H x y v u Q I rx ry h hs
  obtain ⟨p,xs,i,z,rfl,rfl,hq,he,q⟩:=h
  cases rx
  obtain ⟨t,rfl⟩:=ry
  obtain ⟨its,r,pl,hz⟩:=I.tuple hq
  obtain ⟨j,h1,h2,h3,h4,h5⟩:=Tg he
  obtain ⟨w,ew,rw'⟩:=r.get h2
  have hl:=r.length
  have hn:=RP
  have fin:EP X pins σ Q w s:=⟨z,H,I,rw',q⟩
  exact subscriptTail_builtinR (x:=w) pl.typeIs slot_tuple_getitem.lookup
    (getItem_tuple (j:=j) (Q:=fun r s'=>r=w∧EP X pins σ Q r s') pl (by omega) (by omega) (by rw [List.size_toArray,←hl];exact h1) (by simpa using ew) ⟨rfl,fin⟩) hs
theorem Aer:IxR X Ai5:=by
  intro value slice pins s σ H x y v u Q I rx ry h hs
  obtain ⟨z,i,c,rfl,rfl,hz,he,q⟩:=h
  obtain ⟨t,rfl⟩:=rx
  obtain ⟨t',rfl⟩:=ry
  obtain ⟨j,h1,h2,h3,h4,h5⟩:=Tg he
  have hl:z.cps.toList.length=z.length:=by simp [Str.length]
  rw [hl] at h1 h4 h5
  have hn:=RP
  exact tail_any (typeIs_str s z t) slot_str_getitem.lookup (getItem_str (c:=c) (by
    have e1:decide (i < -(2 ^ 63:Int))=false:=decide_eq_false (by omega)
    have e2:decide (i≥2 ^ 63)=false:=decide_eq_false (by omega)
    rw [e1,e2,Bool.or_false]) (by rw [h1];simpa using h2) ⟨.str ⟨#[c]⟩,H,I.tok _,⟨_,rfl⟩,q⟩) hs
noncomputable def rIx (K:PySem.W.Frag):R2:=fun x y H Q=>AgS K x y H Q∨AgD K x y H Q∨Ai5 x y H Q
theorem Ad2:IxR X (rIx X.K):=Abj.or (AeD.or Aer)
theorem R5 (lo hi:Option Int) (n:Nat):(sliceBounds lo hi none n).1=((HT.sIx n 0 lo:Nat):Int)∧(sliceBounds lo hi none n).2.1=((HT.sIx n n hi:Nat):Int)∧(sliceBounds lo hi none n).2.2=1:=by
  refine ⟨?_,?_,rfl⟩
  · cases lo with
    | none=>simp [sliceBounds,HT.sIx]
    | some i =>
      simp only [sliceBounds,HT.sIx,Option.getD_none,show (1:Int) > 0 by decide,if_true]
      by_cases h:i < 0
      · simp only [h,if_true] <;> omega
      · simp only [h,if_false] <;> omega
  · cases hi with
    | none=>simp [sliceBounds,HT.sIx]
    | some i =>
      simp only [sliceBounds,HT.sIx,Option.getD_none,show (1:Int) > 0 by decide,if_true]
      by_cases h:i < 0
      · simp only [h,if_true] <;> omega
      · simp only [h,if_false] <;> omega
theorem Qw (its:List Value) (lo hi:Option Int):slicePick its.toArray lo hi none=((its.drop (HT.sIx its.length 0 lo)).take (HT.sIx its.length its.length hi - HT.sIx its.length 0 lo)).toArray:=by
  obtain ⟨h1,h2,h3⟩:=R5 lo hi its.toArray.size
  unfold slicePick
  rw [h1,h2,h3]
  simp only [sliceRange_one,pick_run,List.size_toArray] <;> rfl
noncomputable def Alk (K:PySem.W.Frag):V→Option Int→Option Int→Hp→VK→Prop:=fun x lo hi H Q=>∃ a xs,x=.ref a∧SqL K H a xs∧∀ p,H p=none→Q (.ref p) (upd H p (.lst (Yh xs lo hi)))
theorem Ab6:SlR X (Alk X.K):=by
  intro pins s σ H x v vl vu lo hi sl Q I rx hs pl pu h
  obtain ⟨a,xs,rfl,hx,q⟩:=h
  cases rx
  obtain ⟨its,r,ht,hz⟩:=I.list hx
  have hlen:=r.length
  refine ⟨"list",_,slot_list_getitem.lookup,ht.isList.typeIs,?_⟩
  refine wpAny_getItem_list_slice ht.isList hs pl pu .none (by simp) ?_ (by rw [List.size_toArray] <;> omega)
  rw [Qw,←hlen]
  refine ⟨.ref s.heap.objs.size,_,I.laid (t':=s.toks) (o:=.lst (Yh xs lo hi)) (fun b ob q=>Heap.get?_push_of_some _ q) (Nat.le_refl _) ?_,rfl,q _ (I.hok.fresh (Nat.le_refl _))⟩
  exact ⟨Nat.le_trans (UJ xs lo hi) hz,_,0,(r.drop (HT.sIx xs.length 0 lo)).take (HT.sIx xs.length xs.length hi - HT.sIx xs.length 0 lo),Heap.get?_push_size _ rfl⟩
theorem RM:Ju X (.builtin "len") (fun xs H Q=>∃ p ys,xs=[.ref p]∧(SqL X.K H p ys∨SqT X.K H p ys)∧Q (.int ys.length) H):=by
  intro pins s σ H xs us Q I r h
  obtain ⟨p,ys,rfl,hq,q⟩:=h
  obtain ⟨u,rfl,rx⟩:=vals1 r
  cases rx
  have hn:=RP
  rcases hq with hq | hq
  · obtain ⟨its,r',pl,hz⟩:=I.list hq
    have hlen:=r'.length
    exact Calls.call_len_list pl.isList (by simp only [List.size_toArray] <;> omega) ⟨.int ys.length,H,I.tok _,⟨s.toks+1,by rw [List.size_toArray,hlen]⟩,q⟩
  · obtain ⟨its,r',pl,hz⟩:=I.tuple hq
    have hlen:=r'.length
    exact len_tuple pl (by simp only [List.size_toArray] <;> omega) ⟨.int ys.length,H,I.tok _,⟨s.toks+1,by rw [List.size_toArray,hlen]⟩,q⟩
theorem Qx:Ju X (.type "tuple") (fun xs H Q=>∃ p ys,xs=[.ref p]∧((SqL X.K H p ys∧∀ l,H l=none→Q (.ref l) (upd H l (.tup ys)))∨(SqT X.K H p ys∧Q (.ref p) H))):=by
  intro pins s σ H xs us Q I r h
  obtain ⟨p,ys,rfl,h⟩:=h
  obtain ⟨u,rfl,rx⟩:=vals1 r
  cases rx
  rcases h with ⟨hq,q⟩ | ⟨hq,q⟩
  · obtain ⟨its,r',pl,hz⟩:=I.list hq
    have hlen:=r'.length
    refine call_tuple_list pl.isList (fun h' kp=>?_) (by simp only [List.size_toArray] <;> omega)
    have I1:Inv X pins σ H { s with heap:=h' }:=I.kept (t':=s.toks) kp
    have I2:Inv X pins σ (upd H h'.objs.size (.tup ys)) { s with heap:=h'.push { cls:=.type "tuple",data:=.seq its.toArray } } :=
      I1.laid (t':=s.toks) (fun b o e=>Heap.get?_push_of_some _ e) (Nat.le_refl _) (show Hh X.prog X.w _ _ _ (.tup ys) from ⟨hz,its,r',IsTup.new _ _⟩)
    exact ⟨.ref h'.objs.size,_,I2,rfl,q _ (I1.hok.fresh (Nat.le_refl _))⟩
  · obtain ⟨its,r',pl,hz⟩:=I.tuple hq
    exact call_tuple_same pl ⟨.ref p,H,I,rfl,q⟩
noncomputable def tyV (K:PySem.W.Frag) (T:String) (x:V) (H:Hp):Prop:=match x with
  | .str _=>T="str"
  | .int _=>T="int"
  | .ref p=>(T="list"∧∃ xs,SqL K H p xs)∨(T="tuple"∧∃ o,K.lookup p=some o∧o.cls=.type "tuple"∧o.dict=none) ∨
      (T="dict"∧((∃ kvs,H p=some (.dK kvs))∨∃ kvs,H p=some (.dT kvs)))∨(T="set"∧∃ S n,H p=some (.set S n))
  | _=>False
theorem YT {pins:List (Addr × Obj)} {σ:St} {H:Hp} {s:Shared} {T:String} {x:V} {v:Value} (I:Inv X pins σ H s) (r:RelV x v) (ty:tyV X.K T x H) :
    s.TypeIs v T∧∀ a,v=.ref a→∃ ob,s.heap.get? a=some ob∧ob.dict=none:=by
  cases x with
  | str z =>
    obtain ⟨t,rfl⟩:=r
    cases (show T="str" from ty)
    exact ⟨typeIs_str s z t,fun _ e=>nomatch e⟩
  | int i =>
    obtain ⟨t,rfl⟩:=r
    cases (show T="int" from ty)
    exact ⟨typeIs_int s i t,fun _ e=>nomatch e⟩
  | ref p =>
    cases r
    rcases ty with ⟨rfl,xs,hq⟩ | ⟨rfl,o,hk,hc,hd⟩ | ⟨rfl,hk⟩ | ⟨rfl,S,n,hk⟩
    · obtain ⟨its,_,pl,_⟩:=I.list hq
      refine ⟨pl.isList.typeIs,fun a e=>?_⟩
      cases e
      obtain ⟨o,n,e,c,hd,_⟩:=pl
      exact ⟨o,e,hd⟩
    · refine ⟨⟨o,I.kIn p o hk,hc⟩,fun a e=>?_⟩
      cases e
      exact ⟨o,I.kIn _ o hk,hd⟩
    · have z:∃ o,s.heap.get? p=some o∧o.ExactDict:=by
        rcases hk with ⟨kvs,hk⟩ | ⟨kvs,hk⟩
        · obtain ⟨_,_,_,_,o,_,_,e,ex,_⟩:=I.hok p _ hk
          exact ⟨o,e,ex⟩
        · obtain ⟨_,_,_,_,o,_,_,e,ex,_⟩:=I.hok p _ hk
          exact ⟨o,e,ex⟩
      obtain ⟨o,e,ex⟩:=z
      refine ⟨⟨o,e,ex.1⟩,fun a e2=>?_⟩
      cases e2
      exact ⟨o,e,ex.2.1⟩
    · obtain ⟨o,_,_,_,e,ex,_⟩:=I.hok p _ hk
      refine ⟨⟨o,e,ex.1⟩,fun a e2=>?_⟩
      cases e2
      exact ⟨o,e,ex.2.1⟩
  | _=>exact False.elim ty
noncomputable def Ajt (K:PySem.W.Frag) (T:String) (r:V→List V→Hp→VK→Prop) (to:TE):TE:=fun σ H Q=>to σ H fun x H1=>tyV K T x H1∧r x [] H1 Q
noncomputable def tBM (K:PySem.W.Frag) (T:String) (r:V→List V→Hp→VK→Prop) (to:TE) (t:TA):TE:=fun σ H Q=>to σ H fun x H1=>tyV K T x H1∧t σ H1 fun xs H2=>r x xs H2 Q
variable {o e:Expr} {es:List Expr} {to:TE} {t:TA} {name:Str} {apos cpos:Pos} {T id:String} {r:V→List V→Hp→VK→Prop}
theorem AdW (pa:PlainAttrs T) (slot:Slot T name id) (hty:typeOf (.builtin id)=pure (.type "method_descriptor")) (hm:MtR X id r) (ho:PE X o to)
    (hbase:attributeBase o name X.env (eval o X.env)=eval o X.env:=by rfl) (hline:(apos.endLine == cpos.line)=true:=by rfl):PE X (.Call (.Attribute o name apos) [] [] cpos) (Ajt X.K T r to):=by
  intro pins s σ H Q I h
  refine wpAny_Call_method0_late hbase hline (thn (ho pins s σ H _ I h) fun v s1 ⟨x,H1,I1,r1,ty,q1⟩=>?_)
  obtain ⟨h1,h2⟩:=YT I1 r1 ty
  exact ⟨T,id,pa,slot,hty,h1,h2,Calls.callWith_builtin rfl (PySem.evalArgs_none (hm pins s1 σ H1 x [] v [] Q I1 r1 .nil q1))⟩
theorem AgN (pa:PlainAttrs T) (slot:Slot T name id) (hty:typeOf (.builtin id)=pure (.type "method_descriptor")) (hm:MtR X id r) (ho:PE X o to) (ha:PA X (e :: es) t)
    (hbase:attributeBase o name X.env (eval o X.env)=eval o X.env:=by rfl)
    (hfew:((backTo cpos (starEach (e :: es) X.env)).all (fun x=>!x.1) && (backToKw cpos (keywordEach [] X.env)).all (fun x=>x.1.isSome)
      && decide ((e :: es).length+([]:List Keyword).length+(if ([]:List Keyword).isEmpty then 0 else 1) < 30))=true:=by rfl)
    (hline:(apos.endLine == cpos.line)=true:=by rfl) (hs:starEach (e :: es) X.env=(false,eval e X.env) :: starEach es X.env:=by rfl) (hplain:(backTo cpos (starEach es X.env)).any (·.1)=false:=by rfl) :
    PE X (.Call (.Attribute o name apos) (e :: es) [] cpos) (tBM X.K T r to t):=by
  intro pins s σ H Q I h
  refine wpAny_Call_method_late hbase hfew hline rfl (thn (ho pins s σ H _ I h) fun v s1 ⟨x,H1,I1,r1,ty,q1⟩=>?_)
  obtain ⟨h1,h2⟩:=YT I1 r1 ty
  refine ⟨T,id,pa,slot,hty,h1,h2,?_⟩
  have hA:=ha cpos pins s1 σ H1 _ I1 q1
  rw [hs] at hA ⊢
  refine Calls.callWith_builtin (by show (false || (backTo cpos (starEach es X.env)).any (·.1))=false;rw [hplain] <;> rfl) (Calls.evalArgs_plain ?_)
  exact thn hA fun us s2 ⟨vs,H2,I2,r2,q2⟩=>hm pins s2 σ H2 x vs v us Q I2 r1 r2 q2
end
end L2
namespace L2
open PySem PySem.Spec PyProof.Rows
noncomputable def MtM (X:Cx) (id:String) (r:V→List V→Hp→VK→Prop):Prop :=
  ∀ (pins:List (Addr × Obj)) (s:Shared) (σ:St) (H:Hp) (x:V) (xs:List V) (v:Value) (us:List Value) (Q:VK),Inv X pins σ H s→RelV x v→Vals xs us→r x xs H Q →
    wpAny (model X.prog X.w) X.A (call (.builtin id) (v :: us)) (EP X pins σ Q) X.xe s
theorem Vals.one:∀ {x:V} {us:List Value},Vals [x] us→∃ u,us=[u]∧RelV x u
  | _,_,.cons r .nil=>⟨_,rfl,r⟩
section
variable {X:Cx} {pins:List (Addr × Obj)} {σ:St} {H:Hp} {s:Shared} {l b:Addr} {xs ys zs:List V}
theorem Inv.lset {its its':List Value} {n:Nat} {f:Array Value→Array Value} {t':Nat} (I:Inv X pins σ H s) (hH:H l=some (.lst xs))
    (e:s.heap.get? l=some { cls:=.type "list",data:=.seq its.toArray n }) (hf:f its.toArray=its'.toArray) (hv:Vals ys its') (hz:ys.length≤sizeLine) :
    Inv X pins σ (upd H l (.lst ys)) { s with heap:=s.heap.update l (Obj.mapSeq f),toks:=t' }:=by
  have q:=PySem.IsL.update e f
  rw [hf] at q
  refine I.write (x:=l) (e:=l) (by rw [hH];exact trivial) (.inl rfl) (fun b' u hb hu=>(Heap.get?_update_other s.heap (Obj.mapSeq f) (Ne.symm hb)).trans hu) ⟨_,q⟩ ?_
  exact ⟨hz,its',_,hv,q⟩
theorem Inv.lnew {its:List Value} {t':Nat} (I:Inv X pins σ H s) (hv:Vals ys its) (hz:ys.length≤sizeLine) :
    Inv X pins σ (upd H s.heap.objs.size (.lst ys)) { s with heap:=s.heap.push { cls:=.type "list",data:=.seq its.toArray },toks:=t' } :=
  I.laid (fun _ _ q=>Heap.get?_push_of_some _ q) (Nat.le_refl _) ⟨hz,its,0,hv,Heap.get?_push_size _ rfl⟩
theorem Inv.fresh (I:Inv X pins σ H s):H s.heap.objs.size=none:=I.hok.fresh (Nat.le_refl _)
theorem Inv.lstM (I:Inv X pins σ H s) (hH:H l=some (.lst xs)):xs.length≤sizeLine∧∃ (its:List Value) (n:Nat),Vals xs its∧xs.length=its.length∧s.heap.get? l=some { cls:=.type "list",data:=.seq its.toArray n }:=by
  obtain ⟨z,its,n,r,e⟩:=I.hok l _ hH
  exact ⟨z,its,n,r,r.length,e⟩
end
section
variable {X:Cx}
noncomputable def AbX:V→List V→Hp→VK→Prop:=fun x vs H Q=>∃ l xs y,x=.ref l∧vs=[y]∧H l=some (.lst xs)∧xs.length < sizeLine∧Q .non (upd H l (.lst (xs ++ [y])))
theorem Mx:MtM X "list.append" AbX:=by
  intro pins s σ H x vs v us Q I rx rv h
  obtain ⟨l,xs,y,rfl,rfl,hH,hz,q⟩:=h
  cases rx
  obtain ⟨u,rfl,ru⟩:=rv.one
  obtain ⟨z,its,n,r,hl,e⟩:=I.lstM hH
  refine call_meets F.slot_list_append ⟨_,e,rfl⟩ F.entry_list_append (F.args_list_append_2 _ _) (PySem.list_append l its.toArray n u (by rw [List.size_toArray];omega)) ⟨e,?_⟩
  refine ⟨.non,_,I.lset (its':=its ++ [u]) hH e (by simp) (r.append (.cons ru .nil)) ?_,rfl,q⟩
  rw [List.length_append,List.length_singleton]
  omega
end
section
variable {prog:Program} {w:World} {A:Around} {E:Value→Shared→Prop} {s:Shared}
set_option maxRecDepth 100000 in
end
section
variable {X:Cx}
end
end L2
namespace Att
open PySem PySem.W PySem.Calls PyProof.Rows
theorem Nk {P:Params} {h:Heap}:∀ (ns:List Int) (vs:List Value),WellAll P h vs (ns.map WData.int)→IntsAre vs ns:=by
  intro ns
  induction ns with
  | nil =>
    intro vs w
    rw [List.map_nil] at w
    cases w
    exact .nil
  | cons n ns ih =>
    intro vs w
    rw [List.map_cons] at w
    cases w with
    | cons a b =>
      cases a
      exact .cons _ _ (ih _ b)
theorem X3 {l:OpenLaw} {n:Nat} (hn:l.most=some n) {P:Params} {h:Heap} {args:List WData} {vals:List Value}
    (hpre:l.row.toRowW.claim.pre args=true) (hwl:WellAll P h vals args) :
    ∃ a vs ns,vals=[Value.ref a]∧args=[WData.list (ns.map WData.int)]∧h.get? a=some { cls:=.type "list",data:=.seq vs.toArray }∧IntsAre vs ns∧ns.length≤n:=by
  have hsh:WShape.hasAll [] args [.list .int]=true:=(pre_splitW hpre).1
  have hc:l.pre.holds [] { args:=args }=true:=(pre_splitW hpre).2
  obtain ⟨d,r,rfl,h1,h2⟩:=hasAllW_cons hsh
  obtain rfl:=hasAllW_nil h2
  obtain ⟨xs,rfl,h3⟩:=hasW_list h1
  obtain ⟨ns,rfl⟩:=items_int h3
  have hlen:ns.length≤n:=by
    unfold OpenLaw.pre at hc
    have h4:(WTm.not (.lt (.lit (.int (n:Int))) (.len (.arg 0)))).holds [] { args:=[.list (ns.map .int)] }=true:=by
      have h4:=(holds_andW hc).1
      rw [hn] at h4
      exact h4
    have h5:=condW_of h4 (w_not (w_lt w_lit (w_len_list (w_arg rfl))))
    rw [List.length_map] at h5
    refine Nat.le_of_not_lt fun q=>?_
    have q':(n:Int) < ((ns.length:Nat):Int):=by omega
    first
      | (rw [decide_eq_true q'] at h5;exact absurd h5 (by decide))
      | (simp at h5;omega)
  cases hwl with
  | cons w1 w2 =>
    cases w2
    cases w1 with
    | list ho hall=>exact ⟨_,_,ns,rfl,rfl,ho,Nk ns _ hall,hlen⟩
theorem XQ (l:OpenLaw) (args:List WData):l.row.toRowW.claim.post args (.bool true) args=true :=
  postW_of (r:=l.row.toRowW) (X:=(true == true))
    (show WShape.has [] (.bool true) .bool=true by first | rfl | decide | simp [WShape.has,WShape.arms,WShape.armsAll])
    (show (WTm.eq .res (.lit (.bool true))).value [] { args:=args,res:=some (.bool true),after:=args }=some (.bool (true == true)) from w_eq_bool (w_res rfl) w_lit) rfl
theorem U4 {l:OpenLaw} {n:Nat} {q:Program} {loose:List Str} {XP:(Str→Option Value)→Heap→Prop} {YP:World→Heap→Prop} {d:DefRec}
    (hn:l.most=some n) (hdf:d.params.defaults=[])
    (call:∀ (w:World) (s₀ s₁:Shared) (mg mb:Str→Option Value) (fa:Addr) (o:Obj) (pm cd doc:Value) (a:Addr) (vs:List Value) (ns:List Int),
      Ground q loose [] XP w s₀ mg mb s₁.heap→YP w s₁.heap →
      s₁.heap.get? fa=some o→o.data=.func (docDef d.name d.params d.body d.scope pm cd doc)→s₁.heap.CodeRec cd d.name→mg d.name=some (.ref fa) →
      s₁.heap.get? a=some { cls:=.type "list",data:=.seq vs.toArray }→IntsAre vs ns→ns.length≤n→s₁.gens = #[] →
      codeAny (model l.prog w) callerA (.call (.ref fa) ⟨[.ref a],[]⟩) (fun r s'=>r=.ok (.ret (.bool true))∧OldK s₁.heap s'.heap∧s'.os=s₁.os∧AllBare s'.gens) s₁) :
    WalkO q loose XP YP l.row.toRowW d [] (fun f vs=>PySem.call f vs):=by
  intro w s₀ s₁ mg mb G Y fa o pm cd doc dV kV ho hd hcd hD hmg hg args vals as hpre hlay hrd hwl hlo
  obtain rfl:dV=.none:=Dflts.none hD hdf
  obtain rfl:kV=.none:=Dflts.noKw hD
  obtain ⟨a,vs,ns,rfl,rfl,hobj,hints,hlen⟩:=X3 hn hpre hwl
  refine enter_call (codeAny_mono (call w s₀ s₁ mg mb fa o pm cd doc a vs ns G Y ho (fd_plain hd) hcd hmg hobj hints hlen hg) fun r s' hq=>?_)
  obtain ⟨rfl,h2,h3,h4⟩:=hq
  exact ⟨.inl ⟨.bool true,.bool true,[],rfl,fun _=>rfl,.bool true,XQ l _,fun _=>⟨List.Pairwise.nil,fun _ hm=>(nomatch hm)⟩⟩,h2,h3,h4⟩
section
variable {prog:Program} {w:World} {A:Around} {E:Value→Shared→Prop} {s:Shared} {K:Frag}
noncomputable def ledger (h:Heap) (L d:Addr):List (Addr × Obj):=(List.range h.objs.size).filterMap fun a=>if a=L∨a=d then none else (h.get? a).map fun o=>(a,o)
end
end Att
namespace L2
open PySem PySem.Spec PyProof.Rows
theorem QC:∀ {vs:List Value} {ns:List Int},IntsAre vs ns→Vals (ns.map V.int) vs
  | _,_,.nil=>.nil
  | _,_,.cons n t h=>.cons ⟨t,rfl⟩ (QC h)
noncomputable def Only (H:Hp):Prop:=∀ b,H b=none∨∃ o xs,H b=some (.frz o (.lst xs))
theorem Zd {P:Program} {w:World} {K:PySem.W.Frag} {mg mb:Str→Option Value} {CX:CXT} {k:Nat} {fa a:Addr} {fd:FuncData} {x:Str} {sp:Sp} {s₁:Shared} {vs:List Value} {ns:List Int}
    (KX:K.In s₁.heap) (hns:s₁.heap.Ns mainGlobals mg) (hb:s₁.heap.Ns builtinsNs mb) (hbb:∀ x:Str,x≠"__name__"→mb x=bootBuiltins x) (hlim:s₁.heap.NoLimit) (hg:s₁.gens = #[])
    (ha:s₁.heap.get? a=some { cls:=.type "list",data:=.seq vs.toArray }) (hi:IntsAre vs ns) (hl:ns.length≤sizeLine) (hr:Es k callerA)
    (F:∀ base:Heap,K.In base→base.Ns mainGlobals mg→Hl P w K mg base CX k fa fd [x] sp) (hbind:∀ (s:Shared) (u:Value),BindsTo s fd ⟨[u],[]⟩ [(x,u)])
    (hsp:∀ H:Hp,Only H→SqL K H a (ns.map V.int)→sp [.ref a] H (fun v _=>v=.bl true) fun _ _ _=>False)
    (hCX:∀ H e s',CX [] H s₁ (fun _ _ _=>False) e s'→False) :
    codeAny (model P w) callerA (.call (.ref fa) ⟨[.ref a],[]⟩) (fun r s'=>r=.ok (.ret (.bool true))∧OldK s₁.heap s'.heap∧s'.os=s₁.os∧AllBare s'.gens) s₁:=by
  have rv:=QC hi
  have lenV:=hi.length
  have core:∀ H:Hp,Only H→SqL K H a (ns.map V.int)→HOk P w H s₁.heap→(∀ b,H b≠none→b=a)→(H a≠none→K.lookup a=none) →
      codeAny (model P w) callerA (.call (.ref fa) ⟨[.ref a],[]⟩) (fun r s'=>r=.ok (.ret (.bool true))∧OldK s₁.heap s'.heap∧s'.os=s₁.os∧AllBare s'.gens) s₁:=by
    intro H hO hS hok hA hK
    have base_of:∀ {b:Addr} {o:Obj},s₁.heap.get? b=some o→H b=none→(S6 s₁.heap H).get? b=some o:=fun e n=>Aam e n
    have noA:∀ {b:Addr} {o:Obj} {es:Array DictEntry} {ep:Nat},s₁.heap.get? b=some o→o.data=.dict es ep→H b=none:=fun {b o es ep} e d=>by
      cases q:H b with
      | none=>rfl
      | some u =>
        have e':b=a:=hA b (by rw [q];simp)
        subst e'
        rw [ha] at e;cases e
        have d':Data.seq vs.toArray _=Data.dict es ep:=d
        cases d'
    have nsK:∀ {b:Addr} {m:Str→Option Value},s₁.heap.Ns b m→(S6 s₁.heap H).Ns b m:=fun {b m} ⟨o,es,ep,e,d,r⟩=>⟨o,es,ep,base_of e (noA e d),d,r⟩
    have hKb:K.In (S6 s₁.heap H):=fun b o e=>base_of (KX b o e) (by
      cases q:H b with
      | none=>rfl
      | some u =>
        have e':b=a:=hA b (by rw [q];simp)
        subst e'
        rw [hK (by rw [q];simp)] at e;cases e)
    have hM:Mod K mg (S6 s₁.heap H):=⟨hKb,nsK hns,⟨mb,nsK hb,hbb⟩,let ⟨mc,h1,h2⟩:=hlim;⟨mc,nsK h1,h2⟩⟩
    have e0:Vg P w K mg (S6 s₁.heap H) callerA [] s₁ H:=⟨rfl,hM,fun b o e=>Aa4 e,Nat.le_of_eq (Ym _ _),trivial,fun b hb=>absurd (show b∈([]:List Addr) from hb) (by simp),hok,.of_eq hg⟩
    refine codeAny_mono ((F _ hKb (nsK hns)).run callerA [] s₁ H ⟨[.ref a],[]⟩ [.ref a] [.ref a] _ _ hr e0 (hbind s₁ (.ref a)) (.cons rfl .nil) (hsp H hO hS)) fun r s' h=>?_
    cases r with
    | error e=>exact (hCX H e s' h).elim
    | ok fl =>
      cases fl with
      | next=>exact False.elim h
      | brk=>exact False.elim h
      | cont=>exact False.elim h
      | ret u =>
        obtain ⟨v,H',os,bare,un,hok',r',q⟩:=h
        have q':v=.bl true:=q
        subst q'
        obtain rfl:u=Value.bool true:=r'
        refine ⟨rfl,OldK.of_keep fun b o e=>?_,os,bare⟩
        cases q:H b with
        | none=>exact un.keep b o e q (by intro z;exact absurd (show b∈([]:List Addr) from z) (by simp)) (by simp)
        | some u =>
          rcases hO b with z | ⟨ob,xs,z⟩
          · rw [q] at z;cases z
          · have z2:=un.frzs b ob _ z
            obtain ⟨e1,_⟩:=hok b _ z
            obtain ⟨e2,_⟩:=hok' b _ z2
            rw [e] at e1;cases e1
            exact e2
  cases hk:K.lookup a with
  | some o =>
    have e:=KX a o hk
    rw [ha] at e
    cases e
    refine core (fun _=>none) (fun _=>.inl rfl) (.inr ⟨_,vs.toArray,_,hk,rfl,rfl,rfl,by rw [List.size_toArray,lenV];exact hl,by simpa using rv⟩) (fun b u z=>by have z':(none:Option HO)=some u:=z;cases z') (fun b z=>absurd rfl z) fun z=>absurd rfl z
  | none =>
    refine core (fun b=>if b=a then some (.frz { cls:=.type "list",data:=.seq vs.toArray } (.lst (ns.map V.int))) else none) (fun b=>?_) (.inl (.inr ⟨{ cls:=.type "list",data:=.seq vs.toArray },if_pos rfl⟩)) (fun b u z=>?_) (fun b z=>?_) fun _=>hk
    · by_cases hb:b=a
      · exact .inr ⟨_,_,if_pos hb⟩
      · exact .inl (if_neg hb)
    · by_cases hb:b=a
      · have z':=(if_pos hb).symm.trans z
        cases z'
        subst hb
        exact ⟨ha,by rw [List.length_map];exact hl,vs,_,rv,ha⟩
      · have z':=(if_neg hb).symm.trans z
        cases z'
    · by_cases hb:b=a
      · exact hb
      · exact absurd (if_neg hb) z
end L2
namespace L2
open PySem PySem.Spec PyProof.Rows
noncomputable abbrev KOf {K:PySem.W.Frag} {h:Heap} (_:K.In h):PySem.W.Frag:=K
theorem AaQ {l:PySem.W.OpenLaw} {n k:Nat} {q:Program} {loose:List Str} {XP:(Str→Option Value)→Heap→Prop} {YP:World→Heap→Prop} {d:DefRec} {K:Params→PySem.W.Frag} {CX:World→CXT} {sp:World→Sp} {x:Str}
    (hn:l.most=some n) (hn2:n≤sizeLine) (hdf:d.params.defaults=[]) (hr:Es k callerA)
    (hY:∀ (w:World) (h:Heap),YP w h→(K w.params).In h)
    (F:∀ (w:World) (mg:Str→Option Value) (fa:Addr) (h:Heap),(K w.params).In h→h.Ns mainGlobals mg→mg d.name=some (.ref fa) →
      ∃ fd:FuncData,(∀ (s:Shared) (u:Value),BindsTo s fd ⟨[u],[]⟩ [(x,u)]) ∧
        ∀ base:Heap,(K w.params).In base→base.Ns mainGlobals mg→Hl l.prog w (K w.params) mg base (CX w) k fa fd [x] (sp w))
    (hsp:∀ (w:World) (H:Hp) (a:Addr) (ns:List Int),ns.length≤n→Only H→SqL (K w.params) H a (ns.map V.int)→sp w [.ref a] H (fun v _=>v=.bl true) fun _ _ _=>False)
    (hCX:∀ (w:World) (H:Hp) (s:Shared) (e:Value) (s':Shared),CX w [] H s (fun _ _ _=>False) e s'→False) :
    PySem.W.WalkO q loose XP YP l.row.toRowW d [] (fun f vs=>PySem.call f vs):=by
  refine Att.U4 hn hdf fun w s₀ s₁ mg mb fa o pm cd doc a vs ns G Y ho hd hcd hmg hobj hints hlen hg=>?_
  have KX:=hY w _ Y
  obtain ⟨fd,hb,hF⟩:=F w mg fa _ KX G.T.g hmg
  exact Zd KX G.T.g G.T.b G.T.builtins G.T.nolimit hg hobj hints (Nat.le_trans hlen hn2) hr hF hb (fun H hO hS=>hsp w H a ns hlen hO hS) fun H e s'=>hCX w H s₁ e s'
end L2
namespace L2
open PySem PySem.Spec PyProof.Rows
noncomputable def inClass (s:Stmt) (j:Nat):Stmt:=match s with
  | .ClassDef _ _ _ body _ _ _ _ _ _ _=>body.getD j (.Pass ⟨0,0,0,0⟩)
  | _=>.Pass ⟨0,0,0,0⟩
noncomputable def Eh (s:Stmt):Arguments:=match s with
  | .FunctionDef _ a _ _ _ _ _ _ _ _=>a
  | _=>{ posonlyargs:=[],args:=[],vararg:=none,kwonlyargs:=[],kw_defaults:=[],kwarg:=none,defaults:=[] }
noncomputable def Dl (s:Stmt):List Stmt:=match s with
  | .FunctionDef _ _ b _ _ _ _ _ _ _=>b
  | _=>[]
noncomputable def Ai (s:Stmt):Scope:=match s with
  | .FunctionDef _ _ _ _ _ _ sc _ _ _=>sc
  | _=>{ kind:=.function,names:=[],isGenerator:=false,isCoroutine:=false }
noncomputable abbrev CX0:CXT:=fun _ _ _ _ _ _=>False
noncomputable abbrev E0:XK:=fun _ _ _=>False
theorem WY {X:Cx}:Passes CX0 X E0:=fun _ _ _ _ _ _ _ h=>h.elim
structure Fun (K:PySem.W.Frag) (x qual:Str) (st:Stmt) (f:Addr) (fd:FuncData):Prop where
  ex:∃ (oc:Value) (od:Option Addr) (kV doc pm:Value) (an:Option Addr) (cdv ct:Value) (osl:Array (Option Value)),
    fd=PySem.W.fnOf x qual (Eh st) (Dl st) (Ai st) .none kV doc pm an cdv ct∧K.lookup f=some ⟨oc,od,.func fd,osl⟩∧PySem.W.codeIn K cdv qual=true
  kp:PySem.W.keepIn K (.ref f)=true
section
variable {P:Program} {w:World} {K:PySem.W.Frag} {mg:Str→Option Value} {base:Heap}
theorem Fun.ok {x qual:Str} {st:Stmt} {f:Addr} {fd:FuncData} {N ps:List Str} {k:Nat} {sp:Sp} (F:Fun K x qual st f fd) (S:Ao N ps (Ai st)) (len:∀ vs H Q E,sp vs H Q E→vs.length=ps.length)
    (hbody:∀ (cdv:Value) (A:Around) (outer:List Env) (s:Shared) (H:Hp) (vs:List V) (Q:VK) (E:XK),Es k (A.deeper (envOfC qual (Ai st) s.heap.objs.size f cdv))→sp vs H Q E →
      ∃ t,PSs (V6 CX0 P w K mg base N qual (Ai st) f cdv A outer s H E).nox (Dl st) t∧t { nx:=fun _ H'=>Q .non H',rt:=Q } (start N vs) H):Hl P w K mg base CX0 (k+1) f fd ps sp:=by
  obtain ⟨oc,od,kV,doc,pm,an,cdv,ct,osl,rfl,lk,hcd⟩:=F.ex
  refine Ah3 lk hcd S len fun A outer s H vs Q E hr hsp=>?_
  obtain ⟨t,h,q⟩:=hbody cdv A outer s H vs Q E hr hsp
  exact ⟨t,h.nox,q⟩
theorem Fun.binds {x qual:Str} {st:Stmt} {f:Addr} {fd:FuncData} {ps:List Str} (F:Fun K x qual st f fd)
    (h:∀ (kV doc pm:Value) (an:Option Addr) (cdv ct:Value) (us:List Value),us.length=ps.length→bindArgs (PySem.W.fnOf x qual (Eh st) (Dl st) (Ai st) .none kV doc pm an cdv ct) ⟨us,[]⟩=pure (ps.zip us)):Binds K fd ps []:=by
  obtain ⟨oc,od,kV,doc,pm,an,cdv,ct,osl,rfl,lk,hcd⟩:=F.ex
  exact .all (h kV doc pm an cdv ct)
theorem Mp {x qual:Str} {st:Stmt} {f:Addr} {oc:Value} {od an:Option Addr} {osl:Array (Option Value)} {kV doc pm cdv ct:Value} (l:K.lookup f=some ⟨oc,od,.func (PySem.W.fnOf x qual (Eh st) (Dl st) (Ai st) .none kV doc pm an cdv ct),osl⟩)
    (c:PySem.W.codeIn K cdv qual=true) (k:PySem.W.keepIn K (.ref f)=true):Fun K x qual st f (PySem.W.fnOf x qual (Eh st) (Dl st) (Ai st) .none kV doc pm an cdv ct):=⟨⟨oc,od,kV,doc,pm,an,cdv,ct,osl,rfl,l,c⟩,k⟩
end
theorem XF {n:Nat} (h:n≤1000):n < sizeLine:=Nat.lt_of_le_of_lt h (by decide)
section
variable {X:Cx}
end
theorem Eb {c A B:Prop} [Decidable c] (h1:c→A) (h2:¬ c→B):if c then A else B:=by
  by_cases h:c
  · rw [if_pos h]
    exact h1 h
  · rw [if_neg h]
    exact h2 h
noncomputable def Same (H H':Hp):Prop:=∀ b o,H b=some o→H' b=some o
theorem Same.refl (H:Hp):Same H H:=fun _ _ h=>h
theorem Same.trans {H H1 H2:Hp} (a:Same H H1) (b:Same H1 H2):Same H H2:=fun c o h=>b c o (a c o h)
theorem Same.seq {K:PySem.W.Frag} {H H':Hp} {a:Addr} {xs:List V} (e:Same H H') (h:SqL K H a xs):SqL K H' a xs:=by
  rcases h with (h | ⟨o,h⟩) | h
  · exact .inl (.inl (e _ _ h))
  · exact .inl (.inr ⟨o,e _ _ h⟩)
  · exact .inr h
end L2
namespace L2
open PySem PySem.Spec PyProof.Rows
noncomputable def exO (a C dx:Addr) (h:Heap):Prop:=∃ o vs,h.get? a=some o∧o.cls=.ref C∧o.dict=some dx∧o.data=.fields vs∧dx≠a
section
variable {M:Model} {A:Around} {E:Value→Shared→Prop} {s:Shared} {base:Heap} {env:Env} {outer:List Env} {L e:Addr}
end
section
variable {P:Program} {w:World} {H:Hp} {h h':Heap} {fs:List Addr} {e:Addr} {oe:Obj} {vs:Array Value} {old:Option Addr} {φ:Heap→Prop}
end
end L2
namespace L2
open PySem PySem.Spec PyProof.Rows
noncomputable def Exc (H:Hp) (a:Addr):Prop:=∃ C dx,H a=some (.ext (exO a C dx))
theorem Exc.same {H H':Hp} {a:Addr} (x:Exc H a) (s:Same H H'):Exc H' a:=let ⟨C,dx,e⟩:=x;⟨C,dx,s _ _ e⟩
section
variable {X:Cx} {pins:List (Addr × Obj)} {σ:St} {H:Hp} {s:Shared} {a:Addr} {E:Value→Shared→Prop} {Q:Unit→Shared→Prop}
end
section
variable {X:Cx} {k:Nat} {f:Addr} {fd:FuncData} {ps:List Str} {sp:Sp} {x:Str} {p pos:Pos} {e:Expr} {es:List Expr} {t:TA}
end
end L2
namespace L2
open PySem PySem.Spec PyProof.Rows
noncomputable abbrev bmV:List Value:=[.type "ValueError",.type "Exception",.type "BaseException",.type "object"]
noncomputable def Akb (es:Array DictEntry):Bool:=es.toList.all fun e=>match e.key with | .str _ _=>true | _=>false
structure XC (K:PySem.W.Frag) (C F:Addr):Prop where
  obj:∃ nm q N bs sn sub ab col dd k0 k1 k2 k3 k5,K.lookup C=some (excClassObj nm q C N bs (.ref F :: bmV) true sn sub ab col dd k0 k1 k2 k3 k5 "ValueError.__new__")
  tail:∃ c0 dd cd sl oc od es ep sl',K.lookup F=some ⟨c0,dd,.cls cd,sl⟩∧K.lookup cd.ns=some ⟨oc,od,.dict es ep,sl'⟩∧Akb es=true∧nsFind es "__init__"=none
  sa:PySem.W.findIn K (.ref C) "__setattr__"=some (some (.builtin "object.__setattr__"))
  ga:PySem.W.findIn K (.ref C) "__getattribute__"=some (some (.builtin "BaseException.__getattribute__"))
  gh:PySem.W.findIn K (.ref C) "__getattr__"=some none
  cl:PySem.W.findIn K (.ref C) "__class__"=some (some (.builtin "object.__class__"))
  gg:PySem.W.specialIn K (.builtin "object.__class__") "__get__"=some (some (.builtin "getset_descriptor.__get__"))
  gt:PySem.W.takesIn K (.builtin "object.__class__")=some true
section
variable {prog:Program} {w:World} {A:Around} {E:Value→Shared→Prop} {s:Shared} {K:PySem.W.Frag} {C U fI:Addr} {rest:List Value}
end
end L2
namespace L2
open PySem PySem.Spec PyProof.Rows PySem.W PySem.Builtin PySem.Builtin.ObjectAttr
section
variable {prog:Program} {w:World} {A:Around} {E:Value→Shared→Prop} {s:Shared} {K:PySem.W.Frag} {C U x:Addr} {name:Str} {v:Value}
end
end L2
namespace L2
open PySem PySem.Spec PyProof.Rows PySem.W PySem.Builtin PySem.Builtin.ObjectAttr
section
variable {prog:Program} {w:World} {A:Around} {E:Value→Shared→Prop} {s:Shared} {K:PySem.W.Frag} {C U x:Addr} {name:Str} {v:Value} {ox:Obj} {od:Option Obj}
end
end L2
namespace L2
open PySem PySem.Spec PyProof.Rows PySem.SeqAt
inductive Dt where
  | non | bl (b:Bool) | int (i:Int) | str (x:Str) | tup (ds:List Dt) | lst (ds:List Dt) | fn (a:Addr)
    | exc (c:Str) (ns:List Str) (ds:List Dt)
    | obj (c:Str) (ns:List Str) (ds:List Dt)
noncomputable def LsD (K:PySem.W.Frag) (H:Hp) (a:Addr) (xs:List V):Prop:=H a=some (.lst xs)∨(SqL K H a xs∧∀ x∈xs,∃ i:Int,x=.int i)
theorem LsD.sq {K:PySem.W.Frag} {H:Hp} {a:Addr} {xs:List V} (h:LsD K H a xs):SqL K H a xs:=by
  rcases h with h | ⟨h,_⟩
  · exact SqL.of h
  · exact h
theorem LsD.mono {K:PySem.W.Frag} {H H':Hp} {a:Addr} {xs:List V} (s:Same H H') (h:LsD K H a xs):LsD K H' a xs:=by
  rcases h with h | ⟨h,q⟩
  · exact .inl (s _ _ h)
  · exact .inr ⟨s.seq h,q⟩
mutual
noncomputable def Rp (K:PySem.W.Frag) (H:Hp):Dt→V→Prop
  | .non,v=>v=.non
  | .bl b,v=>v=.bl b
  | .int i,v=>v=.int i
  | .str x,v=>v=.str x
  | .fn a,v=>v=.ref a
  | .exc c ns ds,v=>∃ a C U dx vs,v=.ref a∧PySem.W.nsIn K mainGlobals c=some (some (.ref C))∧XC K C U∧H a=some (.ext (exO a C dx))∧H dx=some (.xd (ns.zip vs))∧ns.length=ds.length∧RpL K H ds vs
  | .obj c ns ds,v=>∃ a C dx vs,v=.ref a∧PySem.W.nsIn K mainGlobals c=some (some (.ref C))∧Cls K C∧H a=some (.ins C dx (ns.zip vs))∧ns.length=ds.length∧RpL K H ds vs
  | .tup ds,v=>∃ a xs,v=.ref a∧SqT K H a xs∧RpL K H ds xs
  | .lst ds,v=>∃ a xs,v=.ref a∧LsD K H a xs∧RpL K H ds xs
noncomputable def RpL (K:PySem.W.Frag) (H:Hp):List Dt→List V→Prop
  | [],xs=>xs=[]
  | d :: ds,xs=>∃ v r,xs=v :: r∧Rp K H d v∧RpL K H ds r
end
theorem Same.seqT {K:PySem.W.Frag} {H H':Hp} {a:Addr} {xs:List V} (e:Same H H') (h:SqT K H a xs):SqT K H' a xs:=by
  rcases h with (h | ⟨o,h⟩) | h
  · exact .inl (.inl (e _ _ h))
  · exact .inl (.inr ⟨o,e _ _ h⟩)
  · exact .inr h
mutual
theorem Rp.mono {K:PySem.W.Frag} {H H':Hp} (s:Same H H'):∀ {d:Dt} {v:V},Rp K H d v→Rp K H' d v
  | .non,_,h=>by unfold Rp at h ⊢;exact h
  | .bl _,_,h=>by unfold Rp at h ⊢;exact h
  | .int _,_,h=>by unfold Rp at h ⊢;exact h
  | .str _,_,h=>by unfold Rp at h ⊢;exact h
  | .fn _,_,h=>by unfold Rp at h ⊢;exact h
  | .exc _ _ _,_,h=>by
    unfold Rp at h ⊢
    obtain ⟨a,C,U,dx,vs,e,q,x,h1,h2,l,r⟩:=h
    exact ⟨a,C,U,dx,vs,e,q,x,s _ _ h1,s _ _ h2,l,RpL.mono s r⟩
  | .obj _ _ _,_,h=>by
    unfold Rp at h ⊢
    obtain ⟨a,C,dx,vs,e,q,x,h1,l,r⟩:=h
    exact ⟨a,C,dx,vs,e,q,x,s _ _ h1,l,RpL.mono s r⟩
  | .tup ds,_,h=>by
    unfold Rp at h ⊢
    obtain ⟨a,xs,e,q,r⟩:=h
    exact ⟨a,xs,e,s.seqT q,RpL.mono s r⟩
  | .lst ds,_,h=>by
    unfold Rp at h ⊢
    obtain ⟨a,xs,e,q,r⟩:=h
    exact ⟨a,xs,e,q.mono s,RpL.mono s r⟩
theorem RpL.mono {K:PySem.W.Frag} {H H':Hp} (s:Same H H'):∀ {ds:List Dt} {vs:List V},RpL K H ds vs→RpL K H' ds vs
  | [],_,h=>by unfold RpL at h ⊢;exact h
  | d :: ds,_,h=>by
    unfold RpL at h ⊢
    obtain ⟨v,r,e,q,p⟩:=h
    exact ⟨v,r,e,Rp.mono s q,RpL.mono s p⟩
end
section
variable {K:PySem.W.Frag} {H:Hp}
theorem Te {v:V}:Rp K H .non v↔v=.non:=by unfold Rp;exact Iff.rfl
theorem Ep {b:Bool} {v:V}:Rp K H (.bl b) v↔v=.bl b:=by unfold Rp;exact Iff.rfl
theorem Bp {i:Int} {v:V}:Rp K H (.int i) v↔v=.int i:=by unfold Rp;exact Iff.rfl
theorem RJ {x:Str} {v:V}:Rp K H (.str x) v↔v=.str x:=by unfold Rp;exact Iff.rfl
theorem V9 {c:Str} {ns:List Str} {ds:List Dt} {v:V}:Rp K H (.obj c ns ds) v↔∃ a C dx vs,v=.ref a∧PySem.W.nsIn K mainGlobals c=some (some (.ref C))∧Cls K C∧H a=some (.ins C dx (ns.zip vs))∧ns.length=ds.length∧RpL K H ds vs:=by rw [Rp]
theorem Dn {ds:List Dt} {v:V}:Rp K H (.tup ds) v↔∃ a xs,v=.ref a∧SqT K H a xs∧RpL K H ds xs:=by rw [Rp]
theorem Tc {ds:List Dt} {v:V}:Rp K H (.lst ds) v↔∃ a xs,v=.ref a∧LsD K H a xs∧RpL K H ds xs:=by rw [Rp]
theorem K8 {ds:List Dt} {v:V} (h:∃ a xs,v=.ref a∧H a=some (.lst xs)∧RpL K H ds xs):Rp K H (.lst ds) v:=let ⟨a,xs,e,h1,h2⟩:=h;Tc.mpr ⟨a,xs,e,.inl h1,h2⟩
theorem Gh {ds:List Dt} {v:V} (h:Rp K H (.lst ds) v):∃ a xs,v=.ref a∧SqL K H a xs∧RpL K H ds xs:=let ⟨a,xs,e,h1,h2⟩:=Tc.mp h;⟨a,xs,e,h1.sq,h2⟩
theorem Ace {ns:List Int} {a:Addr} (h:SqL K H a (ns.map V.int)) (r:RpL K H (ns.map Dt.int) (ns.map V.int)):Rp K H (.lst (ns.map Dt.int)) (.ref a):=Tc.mpr ⟨a,_,rfl,.inr ⟨h,fun x hx=>by obtain ⟨i,_,rfl⟩:=List.mem_map.mp hx;exact ⟨i,rfl⟩⟩,r⟩
theorem BR {vs:List V}:RpL K H [] vs↔vs=[]:=by rw [RpL]
theorem Aw {d:Dt} {ds:List Dt} {vs:List V}:RpL K H (d :: ds) vs↔∃ v r,vs=v :: r∧Rp K H d v∧RpL K H ds r:=by rw [RpL]
theorem RpL.nil:RpL K H [] []:=BR.mpr rfl
theorem RpL.cons {d:Dt} {ds:List Dt} {v:V} {vs:List V} (h:Rp K H d v) (r:RpL K H ds vs):RpL K H (d :: ds) (v :: vs):=Aw.mpr ⟨v,vs,rfl,h,r⟩
theorem RpL.len:∀ {ds:List Dt} {vs:List V},RpL K H ds vs→vs.length=ds.length
  | [],_,h=>by rw [BR.mp h];rfl
  | d :: ds,_,h=>by
    obtain ⟨v,r,rfl,_,p⟩:=Aw.mp h
    simp [RpL.len p]
theorem RpL.get:∀ {ds:List Dt} {vs:List V} {i:Nat} {d:Dt},RpL K H ds vs→ds[i]? = some d→∃ v,vs[i]? = some v∧Rp K H d v
  | [],_,_,_,_,e=>by simp at e
  | d :: ds,_,0,_,h,e=>by
    obtain ⟨v,r,rfl,q,p⟩:=Aw.mp h
    simp at e;subst e
    exact ⟨v,rfl,q⟩
  | d :: ds,_,i+1,_,h,e=>by
    obtain ⟨v,r,rfl,q,p⟩:=Aw.mp h
    obtain ⟨u,e1,e2⟩:=RpL.get (i:=i) p (by simpa using e)
    exact ⟨u,by simpa using e1,e2⟩
theorem RpL.get':∀ {ds:List Dt} {vs:List V} {i:Nat} {v:V},RpL K H ds vs→vs[i]? = some v→∃ d,ds[i]? = some d∧Rp K H d v
  | [],_,_,_,h,e=>by rw [BR.mp h] at e;simp at e
  | d :: ds,_,0,_,h,e=>by
    obtain ⟨v,r,rfl,q,p⟩:=Aw.mp h
    simp at e;subst e
    exact ⟨d,rfl,q⟩
  | d :: ds,_,i+1,_,h,e=>by
    obtain ⟨v,r,rfl,q,p⟩:=Aw.mp h
    obtain ⟨u,e1,e2⟩:=RpL.get' (i:=i) p (by simpa using e)
    exact ⟨u,by simpa using e1,e2⟩
theorem RpL.append:∀ {ds es:List Dt} {vs ws:List V},RpL K H ds vs→RpL K H es ws→RpL K H (ds ++ es) (vs ++ ws)
  | [],_,_,_,h,q=>by rw [BR.mp h];exact q
  | d :: ds,_,_,_,h,q=>by
    obtain ⟨v,r,rfl,a,p⟩:=Aw.mp h
    exact .cons a (RpL.append p q)
theorem RpL.drop:∀ {ds:List Dt} {vs:List V} (n:Nat),RpL K H ds vs→RpL K H (ds.drop n) (vs.drop n)
  | _,_,0,h=>by simpa using h
  | [],_,n+1,h=>by rw [BR.mp h];simpa using RpL.nil
  | d :: ds,_,n+1,h=>by
    obtain ⟨v,r,rfl,a,p⟩:=Aw.mp h
    simpa using RpL.drop n p
theorem RpL.take:∀ {ds:List Dt} {vs:List V} (n:Nat),RpL K H ds vs→RpL K H (ds.take n) (vs.take n)
  | _,_,0,h=>by simpa using RpL.nil
  | [],_,n+1,h=>by rw [BR.mp h];simpa using RpL.nil
  | d :: ds,_,n+1,h=>by
    obtain ⟨v,r,rfl,a,p⟩:=Aw.mp h
    simpa using RpL.cons a (RpL.take n p)
theorem RpL.ints:∀ (ns:List Int),RpL K H (ns.map Dt.int) (ns.map V.int)
  | []=>RpL.nil
  | _ :: ns=>RpL.cons (Bp.mpr rfl) (RpL.ints ns)
end
noncomputable def mask (O:List Addr) (H:Hp):Hp:=fun a=>if a∈O then none else H a
theorem Dj {O:List Addr} {H:Hp} {a:Addr} (h:a∈O):mask O H a=none:=if_pos h
theorem Bf {O:List Addr} {H:Hp} {a:Addr} (h:a∉O):mask O H a=H a:=if_neg h
theorem Cu {O:List Addr} {H:Hp} {a:Addr} {o:HO} (h:mask O H a=some o):a∉O∧H a=some o:=by
  by_cases q:a∈O
  · rw [Dj q] at h;cases h
  · rw [Bf q] at h;exact ⟨q,h⟩
theorem Bv {O:List Addr} {H:Hp}:Same (mask O H) H:=fun _ _ h=>(Cu h).2
theorem Same.mask {O:List Addr} {H H':Hp} (s:Same H H'):Same (mask O H) (L2.mask O H'):=fun a o h=>by
  obtain ⟨q,e⟩:=Cu h
  rw [Bf q];exact s a o e
theorem G7 {O O':List Addr} {H:Hp} (h:∀ a∈O',a∈O):Same (mask O H) (mask O' H):=fun a o e=>by
  obtain ⟨q,e⟩:=Cu e
  rw [Bf fun z=>q (h a z)];exact e
theorem Same.upd {H:Hp} {p:Addr} {o:HO} (h:H p=none):Same H (L2.upd H p o):=fun a u e=>by
  rw [Bg (BK e h)];exact e
inductive En where
  | is (d:Dt) | own (ds:List Dt)
noncomputable abbrev Ce:=List (Option En)
noncomputable abbrev DTE:=Ce→(Dt→Prop)→Prop
noncomputable abbrev DTT:=Ce→(Bool→Prop)→Prop
noncomputable abbrev DTA:=Ce→(List Dt→Prop)→Prop
structure G9 where
  nx:Ce→Prop
  rt:Dt→Prop
  bk:Ce→Prop:=fun _=>False
  ct:Ce→Prop:=fun _=>False
noncomputable abbrev DTS:=G9→Ce→Prop
structure Rep (K:PySem.W.Frag) (B:Hp) (F O:List Addr) (H:Hp) (σ:St) (ρ:Ce):Prop where
  len:σ.length=ρ.length
  base:Same B H
  fr:∀ a∈O,B a=none
  th:∀ a∈F ++ O,H a≠none
  is:∀ (i:Nat) (d:Dt),ρ[i]? = some (some (.is d))→∃ v,σ[i]? = some (some v)∧Rp K (mask (F ++ O) H) d v
  own:∀ (i:Nat) (ds:List Dt),ρ[i]? = some (some (.own ds))→∃ a xs,σ[i]? = some (some (.ref a))∧a∈O∧a∉F∧H a=some (.lst xs)∧RpL K (mask (F ++ O) H) ds xs
  inj:∀ (i j:Nat) (ds es:List Dt) (a:Addr),ρ[i]? = some (some (.own ds))→ρ[j]? = some (some (.own es))→σ[i]? = some (some (.ref a))→σ[j]? = some (some (.ref a))→i=j
section
variable {K:PySem.W.Frag} {B:Hp} {F O:List Addr} {H H':Hp} {σ:St} {ρ:Ce}
theorem Rep.same (r:Rep K B F O H σ ρ) (s:Same H H'):Rep K B F O H' σ ρ where
  len:=r.len
  base:=r.base.trans s
  fr:=r.fr
  th:=fun a h e=>by
    have:=r.th a h
    cases q:H a with
    | none=>exact this q
    | some o=>rw [s a o q] at e;cases e
  is:=fun i d e=>let ⟨v,h1,h2⟩:=r.is i d e;⟨v,h1,h2.mono s.mask⟩
  own:=fun i ds e=>let ⟨a,xs,h1,h2,h3,h4,h5⟩:=r.own i ds e;⟨a,xs,h1,h2,h3,s _ _ h4,h5.mono s.mask⟩
  inj:=r.inj
theorem Rep.below (r:Rep K B F O H σ ρ):Same (mask F B) (mask (F ++ O) H):=fun a o e=>by
  obtain ⟨q,e⟩:=Cu e
  rw [Bf]
  · exact r.base a o e
  · intro z
    rcases List.mem_append.mp z with z | z
    · exact q z
    · rw [r.fr a z] at e;cases e
theorem Rep.set (r:Rep K B F O H σ ρ) (i:Nat) {d:Dt} {v:V} (h:Rp K (mask (F ++ O) H) d v):Rep K B F O H (σ.set i (some v)) (ρ.set i (some (.is d))):=by
  have hl:=r.len
  have back:∀ (j:Nat) (ds:List Dt),(ρ.set i (some (.is d)))[j]? = some (some (.own ds))→j≠i∧ρ[j]? = some (some (.own ds)):=fun j ds e=>by
    by_cases hj:j=i
    · subst hj
      by_cases hk:j < ρ.length
      · rw [List.getElem?_set_self hk] at e;cases e
      · rw [List.getElem?_eq_none (by simpa using hk)] at e;cases e
    · rw [List.getElem?_set_ne (Ne.symm hj)] at e;exact ⟨hj,e⟩
  refine ⟨by simpa using hl,r.base,r.fr,r.th,fun j e q=>?_,fun j ds q=>?_,fun j k ds es a h1 h2 h3 h4=>?_⟩
  · by_cases hj:j=i
    · subst hj
      by_cases hk:j < ρ.length
      · rw [List.getElem?_set_self hk] at q
        cases q
        exact ⟨v,List.getElem?_set_self (by omega),h⟩
      · rw [List.getElem?_eq_none (by simpa using hk)] at q;cases q
    · rw [List.getElem?_set_ne (Ne.symm hj)] at q ⊢
      exact r.is j e q
  · obtain ⟨hj,q⟩:=back j ds q
    rw [List.getElem?_set_ne (Ne.symm hj)]
    exact r.own j ds q
  · obtain ⟨hj,q1⟩:=back j ds h1
    obtain ⟨hk,q2⟩:=back k es h2
    rw [List.getElem?_set_ne (Ne.symm hj)] at h3
    rw [List.getElem?_set_ne (Ne.symm hk)] at h4
    exact r.inj j k ds es a q1 q2 h3 h4
end
noncomputable def lE (K:PySem.W.Frag) (t:DTE):TE:=fun σ H Q=>∃ B F O ρ,Rep K B F O H σ ρ∧t ρ fun d=>∀ v H',Same H H'→Rp K (mask (F ++ O) H') d v→Q v H'
noncomputable def lT (K:PySem.W.Frag) (t:DTT):TT:=fun σ H Q=>∃ B F O ρ,Rep K B F O H σ ρ∧t ρ fun b=>∀ H',Same H H'→Q b H'
noncomputable def lA (K:PySem.W.Frag) (t:DTA):TA:=fun σ H Q=>∃ B F O ρ,Rep K B F O H σ ρ∧t ρ fun ds=>∀ vs H',Same H H'→RpL K (mask (F ++ O) H') ds vs→Q vs H'
noncomputable def lD (K:PySem.W.Frag) (B:Hp) (F:List Addr) (D:Ends):G9 where
  nx:=fun ρ'=>∀ O' σ' H',Rep K B F O' H' σ' ρ'→D.nx σ' H'
  rt:=fun d=>∀ v H',Same B H'→Rp K (mask F H') d v→D.rt v H'
  bk:=fun ρ'=>∀ O' σ' H',Rep K B F O' H' σ' ρ'→D.bk σ' H'
  ct:=fun ρ'=>∀ O' σ' H',Rep K B F O' H' σ' ρ'→D.ct σ' H'
noncomputable def lS (K:PySem.W.Frag) (t:DTS):TS:=fun D σ H=>∃ B F O ρ,Rep K B F O H σ ρ∧t (lD K B F D) ρ
structure G9.le (D D':G9):Prop where
  nx:∀ ρ,D.nx ρ→D'.nx ρ
  rt:∀ d,D.rt d→D'.rt d
  bk:∀ ρ,D.bk ρ→D'.bk ρ
  ct:∀ ρ,D.ct ρ→D'.ct ρ
structure DE (X:Cx) (e:Expr) (t:DTE):Prop where
  mono:∀ {ρ Q Q'},(∀ d,Q d→Q' d)→t ρ Q→t ρ Q'
  pe:PE X e (lE X.K t)
structure DT (X:Cx) (e:Expr) (t:DTT):Prop where
  mono:∀ {ρ Q Q'},(∀ d,Q d→Q' d)→t ρ Q→t ρ Q'
  pt:PT X e (lT X.K t)
structure DA (X:Cx) (es:List Expr) (t:DTA):Prop where
  mono:∀ {ρ Q Q'},(∀ d,Q d→Q' d)→t ρ Q→t ρ Q'
  pa:PA X es (lA X.K t)
structure DS (X:Cx) (st:Stmt) (t:DTS):Prop where
  mono:∀ {ρ D D'},G9.le D D'→t D ρ→t D' ρ
  ps:PS X st (lS X.K t)
structure DSs (X:Cx) (st:List Stmt) (t:DTS):Prop where
  mono:∀ {ρ D D'},G9.le D D'→t D ρ→t D' ρ
  ps:PSs X st (lS X.K t)
theorem PE.imp {X:Cx} {e:Expr} {t t':TE} (h:PE X e t) (i:∀ σ H Q,t' σ H Q→t σ H Q):PE X e t':=fun pins s σ H Q I q=>h pins s σ H Q I (i _ _ _ q)
theorem PT.imp {X:Cx} {e:Expr} {t t':TT} (h:PT X e t) (i:∀ σ H Q,t' σ H Q→t σ H Q):PT X e t':=fun pins s σ H Q I q=>h pins s σ H Q I (i _ _ _ q)
theorem PA.imp {X:Cx} {e:List Expr} {t t':TA} (h:PA X e t) (i:∀ σ H Q,t' σ H Q→t σ H Q):PA X e t':=fun pos pins s σ H Q I q=>h pos pins s σ H Q I (i _ _ _ q)
theorem PS.imp {X:Cx} {e:Stmt} {t t':TS} (h:PS X e t) (i:∀ D σ H,t' D σ H→t D σ H):PS X e t':=fun pins s σ H D I q=>h pins s σ H D I (i _ _ _ q)
theorem PSs.imp {X:Cx} {e:List Stmt} {t t':TS} (h:PSs X e t) (i:∀ D σ H,t' D σ H→t D σ H):PSs X e t':=fun pins s σ H D I q=>h pins s σ H D I (i _ _ _ q)
section
variable {X:Cx} {a b c e:Expr} {es:List Expr} {ta tb tc te:DTE} {tA tB:DTT} {tl:DTA} {pos:Pos}
noncomputable def AbE (i:Nat):DTE:=fun ρ Q=>match ρ[i]? with
  | some (some (.is d))=>Q d
  | _=>False
noncomputable def dC (d:Dt):DTE:=fun _ Q=>Q d
theorem dv (i:Nat) {x:Str} {pos:Pos} (hN:X.N[i]? = some x:=by rfl) (hv:Vis X.env.scope x:=by first | exact Or.inl rfl | exact Or.inr (Or.inl rfl) | exact Or.inr (Or.inr rfl)) (hd:(x == ("__debug__":Str))=false:=by decide)
    (hcd:(x == ("__classdict__":Str))=false:=by decide):DE X (.Name x pos) (AbE i) where
  mono:=fun {ρ Q Q'} hq h=>by
    unfold AbE at h ⊢
    split at h
    · exact hq _ h
    · exact h.elim
  pe:=(LC hN hv hd hcd).imp fun σ H Q ⟨B,F,O,ρ,r,h⟩=>by
    unfold AbE at h
    split at h
    · rename_i d e
      obtain ⟨v,h1,h2⟩:=r.is i d e
      exact ⟨v,h1,h v H (Same.refl H) h2⟩
    · exact h.elim
theorem Afd {v:V} {d:Dt} (h:PE X e (tC v)) (hr:∀ K H,Rp K H d v):DE X e (dC d) where
  mono:=fun hq h=>hq _ h
  pe:=h.imp fun σ H Q ⟨B,F,O,ρ,r,h⟩=>h v H (Same.refl H) (hr _ _)
theorem Ab {i j pos}:DE X (.Constant (.int i) j pos) (dC (.int i)):=Afd AeI fun _ _=>Bp.mpr rfl
theorem Jf {i j pos}:DE X (.Constant (.bool i) j pos) (dC (.bl i)):=Afd Agd fun _ _=>Ep.mpr rfl
theorem Kh {x j pos}:DE X (.Constant (.str x) j pos) (dC (.str x)):=Afd AdV fun _ _=>RJ.mpr rfl
theorem Sd {x:Str} {v:V} {u:Value} {d:Dt} {pos:Pos} (hg:Gl X x) (hm:X.mg x=some u) (r:RelV v u) (hr:∀ H,Rp X.K H d v) (hd:(x == ("__debug__":Str))=false:=by decide):DE X (.Name x pos) (dC d) where
  mono:=fun hq h=>hq _ h
  pe:=(Wo hg hm r hd).imp fun σ H Q ⟨B,F,O,ρ,_,h⟩=>h v H (Same.refl H) (hr _)
noncomputable abbrev D2:=Dt→Dt→(Dt→Prop)→Prop
structure Je (K:PySem.W.Frag) (r:R2) (t:D2):Prop where
  mono:∀ {a b Q Q'},(∀ d,Q d→Q' d)→t a b Q→t a b Q'
  ok:∀ (O:List Addr) (H:Hp) (a b:Dt) (x y:V) (Q:VK),(∀ p∈O,H p≠none)→Rp K (mask O H) a x→Rp K (mask O H) b y →
    t a b (fun d=>∀ v H',Same H H'→Rp K (mask O H') d v→Q v H')→r x y H Q
noncomputable def dOp (t:D2) (ta tb:DTE):DTE:=fun ρ Q=>ta ρ fun a=>tb ρ fun b=>t a b Q
theorem RL {K:PySem.W.Frag} {r:R2} {t:D2} (S:Je K r t) {ta tb:DTE} (ma:∀ {ρ Q Q'},(∀ d,Q d→Q' d)→ta ρ Q→ta ρ Q') (mb:∀ {ρ Q Q'},(∀ d,Q d→Q' d)→tb ρ Q→tb ρ Q')
    (σ:St) (H:Hp) (Q:VK) (h:lE K (dOp t ta tb) σ H Q):tOp r (lE K ta) (lE K tb) σ H Q:=by
  obtain ⟨B,F,O,ρ,R,h⟩:=h
  refine ⟨B,F,O,ρ,R,ma (fun a h v H1 s1 r1=>?_) h⟩
  refine ⟨B,F,O,ρ,R.same s1,mb (fun b h u H2 s2 r2=>?_) h⟩
  exact S.ok _ H2 a b v u Q ((R.same s1).same s2).th (r1.mono s2.mask) r2 (S.mono (fun d q w H3 s3 r3=>q w H3 ((s1.trans s2).trans s3) r3) h)
theorem Jo {t:D2} (m:∀ {a b Q Q'},(∀ d,Q d→Q' d)→t a b Q→t a b Q') (ma:∀ {ρ Q Q'},(∀ d,Q d→Q' d)→ta ρ Q→ta ρ Q') (mb:∀ {ρ Q Q'},(∀ d,Q d→Q' d)→tb ρ Q→tb ρ Q') :
    ∀ {ρ Q Q'},(∀ d,Q d→Q' d)→dOp t ta tb ρ Q→dOp t ta tb ρ Q':=fun hq h=>ma (fun _ h=>mb (fun _ h=>m hq h) h) h
theorem NK {op:Operator} {r:R2} {t:D2} (ho:OpR X (binaryOp op) r) (S:Je X.K r t) (ha:DE X a ta) (hb:DE X b tb):DE X (.BinOp a op b pos) (dOp t ta tb) where
  mono:=Jo (t:=t) (ta:=ta) (tb:=tb) S.mono ha.mono hb.mono
  pe:=(Ahr ho ha.pe hb.pe).imp (RL (ta:=ta) (tb:=tb) S ha.mono hb.mono)
theorem Vt {op:CmpOp} {r:R2} {t:D2} (ho:OpR X (compareOp op) r) (S:Je X.K r t) (ha:DE X a ta) (hb:DE X b tb) (hm:behindInMarks op b=false):DE X (.Compare a [op] [b] pos) (dOp t ta tb) where
  mono:=Jo (t:=t) (ta:=ta) (tb:=tb) S.mono ha.mono hb.mono
  pe:=(AaU ho ha.pe hb.pe hm).imp (RL (ta:=ta) (tb:=tb) S ha.mono hb.mono)
theorem Ah7 {r:R2} {t:D2} (ho:IxR X r) (S:Je X.K r t) (ha:DE X a ta) (hb:DE X b tb) (hs:Tj b):DE X (.Subscript a b pos) (dOp t ta tb) where
  mono:=Jo (t:=t) (ta:=ta) (tb:=tb) S.mono ha.mono hb.mono
  pe:=(AiR ho ha.pe hb.pe hs).imp (RL (ta:=ta) (tb:=tb) S ha.mono hb.mono)
noncomputable def dI (C:Int→Int→Prop) (g:Int→Int→Int):D2:=fun a b Q=>match a,b with
  | .int i,.int j=>C i j∧Q (.int (g i j))
  | _,_=>False
noncomputable def dI0 (g:Int→Int→Int):D2:=fun a b Q=>match a,b with
  | .int i,.int j=>Q (.int (g i j))
  | _,_=>False
noncomputable def dB0 (g:Int→Int→Bool):D2:=fun a b Q=>match a,b with
  | .int i,.int j=>Q (.bl (g i j))
  | _,_=>False
theorem Uk {K:PySem.W.Frag} {C:Int→Int→Prop} {g:Int→Int→Int}:Je K (rI C fun i j=>.int (g i j)) (dI C g) where
  mono:=fun {a b Q Q'} hq h=>by
    unfold dI at h ⊢
    split at h
    · exact ⟨h.1,hq _ h.2⟩
    · exact h.elim
  ok:=fun O H a b x y Q _ ra rb h=>by
    unfold dI at h
    split at h
    · exact ⟨_,_,Bp.mp ra,Bp.mp rb,h.1,h.2 _ H (Same.refl H) (Bp.mpr rfl)⟩
    · exact h.elim
theorem Y7 {K:PySem.W.Frag} {g:Int→Int→Int}:Je K (rI0 fun i j=>.int (g i j)) (dI0 g) where
  mono:=fun {a b Q Q'} hq h=>by
    unfold dI0 at h ⊢
    split at h
    · exact hq _ h
    · exact h.elim
  ok:=fun O H a b x y Q _ ra rb h=>by
    unfold dI0 at h
    split at h
    · exact ⟨_,_,Bp.mp ra,Bp.mp rb,h _ H (Same.refl H) (Bp.mpr rfl)⟩
    · exact h.elim
theorem Dc {K:PySem.W.Frag} {g:Int→Int→Bool}:Je K (rI0 fun i j=>.bl (g i j)) (dB0 g) where
  mono:=fun {a b Q Q'} hq h=>by
    unfold dB0 at h ⊢
    split at h
    · exact hq _ h
    · exact h.elim
  ok:=fun O H a b x y Q _ ra rb h=>by
    unfold dB0 at h
    split at h
    · exact ⟨_,_,Bp.mp ra,Bp.mp rb,h _ H (Same.refl H) (Ep.mpr rfl)⟩
    · exact h.elim
theorem AbP:OpR X (binaryOp .Mult) (rI IntMulOk fun i j=>.int (i*j)):=opI fun _ _ _ _ _ _ _ hc q=>mul_int q hc
noncomputable def CDv (_ j:Int):Prop:=j≠0∧j.natAbs < 2 ^ 9000
theorem log2_small {n:Nat} (h:n < 2 ^ 9000):n.log2 < 9000:=by
  by_cases h0:n=0
  · subst h0;decide +kernel
  · exact (Nat.log2_lt h0).mpr h
theorem Ys:OpR X (binaryOp .FloorDiv) (rI CDv fun i j=>.int (i.fdiv j)):=opI fun _ _ _ _ _ _ _ hc q=>floordiv_int hc.1 q (.inl (PyProof.noPylong_of_log2 (log2_small hc.2)))
noncomputable def AfB:D2:=dI0 fun i j=>i+j
noncomputable def Af5:D2:=dI0 fun i j=>i - j
noncomputable def Ai9:D2:=dI IntMulOk fun i j=>i*j
noncomputable def AfH:D2:=dI (fun _ j=>j≠0) fun i j=>i.fmod j
noncomputable def Ahn:D2:=dI CDv fun i j=>i.fdiv j
noncomputable def AgV:D2:=dI Vz fun i j=>i ^ j.toNat
noncomputable def Ai1:D2:=dI Vz fun i j=>i*2 ^ j.toNat
noncomputable def AjG:D2:=dI (fun _ j=>0≤j) fun i j=>i / 2 ^ j.toNat
theorem Bh (ha:DE X a ta) (hb:DE X b tb):DE X (.BinOp a .Add b pos) (dOp AfB ta tb):=NK AdY Y7 ha hb
theorem Bl (ha:DE X a ta) (hb:DE X b tb):DE X (.BinOp a .Sub b pos) (dOp Af5 ta tb):=NK Ad1 Y7 ha hb
theorem Ak (ha:DE X a ta) (hb:DE X b tb):DE X (.BinOp a .Mult b pos) (dOp Ai9 ta tb):=NK AbP Uk ha hb
theorem Dz (ha:DE X a ta) (hb:DE X b tb):DE X (.BinOp a .Mod b pos) (dOp AfH ta tb):=NK Acq Uk ha hb
theorem Bu (ha:DE X a ta) (hb:DE X b tb):DE X (.BinOp a .FloorDiv b pos) (dOp Ahn ta tb):=NK Ys Uk ha hb
theorem Vr (ha:DE X a ta) (hb:DE X b tb):DE X (.BinOp a .Pow b pos) (dOp AgV ta tb):=NK Afk Uk ha hb
theorem Aaf (ha:DE X a ta) (hb:DE X b tb):DE X (.BinOp a .LShift b pos) (dOp Ai1 ta tb):=NK Aeu Uk ha hb
noncomputable def dLt:D2:=dB0 fun i j=>decide (i < j)
noncomputable def dLe:D2:=dB0 fun i j=>decide (i≤j)
noncomputable def dGt:D2:=dB0 fun i j=>decide (j < i)
noncomputable def dGe:D2:=dB0 fun i j=>decide (j≤i)
theorem Ajd (ha:DE X a ta) (hb:DE X b tb):DE X (.Compare a [.GtE] [b] pos) (dOp dGe ta tb):=Vt AcR Dc ha hb (JB _)
noncomputable def ixL:Int→List Dt→Option Dt
  | .ofNat n,ds=>ds[n]?
  | .negSucc m,ds=>if m < ds.length then ds[ds.length - 1 - m]? else none
noncomputable def ixD (i:Int):Dt→Option Dt
  | .tup ds=>ixL i ds
  | .lst ds=>ixL i ds
  | _=>none
theorem Aak {i:Int} {ds:List Dt} {d:Dt} (h:ixL i ds=some d):atI ds i=some d:=by
  cases i with
  | ofNat n=>exact Ack h
  | negSucc m =>
    have h':(if m < ds.length then ds[ds.length - 1 - m]? else none)=some d:=h
    by_cases hm:m < ds.length
    · rw [if_pos hm] at h'
      unfold atI ixN
      have h1:¬ (0:Int)≤Int.negSucc m:=by omega
      have h2:-(ds.length:Int)≤Int.negSucc m:=by omega
      have h3:(Int.negSucc m+(ds.length:Int)).toNat=ds.length - 1 - m:=by omega
      rw [if_neg h1,if_pos h2,Option.bind_some,h3]
      exact h'
    · rw [if_neg hm] at h';cases h'
noncomputable def dIx:D2:=fun a b Q=>match b with
  | .int i=>match ixD i a with
    | some d=>Q d
    | none=>False
  | _=>False
theorem Zy {K:PySem.W.Frag} {H:Hp} {ds:List Dt} {xs:List V} {i:Int} {d:Dt} (r:RpL K H ds xs) (h:atI ds i=some d):∃ v,atI xs i=some v∧Rp K H d v:=by
  unfold atI at h ⊢
  rw [r.len]
  cases e:ixN ds.length i with
  | none=>rw [e] at h;cases h
  | some j =>
    rw [e] at h
    exact r.get h
theorem Afj {K:PySem.W.Frag}:Je K (rIx K) dIx where
  mono:=fun {a b Q Q'} hq h=>by
    unfold dIx at h ⊢
    split at h
    · split at h
      · rename_i e;exact hq _ h
      · exact h.elim
    · exact h.elim
  ok:=fun O H a b x y Q _ ra rb h=>by
    unfold dIx at h
    split at h
    · split at h
      · rename_i i _ d e
        have eb:=Bp.mp rb
        subst eb
        cases a with
        | tup ds =>
          obtain ⟨p,xs,rfl,hs,hl⟩:=Dn.mp ra
          obtain ⟨v,e1,e2⟩:=Zy hl (Aak e)
          exact .inr (.inl ⟨p,xs,i,v,rfl,rfl,Bv.seqT hs,e1,h v H (Same.refl H) e2⟩)
        | lst ds =>
          obtain ⟨p,xs,rfl,hs,hl⟩:=Gh ra
          obtain ⟨v,e1,e2⟩:=Zy hl (Aak e)
          exact .inl ⟨p,xs,i,v,rfl,rfl,Bv.seq hs,e1,h v H (Same.refl H) e2⟩
        | _=>cases e
      · exact h.elim
    · exact h.elim
theorem Ac (ha:DE X a ta) (hb:DE X b tb) (hs:Tj b:=by exact fun _ _=>rfl):DE X (.Subscript a b pos) (dOp dIx ta tb):=Ah7 Ad2 Afj ha hb hs
noncomputable def AcF:Dt→(Dt→Prop)→Prop:=fun a Q=>match a with
  | .int i=>Q (.int (-i))
  | _=>False
noncomputable def dUn (t:Dt→(Dt→Prop)→Prop) (ta:DTE):DTE:=fun ρ Q=>ta ρ fun a=>t a Q
theorem Il (ha:DE X a ta):DE X (.UnaryOp .USub a pos) (dUn AcF ta) where
  mono:=fun hq h=>ha.mono (fun d h=>by
    unfold AcF at h ⊢
    split at h
    · exact hq _ h
    · exact h.elim) h
  pe:=(Ait Ae9 ha.pe).imp fun σ H Q ⟨B,F,O,ρ,R,h⟩=>⟨B,F,O,ρ,R,ha.mono (fun d h v H1 s1 r1=>by
    unfold AcF at h
    split at h
    · exact ⟨_,Bp.mp r1,h _ H1 s1 (Bp.mpr rfl)⟩
    · exact h.elim) h⟩
noncomputable def Ai6 (ta:DTE):DTE:=fun ρ Q=>ta ρ fun a=>match a with
  | .bl k=>Q (.bl (!k))
  | _=>False
noncomputable def AhI (ta tb:DTE):DTE:=fun ρ Q=>ta ρ fun a=>match a with
  | .bl k=>if k=true then tb ρ Q else Q (.bl false)
  | _=>False
noncomputable def dOr (ta tb:DTE):DTE:=fun ρ Q=>ta ρ fun a=>match a with
  | .bl k=>if k=true then Q (.bl true) else tb ρ Q
  | _=>False
theorem Ad9 (ha:DE X a ta):DE X (.UnaryOp .Not a pos) (Ai6 ta) where
  mono:=fun hq h=>ha.mono (fun d h=>by
    split at h
    · exact hq _ h
    · exact h.elim) h
  pe:=(Aek ha.pe).imp fun σ H Q ⟨B,F,O,ρ,R,h⟩=>⟨B,F,O,ρ,R,ha.mono (fun d h v H1 s1 r1=>by
    split at h
    · exact ⟨_,Ep.mp r1,h _ H1 s1 (Ep.mpr rfl)⟩
    · exact h.elim) h⟩
theorem Oc {op} (h:DE X a ta):DE X (.BoolOp op [a] pos) ta:=⟨h.mono,Afr h.pe⟩
theorem SM {rest:List Expr} (ha:DE X a ta) (hb:DE X (.BoolOp .And (b :: rest) pos) tb):DE X (.BoolOp .And (a :: b :: rest) pos) (AhI ta tb) where
  mono:=fun hq h=>ha.mono (fun d h=>by
    split at h
    · split at h
      · rename_i e;simp only [e,if_true];exact hb.mono hq h
      · rename_i e;simp only [e];exact hq _ h
    · exact h.elim) h
  pe:=(Afs ha.pe hb.pe).imp fun σ H Q ⟨B,F,O,ρ,R,h⟩=>⟨B,F,O,ρ,R,ha.mono (fun d h v H1 s1 r1=>by
    split at h
    · rename_i k
      refine ⟨k,Ep.mp r1,?_⟩
      cases k with
      | true=>exact ⟨B,F,O,ρ,R.same s1,hb.mono (fun d q v H2 s2 r2=>q v H2 (s1.trans s2) r2) h⟩
      | false=>exact h _ H1 s1 (Ep.mpr rfl)
    · exact h.elim) h⟩
theorem AhS {rest:List Expr} (ha:DE X a ta) (hb:DE X (.BoolOp .Or (b :: rest) pos) tb):DE X (.BoolOp .Or (a :: b :: rest) pos) (dOr ta tb) where
  mono:=fun hq h=>ha.mono (fun d h=>by
    split at h
    · split at h
      · rename_i e;simp only [e,if_true];exact hq _ h
      · rename_i e;simp only [e];exact hb.mono hq h
    · exact h.elim) h
  pe:=(Ai2 ha.pe hb.pe).imp fun σ H Q ⟨B,F,O,ρ,R,h⟩=>⟨B,F,O,ρ,R,ha.mono (fun d h v H1 s1 r1=>by
    split at h
    · rename_i k
      refine ⟨k,Ep.mp r1,?_⟩
      cases k with
      | false=>exact ⟨B,F,O,ρ,R.same s1,hb.mono (fun d q v H2 s2 r2=>q v H2 (s1.trans s2) r2) h⟩
      | true=>exact h _ H1 s1 (Ep.mpr rfl)
    · exact h.elim) h⟩
noncomputable def Qg (t:DTE):DTT:=fun ρ Q=>t ρ fun a=>match a with
  | .bl k=>Q k
  | _=>False
theorem Q6 {t:DTE} (m:∀ {ρ Q Q'},(∀ d,Q d→Q' d)→t ρ Q→t ρ Q'):∀ {ρ Q Q'},(∀ d,Q d→Q' d)→Qg t ρ Q→Qg t ρ Q':=fun hq h=>m (fun d h=>by
    split at h
    · exact hq _ h
    · exact h.elim) h
theorem Fb (h:DE X e te) (he:∀ whole,isTrue e X.env whole=(do let v ←whole;standAt e.pos;holding [v] (truthy v)):=by intro _;rfl):DT X e (Qg te) where
  mono:=Q6 (t:=te) h.mono
  pt:=(Afn h.pe he).imp fun σ H Q ⟨B,F,O,ρ,R,q⟩=>⟨B,F,O,ρ,R,h.mono (fun d q v H1 s1 r1=>by
    split at q
    · exact ⟨_,Ep.mp r1,q H1 s1⟩
    · exact q.elim) q⟩
theorem N7 {op:CmpOp} {r:R2} {t:D2} (ho:OpR X (compareOp op) r) (S:Je X.K r t) (ha:DE X a ta) (hb:DE X b tb) (hm:behindInMarks op b=false):DT X (.Compare a [op] [b] pos) (Qg (dOp t ta tb)) where
  mono:=Q6 (t:=dOp t ta tb) (Jo (t:=t) (ta:=ta) (tb:=tb) S.mono ha.mono hb.mono)
  pt:=(AaZ ho ha.pe hb.pe hm).imp fun σ H Q ⟨B,F,O,ρ,R,q⟩=>RL (ta:=ta) (tb:=tb) S ha.mono hb.mono σ H _ ⟨B,F,O,ρ,R,Jo (t:=t) (ta:=ta) (tb:=tb) S.mono ha.mono hb.mono (fun d q v H1 s1 r1=>by
    split at q
    · exact ⟨_,Ep.mp r1,q H1 s1⟩
    · exact q.elim) q⟩
theorem Jx (ha:DE X a ta) (hb:DE X b tb):DT X (.Compare a [.Lt] [b] pos) (Qg (dOp dLt ta tb)):=N7 O6 Dc ha hb (JB _)
theorem QG (ha:DE X a ta) (hb:DE X b tb):DT X (.Compare a [.Gt] [b] pos) (Qg (dOp dGt ta tb)):=N7 AgF Dc ha hb (JB _)
theorem Air (ha:DE X a ta) (hb:DE X b tb):DT X (.Compare a [.GtE] [b] pos) (Qg (dOp dGe ta tb)):=N7 AcR Dc ha hb (JB _)
noncomputable def Ac1 (t:DTT):DTT:=fun ρ Q=>t ρ fun k=>Q (!k)
noncomputable def Adw (t u:DTT):DTT:=fun ρ Q=>t ρ fun k=>if k=true then u ρ Q else Q false
noncomputable def Agw (t u:DTT):DTT:=fun ρ Q=>t ρ fun k=>if k=true then Q true else u ρ Q
theorem FN (ha:DT X a tA):DT X (.UnaryOp .Not a pos) (Ac1 tA) where
  mono:=fun hq h=>ha.mono (fun _ h=>hq _ h) h
  pt:=(AeG ha.pt).imp fun σ H Q ⟨B,F,O,ρ,R,q⟩=>⟨B,F,O,ρ,R,q⟩
structure DW (X:Cx) (e:Expr) (t:DTT):Prop where
  mono:∀ {ρ Q Q'},(∀ d,Q d→Q' d)→t ρ Q→t ρ Q'
  pw:PW X e (lT X.K t)
theorem DW.dt {t:DTT} (h:DW X e t):DT X e t:=⟨h.mono,h.pw.pt⟩
theorem Nt (ha:DT X a tA):DW X (.BoolOp .And [a] pos) tA:=⟨ha.mono,AbQ ha.pt⟩
theorem Jl (ha:DT X a tA):DW X (.BoolOp .Or [a] pos) tA:=⟨ha.mono,AeS ha.pt⟩
theorem PW.imp {t t':TT} (h:PW X e t) (i:∀ σ H Q,t' σ H Q→t σ H Q):PW X e t':=fun wh pins s σ H Q I q=>h wh pins s σ H Q I (i _ _ _ q)
theorem Rr {rest:List Expr} (ha:DT X a tA) (hb:DW X (.BoolOp .And (b :: rest) pos) tB):DW X (.BoolOp .And (a :: b :: rest) pos) (Adw tA tB) where
  mono:=fun hq h=>ha.mono (fun k h=>by
    cases k with
    | true=>exact hb.mono hq h
    | false=>exact hq _ h) h
  pw:=(AeY ha.pt hb.pw).imp fun σ H Q ⟨B,F,O,ρ,R,q⟩=>⟨B,F,O,ρ,R,ha.mono (fun k h H1 s1=>by
    cases k with
    | true=>exact ⟨B,F,O,ρ,R.same s1,hb.mono (fun k q H2 s2=>q H2 (s1.trans s2)) h⟩
    | false=>exact h H1 s1) q⟩
theorem Jc {rest:List Expr} (ha:DT X a tA) (hb:DW X (.BoolOp .Or (b :: rest) pos) tB):DW X (.BoolOp .Or (a :: b :: rest) pos) (Agw tA tB) where
  mono:=fun hq h=>ha.mono (fun k h=>by
    cases k with
    | true=>exact hq _ h
    | false=>exact hb.mono hq h) h
  pw:=(AiF ha.pt hb.pw).imp fun σ H Q ⟨B,F,O,ρ,R,q⟩=>⟨B,F,O,ρ,R,ha.mono (fun k h H1 s1=>by
    cases k with
    | false=>exact ⟨B,F,O,ρ,R.same s1,hb.mono (fun k q H2 s2=>q H2 (s1.trans s2)) h⟩
    | true=>exact h H1 s1) q⟩
noncomputable def AkV (t:DTT) (ta tb:DTE):DTE:=fun ρ Q=>t ρ fun k=>if k=true then ta ρ Q else tb ρ Q
noncomputable def Aa8:DTA:=fun _ Q=>Q []
noncomputable def AdE (te:DTE) (tl:DTA):DTA:=fun ρ Q=>te ρ fun d=>tl ρ fun ds=>Q (d :: ds)
theorem Ae:DA X [] Aa8:=⟨fun hq h=>hq _ h,V0.imp fun σ H Q ⟨B,F,O,ρ,R,q⟩=>q [] H (Same.refl H) RpL.nil⟩
theorem Aa (ha:DE X e te) (hr:DA X es tl) (hs:starEach (e :: es) X.env=(false,eval e X.env) :: starEach es X.env:=by rfl):DA X (e :: es) (AdE te tl) where
  mono:=fun hq h=>ha.mono (fun d h=>hr.mono (fun ds h=>hq _ h) h) h
  pa:=(Ld ha.pe hr.pa hs).imp fun σ H Q ⟨B,F,O,ρ,R,q⟩=>⟨B,F,O,ρ,R,ha.mono (fun d h v H1 s1 r1=>⟨B,F,O,ρ,R.same s1,hr.mono (fun ds h vs H2 s2 r2 =>
    h (v :: vs) H2 (s1.trans s2) (RpL.cons (r1.mono s2.mask) r2)) h⟩) q⟩
noncomputable def dTup (tl:DTA):DTE:=fun ρ Q=>tl ρ fun ds=>ds.length≤sizeLine∧Q (.tup ds)
noncomputable def AgQ (tl:DTA):DTE:=fun ρ Q=>tl ρ fun ds=>ds.length≤sizeLine∧Q (.lst ds)
theorem Lb {O:List Addr} {H:Hp} {p:Addr} {o:HO} (hp:p∉O):mask O (upd H p o) p=some o:=by rw [Bf hp,BP]
theorem Ba {k} (h:DA X es tl):DE X (.Tuple es k pos) (dTup tl) where
  mono:=fun hq z=>h.mono (fun ds q=>⟨q.1,hq _ q.2⟩) z
  pe:=(Ae8 h.pa).imp fun σ H Q ⟨B,F,O,ρ,R,q⟩=>⟨B,F,O,ρ,R,h.mono (fun ds z vs H1 s1 r1=>⟨by rw [r1.len];exact z.1,fun p hp=>by
    have np:p∉F ++ O:=fun m=>(R.same s1).th p m hp
    exact z.2 (.ref p) _ (s1.trans (Same.upd hp)) (Dn.mpr ⟨p,vs,rfl,SqT.of (Lb np),r1.mono (Same.upd hp).mask⟩)⟩) q⟩
theorem G8 (h:DA X es tl):DE X (.List es pos) (AgQ tl) where
  mono:=fun hq z=>h.mono (fun ds q=>⟨q.1,hq _ q.2⟩) z
  pe:=(Zt h.pa).imp fun σ H Q ⟨B,F,O,ρ,R,q⟩=>⟨B,F,O,ρ,R,h.mono (fun ds z vs H1 s1 r1=>⟨by rw [r1.len];exact z.1,fun p hp=>by
    have np:p∉F ++ O:=fun m=>(R.same s1).th p m hp
    exact z.2 (.ref p) _ (s1.trans (Same.upd hp)) (K8 ⟨p,vs,rfl,(Lb np),r1.mono (Same.upd hp).mask⟩)⟩) q⟩
noncomputable abbrev DSp:=List Dt→(Dt→Prop)→Prop
noncomputable def lSp (K:PySem.W.Frag) (sp:DSp):Sp:=fun vs H Q _=>∃ F ds,(∀ a∈F,H a≠none)∧RpL K (mask F H) ds vs∧sp ds fun d=>∀ v H',Same H H'→Rp K (mask F H') d v→Q v H'
noncomputable def Hv (sp:DSp):Prop:=∀ ds Q Q',(∀ d,Q d→Q' d)→sp ds Q→sp ds Q'
noncomputable def dCall (sp:DSp) (tl:DTA):DTE:=fun ρ Q=>tl ρ fun ds=>sp ds Q
theorem AcM {CX:CXT} {k:Nat} {f:Addr} {fd:FuncData} {ps:List Str} {sp:DSp} {x:Str} {p:Pos} (m:Hv sp) (G:Hl X.prog X.w X.K X.mg X.base CX0 k f fd ps (lSp X.K sp)) (hr:Es k X.A) (hg:Gl X x) (hm:X.mg x=some (.ref f))
    (hk:PySem.W.keepIn X.K (.ref f)=true) (hb:Binds X.K fd ps []) (ha:DA X (e :: es) tl) (hdb:(x == ("__debug__":Str))=false:=by decide)
    (he:starEach (e :: es) X.env=(false,eval e X.env) :: starEach es X.env:=by rfl) (hpl:(backTo pos (starEach es X.env)).any (·.1)=false:=by rfl):DE X (.Call (.Name x p) (e :: es) [] pos) (dCall sp tl) where
  mono:=fun hq z=>ha.mono (fun ds q=>m _ _ _ hq q) z
  pe:=(Ab0 G hr hg hm hk hb .nil WY ha.pa hdb he hpl).imp fun σ H Q ⟨B,F,O,ρ,R,q⟩=>⟨B,F,O,ρ,R,ha.mono (fun ds z vs H1 s1 r1=>by
    show lSp X.K sp (vs ++ []) H1 Q E0
    rw [List.append_nil]
    exact ⟨F ++ O,ds,(R.same s1).th,r1,m _ _ _ (fun d q v H2 s2 r2=>q v H2 (s1.trans s2) r2) z⟩) q⟩
variable {st:Stmt} {sts:List Stmt} {t u:DTS}
noncomputable def AcS:DTS:=fun D ρ=>D.nx ρ
noncomputable def AhJ (t u:DTS):DTS:=fun D ρ=>t { D with nx:=u D } ρ
theorem Ag0 {D D':G9} {P P':Ce→Prop} (h:G9.le D D') (hp:∀ ρ,P ρ→P' ρ):G9.le { D with nx:=P } { D' with nx:=P' }:=⟨hp,h.rt,h.bk,h.ct⟩
theorem le_refl {D:G9}:G9.le D D:=⟨fun _ h=>h,fun _ h=>h,fun _ h=>h,fun _ h=>h⟩
theorem Bd:DSs X [] AcS:=⟨fun hd h=>hd.nx _ h,AbF.imp fun D σ H ⟨B,F,O,ρ,R,h⟩=>h O σ H R⟩
theorem Ad (h1:DS X st t) (h2:DSs X sts u):DSs X (st :: sts) (AhJ t u) where
  mono:=fun hd h=>h1.mono (Ag0 hd fun ρ q=>h2.mono hd q) h
  ps:=(Ov h1.ps h2.ps).imp fun D σ H ⟨B,F,O,ρ,R,h⟩=>⟨B,F,O,ρ,R,h1.mono (D:={ lD X.K B F D with nx:=u (lD X.K B F D) }) ⟨fun ρ' q O' σ' H' R'=>⟨B,F,O',ρ',R',q⟩,fun _ q=>q,fun _ q=>q,fun _ q=>q⟩ h⟩
theorem Ah (h1:DS X st t):DSs X [st] t:=⟨h1.mono,R6 h1.ps⟩
noncomputable def Z1:DTS:=fun _ _=>False
theorem G5:DS X st Z1:=⟨fun _ h=>h.elim,AaG.imp fun D σ H ⟨B,F,O,ρ,R,h⟩=>h.elim⟩
noncomputable def AdI (te:DTE):DTS:=fun D ρ=>te ρ fun _=>D.nx ρ
theorem Gj (he:DE X e te) (hs:swapsWith e none pos.line X.env=pure false:=by rfl):DS X (.Expr e pos) (AdI te) where
  mono:=fun hd h=>he.mono (fun _ h=>hd.nx _ h) h
  ps:=(Sy he.pe hs).imp fun D σ H ⟨B,F,O,ρ,R,h⟩=>⟨B,F,O,ρ,R,he.mono (fun d q v H1 s1 _=>q O σ H1 (R.same s1)) h⟩
noncomputable def AfO (te:DTE):DTS:=fun D ρ=>te ρ D.rt
theorem YH {F O:List Addr} {H:Hp}:Same (mask (F ++ O) H) (mask F H):=G7 fun _ h=>List.mem_append_left _ h
theorem Aq (he:DE X e te):DS X (.Return (some e) pos) (AfO te) where
  mono:=fun hd h=>he.mono (fun _ h=>hd.rt _ h) h
  ps:=(Aen he.pe).imp fun D σ H ⟨B,F,O,ρ,R,h⟩=>⟨B,F,O,ρ,R,he.mono (fun d q v H1 s1 r1=>q v H1 (R.base.trans s1) (r1.mono YH)) h⟩
noncomputable def Ain:DTS:=fun D _=>D.rt .non
noncomputable def dIf (c:DTT) (t u:DTS):DTS:=fun D ρ=>c ρ fun k=>if k=true then t D ρ else u D ρ
theorem Ca {sa sb:List Stmt} (hc:DT X c tA) (ha:DSs X sa t) (hb:DSs X sb u):DS X (.If c sa sb pos) (dIf tA t u) where
  mono:=fun hd h=>hc.mono (fun k h=>by
    cases k with
    | true=>exact ha.mono hd h
    | false=>exact hb.mono hd h) h
  ps:=(AfK hc.pt ha.ps hb.ps).imp fun D σ H ⟨B,F,O,ρ,R,h⟩=>⟨B,F,O,ρ,R,hc.mono (fun k h H1 s1=>by
    cases k with
    | true=>exact ⟨B,F,O,ρ,R.same s1,h⟩
    | false=>exact ⟨B,F,O,ρ,R.same s1,h⟩) h⟩
noncomputable abbrev DTG:=Dt→Ce→(Ce→Prop)→Prop
noncomputable abbrev PX:=List Dt→Ce→(Ce→Prop)→Prop
noncomputable def lG (K:PySem.W.Frag) (g:DTG):TG:=fun v σ H Q=>∃ B F O ρ d,Rep K B F O H σ ρ∧Rp K (mask (F ++ O) H) d v∧g d ρ fun ρ'=>∀ σ',Rep K B F O H σ' ρ'→Q σ' H
noncomputable def lGs (K:PySem.W.Frag) (g:PX):TGs:=fun vs σ H Q=>∃ B F O ρ ds,Rep K B F O H σ ρ∧RpL K (mask (F ++ O) H) ds vs∧g ds ρ fun ρ'=>∀ σ',Rep K B F O H σ' ρ'→Q σ' H
structure DG (X:Cx) (tg:Expr) (g:DTG):Prop where
  mono:∀ {d ρ Q Q'},(∀ ρ',Q ρ'→Q' ρ')→g d ρ Q→g d ρ Q'
  pg:PG X tg (lG X.K g)
structure DGs (X:Cx) (tgs:List Expr) (g:PX):Prop where
  mono:∀ {d ρ Q Q'},(∀ ρ',Q ρ'→Q' ρ')→g d ρ Q→g d ρ Q'
  pg:PGs X tgs (lGs X.K g)
theorem PG.imp {e:Expr} {t t':TG} (h:PG X e t) (i:∀ v σ H Q,t' v σ H Q→t v σ H Q):PG X e t':=fun pins s σ H v u Q I r q=>h pins s σ H v u Q I r (i _ _ _ _ q)
theorem PGs.imp {e:List Expr} {t t':TGs} (h:PGs X e t) (i:∀ v σ H Q,t' v σ H Q→t v σ H Q):PGs X e t':=fun pins s σ H v u Q I r q=>h pins s σ H v u Q I r (i _ _ _ _ q)
noncomputable def Ve (i:Nat):DTG:=fun d ρ Q=>Q (ρ.set i (some (.is d)))
theorem Bc (i:Nat) {x:Str} (hN:X.N.Nodup) (hi:X.N[i]? = some x:=by rfl) (hx:Loc X.env.scope x:=by first | exact Or.inl rfl | exact Or.inr rfl)
    (hf:X.fn x=true∨X.env.scope.names.lookup x=some .local:=by first | exact .inl rfl | exact .inr rfl | assumption):DG X (.Name x pos) (Ve i) where
  mono:=fun hq h=>hq _ h
  pg:=(RG hN hi hx hf).imp fun v σ H Q ⟨B,F,O,ρ,d,R,r,h⟩=>h _ (R.set i r)
noncomputable def W6:PX:=fun ds ρ Q=>match ds with
  | []=>Q ρ
  | _=>False
noncomputable def RZ (g:DTG) (gs:PX):PX:=fun ds ρ Q=>match ds with
  | d :: r=>g d ρ fun ρ'=>gs r ρ' Q
  | []=>False
theorem Ez:DGs X [] W6 where
  mono:=fun hq h=>by
    unfold W6 at h ⊢
    split at h
    · exact hq _ h
    · exact h.elim
  pg:=Acb.imp fun vs σ H Q ⟨B,F,O,ρ,ds,R,r,h⟩=>by
    unfold W6 at h
    split at h
    · exact ⟨BR.mp r,h σ R⟩
    · exact h.elim
theorem Az {g:DTG} {gs:PX} (h1:DG X e g) (h2:DGs X es gs) (hs:(assignEach (e :: es) X.env).map (·.2)=assign e X.env :: (assignEach es X.env).map (·.2):=by rfl):DGs X (e :: es) (RZ g gs) where
  mono:=fun hq h=>by
    unfold RZ at h ⊢
    split at h
    · exact h1.mono (fun ρ' q=>h2.mono hq q) h
    · exact h.elim
  pg:=(Aap h1.pg h2.pg hs).imp fun vs σ H Q ⟨B,F,O,ρ,ds,R,r,h⟩=>by
    unfold RZ at h
    split at h
    · obtain ⟨v,vr,rfl,r1,r2⟩:=Aw.mp r
      exact ⟨v,vr,rfl,B,F,O,ρ,_,R,r1,h1.mono (fun ρ' q σ' R'=>⟨B,F,O,ρ',_,R',r2,q⟩) h⟩
    · exact h.elim
noncomputable def Xa (n:Nat) (gs:PX):DTG:=fun d ρ Q=>match d with
  | .tup ds=>ds.length=n∧gs ds ρ Q
  | _=>False
theorem IW {k:Nat} {gs:PX} {n:Nat} (hc:X.calm=true) (h:DGs X es gs) (hn:(assignEach es X.env).length=n:=by rfl) (hst:(assignEach es X.env).findIdx? (·.1)=none:=by rfl):DG X (.Tuple es k pos) (Xa n gs) where
  mono:=fun hq z=>by
    unfold Xa at z ⊢
    split at z
    · exact ⟨z.1,h.mono hq z.2⟩
    · exact z.elim
  pg:=(Aet hc h.pg hn hst).imp fun v σ H Q ⟨B,F,O,ρ,d,R,r,z⟩=>by
    unfold Xa at z
    split at z
    · obtain ⟨a,xs,rfl,hs,hl⟩:=Dn.mp r
      exact ⟨a,xs,rfl,Bv.seqT hs,by rw [hl.len];exact z.1,B,F,O,ρ,_,R,hl,z.2⟩
    · exact z.elim
noncomputable def Aea (te:DTE) (g:DTG):DTS:=fun D ρ=>te ρ fun d=>g d ρ D.nx
theorem Hy {tg:Expr} {g:DTG} (he:DE X e te) (hg:DG X tg g) (hs:swapsWithSole [tg] e pos.line X.env=pure false:=by rfl) (hw:swappedStores [tg] e X.env=pure none:=by rfl)
    (h1:(assignEach [tg] X.env).map (·.2)=[assign tg X.env]:=by rfl):DS X (.Assign [tg] e pos) (Aea te g) where
  mono:=fun hd h=>he.mono (fun _ h=>hg.mono (fun _ h=>hd.nx _ h) h) h
  ps:=(Afy he.pe hg.pg hs hw h1).imp fun D σ H ⟨B,F,O,ρ,R,h⟩=>⟨B,F,O,ρ,R,he.mono (fun d q v H1 s1 r1=>⟨B,F,O,ρ,d,R.same s1,r1,hg.mono (fun ρ' q σ' R'=>q O σ' H1 R') q⟩) h⟩
noncomputable def Yz (c:DTT) (tb:DTS):DTS:=fun D ρ=>∃ W:Nat→Ce→Prop,(∃ m,W m ρ)∧∀ m ρ,W m ρ →
  c ρ fun k=>if k=true then tb { D with nx:=fun ρ'=>∃ m',m' < m∧W m' ρ',ct:=fun ρ'=>∃ m',m' < m∧W m' ρ',bk:=D.nx } ρ else D.nx ρ
theorem DK {body:List Stmt} (hp:PassesOwn (model X.prog X.w) X.A X.env X.xe) (hc:DT X c tA) (hb:DSs X body t):DS X (.While c body [] pos) (Yz tA t) where
  mono:=fun {ρ D D'} hd ⟨W,h0,h⟩=>⟨W,h0,fun m ρ w=>hc.mono (fun k h=>by
    cases k with
    | true=>exact hb.mono (D:={ D with nx:=fun ρ'=>∃ m',m' < m∧W m' ρ',ct:=fun ρ'=>∃ m',m' < m∧W m' ρ',bk:=D.nx }) ⟨fun _ q=>q,hd.rt,hd.nx,fun _ q=>q⟩ h
    | false=>exact hd.nx _ h) (h m ρ w)⟩
  ps:=(Za hp hc.pt hb.ps).imp fun D σ H ⟨B,F,O,ρ,R,W,⟨m0,w0⟩,h⟩=>by
    refine ⟨fun m σ H=>∃ O ρ,Rep X.K B F O H σ ρ∧W m ρ,⟨m0,O,ρ,R,w0⟩,?_⟩
    rintro m σ H ⟨O,ρ,R,w⟩
    refine ⟨B,F,O,ρ,R,hc.mono (fun k h H1 s1=>?_) (h m ρ w)⟩
    cases k with
    | true =>
      refine ⟨fun σ' H'=>∃ m',m' < m∧∃ O ρ,Rep X.K B F O H' σ' ρ∧W m' ρ,fun σ' H' ⟨m',l,q⟩=>⟨m',l,q⟩,B,F,O,ρ,R.same s1,hb.mono (D:={ lD X.K B F D with nx:=fun ρ'=>∃ m',m' < m∧W m' ρ',ct:=fun ρ'=>∃ m',m' < m∧W m' ρ',bk:=(lD X.K B F D).nx }) ⟨?_,fun _ q=>q,fun _ q=>q,?_⟩ h⟩
      · rintro ρ' ⟨m',l,w'⟩ O' σ' H' R'
        exact ⟨m',l,O',ρ',R',w'⟩
      · rintro ρ' ⟨m',l,w'⟩ O' σ' H' R'
        exact ⟨m',l,O',ρ',R',w'⟩
    | false=>exact h O σ H1 (R.same s1)
noncomputable def ItD (K:PySem.W.Frag) (M:Hp) (J:It) (items:List Dt):Prop:=∀ H,Same M H →
  (∀ (k:Nat) d,items[k]? = some d→J.go k H∧∀ x H',J.yld k H x H'→H'=H∧Rp K M d x)∧J.stop items.length H
noncomputable abbrev DTI:=Ce→(List Dt→Prop)→Prop
noncomputable def lI (K:PySem.W.Frag) (ti:DTI):TI:=fun σ H R=>∃ B F O ρ,Rep K B F O H σ ρ∧ti ρ fun items=>∀ J H',Same H H'→ItD K (mask (F ++ O) H') J items→R J H'
structure DI (X:Cx) (tg iter:Expr) (ti:DTI):Prop where
  mono:∀ {ρ Q Q'},(∀ d,Q d→Q' d)→ti ρ Q→ti ρ Q'
  pi:PI X tg iter (lI X.K ti)
theorem PI.imp {tg e:Expr} {t t':TI} (h:PI X tg e t) (i:∀ σ H Q,t' σ H Q→t σ H Q):PI X tg e t':=fun pins s σ H R I q=>h pins s σ H R I (i _ _ _ q)
noncomputable def Ahz (ti:DTI) (g:DTG) (tb:DTS):DTS:=fun D ρ=>ti ρ fun items=>∃ W:Nat→Ce→Prop,W 0 ρ ∧
  (∀ (k:Nat) d ρ',items[k]? = some d→W k ρ'→g d ρ' fun ρ2=>tb { D with nx:=W (k+1),ct:=W (k+1),bk:=D.nx } ρ2)∧∀ ρ',W items.length ρ'→D.nx ρ'
theorem Rep.rebase {K:PySem.W.Frag} {B:Hp} {F O:List Addr} {H:Hp} {σ:St} {ρ:Ce} (r:Rep K B F O H σ ρ):Rep K (mask O H) F O H σ ρ :=
  ⟨r.len,Bv,fun _ h=>Dj h,r.th,r.is,r.own,r.inj⟩
theorem Rep.unbase {K:PySem.W.Frag} {B B':Hp} {F O O':List Addr} {H H':Hp} {σ σ':St} {ρ ρ':Ce} (r:Rep K B F O H σ ρ) (r':Rep K (mask O H) F O' H' σ' ρ'):Rep K B F O' H' σ' ρ':=by
  have s:Same B (mask O H):=fun a o e=>by
    rw [Bf]
    · exact r.base a o e
    · intro z;rw [r.fr a z] at e;cases e
  refine ⟨r'.len,s.trans r'.base,fun a h=>?_,r'.th,r'.is,r'.own,r'.inj⟩
  cases q:B a with
  | none=>rfl
  | some o=>have:=s a o q;rw [r'.fr a h] at this;cases this
theorem Rep.sub {K:PySem.W.Frag} {B:Hp} {F O:List Addr} {H:Hp} {σ:St} {ρ:Ce} (r:Rep K B F O H σ ρ):Same B (mask O H):=fun a o e=>by
  rw [Bf]
  · exact r.base a o e
  · intro z;rw [r.fr a z] at e;cases e
theorem Xv {F O:List Addr} {H:Hp}:mask F (mask O H)=mask (F ++ O) H:=by
  funext a
  by_cases h1:a∈F
  · rw [Dj h1,Dj (List.mem_append_left _ h1)]
  · rw [Bf h1]
    by_cases h2:a∈O
    · rw [Dj h2,Dj (List.mem_append_right _ h2)]
    · rw [Bf h2,Bf fun z=>(List.mem_append.mp z).elim h1 h2]
theorem Og {tg iter:Expr} {body:List Stmt} {ti:DTI} {g:DTG} (hp:PassesOwn (model X.prog X.w) X.A X.env X.xe) (hc:X.calm=true) (hi:DI X tg iter ti) (hg:DG X tg g) (hb:DSs X body t)
    (hs:∀ x,foldedSetIterable iter X.env x=pure x:=by intro _;rfl):DS X (.For tg iter body [] pos) (Ahz ti g t) where
  mono:=fun {ρ D D'} hd h=>hi.mono (fun items ⟨W,h0,h,he⟩=>⟨W,h0,fun k d ρ' e w=>hg.mono (fun ρ2 q=>hb.mono (D:={ D with nx:=W (k+1),ct:=W (k+1),bk:=D.nx }) ⟨fun _ q=>q,hd.rt,hd.nx,fun _ q=>q⟩ q) (h k d ρ' e w),fun ρ' w=>hd.nx _ (he ρ' w)⟩) h
  ps:=(Afw hp hc hi.pi hg.pg hb.ps hs).imp fun D σ H ⟨B,F,O,ρ,R,h⟩=>by
    refine ⟨B,F,O,ρ,R,hi.mono (fun items z J H1 s1 it=>?_) h⟩
    obtain ⟨W,h0,h,he⟩:=z
    have R1:=R.same s1
    refine ⟨fun i m σ H=>m+i=items.length∧∃ O' ρ',Rep X.K (mask O H1) F O' H σ ρ'∧W i ρ',⟨items.length,by omega,O,ρ,R1.rebase,h0⟩,?_⟩
    rintro i m σ2 H2 ⟨hm,O',ρ',R2,w⟩
    have sb:Same (mask (F ++ O) H1) H2:=fun a o e=>R2.base a o (by
      obtain ⟨q,e⟩:=Cu e
      rw [Bf fun z=>q (List.mem_append_right _ z)];exact e)
    obtain ⟨go,stop⟩:=it H2 sb
    by_cases hlt:i < items.length
    · refine .inr ⟨(go i items[i] (by simp [hlt])).1,fun σ' H'=>∃ O' ρ',Rep X.K (mask O H1) F O' H' σ' ρ'∧W (i+1) ρ',fun σ' H' q=>⟨m - 1,by omega,by omega,q⟩,fun x H3 y=>?_⟩
      obtain ⟨e,r⟩:=(go i items[i] (by simp [hlt])).2 x H3 y
      subst e
      have r':Rp X.K (mask (F ++ O') H3) items[i] x:=r.mono (by rw [←Xv];exact R2.below)
      refine ⟨_,F,O',ρ',_,R2,r',hg.mono (fun ρ2 q σ3 R3=>⟨_,F,O',ρ2,R3,hb.mono (D:={ lD X.K B F D with nx:=W (i+1),ct:=W (i+1),bk:=(lD X.K B F D).nx }) ⟨?_,?_,?_,?_⟩ q⟩) (h i _ ρ' (by simp [hlt]) w)⟩
      · exact fun ρ4 w4 O4 σ4 H4 R4=>⟨O4,ρ4,R4,w4⟩
      · exact fun d q v H4 s4 r4=>q v H4 (R1.sub.trans s4) r4
      · exact fun ρ4 q O4 σ4 H4 R4=>q O4 σ4 H4 (R1.unbase (B':=B) R4)
      · exact fun ρ4 w4 O4 σ4 H4 R4=>⟨O4,ρ4,R4,w4⟩
    · have e:i=items.length:=by omega
      subst e
      exact .inl ⟨stop,he ρ' w O' σ2 H2 (R1.unbase (B':=B) R2)⟩
noncomputable def Ade (te:DTE):DTI:=fun ρ Q=>te ρ fun d=>match d with
  | .lst ds=>Q ds
  | _=>False
noncomputable def AdM (te:DTE):DTI:=fun ρ Q=>te ρ fun d=>match d with
  | .tup ds=>Q ds
  | _=>False
theorem Ml {tg:Expr} (h:DE X e te):DI X tg e (Ade te) where
  mono:=fun hq z=>h.mono (fun d z=>by
    split at z
    · exact hq _ z
    · exact z.elim) z
  pi:=(Acj h.pe).imp fun σ H Q ⟨B,F,O,ρ,R,z⟩=>⟨B,F,O,ρ,R,h.mono (fun d z v H1 s1 r1=>by
    split at z
    · obtain ⟨a,xs,rfl,hs,hl⟩:=Gh r1
      refine ⟨a,rfl,⟨xs,Bv.seq hs⟩,z _ H1 s1 fun H2 s2=>⟨fun k d e=>?_,xs,s2.seq hs,by rw [hl.len];exact Nat.le_refl _⟩⟩
      obtain ⟨x,e1,e2⟩:=hl.get e
      refine ⟨⟨xs,x,s2.seq hs,e1⟩,fun y H3 ⟨e3,e4⟩=>⟨e3,?_⟩⟩
      have e5:=e4 xs (s2.seq hs)
      rw [e1] at e5;cases e5;exact e2
    · exact z.elim) z⟩
theorem Afv {tg:Expr} (h:DE X e te):DI X tg e (AdM te) where
  mono:=fun hq z=>h.mono (fun d z=>by
    split at z
    · exact hq _ z
    · exact z.elim) z
  pi:=(Aec h.pe).imp fun σ H Q ⟨B,F,O,ρ,R,z⟩=>⟨B,F,O,ρ,R,h.mono (fun d z v H1 s1 r1=>by
    split at z
    · obtain ⟨a,xs,rfl,hs,hl⟩:=Dn.mp r1
      refine ⟨a,rfl,⟨xs,Bv.seqT hs⟩,z _ H1 s1 fun H2 s2=>⟨fun k d e=>?_,xs,s2.seqT hs,by rw [hl.len];exact Nat.le_refl _⟩⟩
      obtain ⟨x,e1,e2⟩:=hl.get e
      refine ⟨⟨xs,x,s2.seqT hs,e1⟩,fun y H3 ⟨e3,e4⟩=>⟨e3,?_⟩⟩
      have e5:=e4 xs (s2.seqT hs)
      rw [e1] at e5;cases e5;exact e2
    · exact z.elim) z⟩
noncomputable def ups (lo:Int) (n:Nat):List Dt:=(List.range n).map fun i=>.int (lo+(i:Nat))
theorem RW {lo:Int} {n:Nat}:(ups lo n).length=n:=by simp [ups]
theorem Ti {lo:Int} {n k:Nat} {d:Dt} (h:(ups lo n)[k]? = some d):k < n∧d=.int (lo+(k:Nat)):=by
  unfold ups at h
  rw [List.getElem?_map] at h
  by_cases hk:k < n
  · rw [List.getElem?_range hk] at h
    exact ⟨hk,(Option.some.inj h).symm⟩
  · rw [List.getElem?_eq_none (by simpa using hk)] at h;cases h
theorem Rf {K:PySem.W.Frag} {M:Hp} {lo:Int} {n:Nat}:ItD K M (Itr lo n) (ups lo n):=fun H _=>by
  refine ⟨fun k d e=>?_,?_⟩
  · obtain ⟨hk,rfl⟩:=Ti e
    exact ⟨hk,fun x H' y=>⟨y.1,Bp.mpr y.2⟩⟩
  · rw [RW];exact Nat.le_refl n
noncomputable def YL (tl:DTA):DTI:=fun ρ Q=>tl ρ fun ds=>match ds with
  | [.int j]=>(-(2 ^ 62)≤j∧j < 2 ^ 62)∧Q (ups 0 j.toNat)
  | _=>False
noncomputable def Aaa (tl:DTA):DTI:=fun ρ Q=>tl ρ fun ds=>match ds with
  | [.int i,.int j]=>(-(2 ^ 62)≤i∧i < 2 ^ 62∧-(2 ^ 62)≤j∧j < 2 ^ 62)∧Q (ups i (j - i).toNat)
  | _=>False
theorem Nv {tg:Expr} {p:Pos} (hg:Gl X "range") (hm:X.mg "range"=none) (ha:DA X [a] tl) (hs:starEach [a] X.env=[(false,eval a X.env)]:=by rfl):DI X tg (.Call (.Name "range" p) [a] [] pos) (YL tl) where
  mono:=fun hq z=>ha.mono (fun d z=>by
    split at z
    · exact ⟨z.1,hq _ z.2⟩
    · exact z.elim) z
  pi:=(XJ hg hm ha.pa hs).imp fun σ H Q ⟨B,F,O,ρ,R,z⟩=>⟨B,F,O,ρ,R,ha.mono (fun d z vs H1 s1 r1=>by
    split at z
    · obtain ⟨v,r,rfl,r2,r3⟩:=Aw.mp r1
      rw [BR.mp r3,Bp.mp r2]
      exact ⟨_,rfl,z.1.1,z.1.2,z.2 _ H1 s1 Rf⟩
    · exact z.elim) z⟩
theorem Aby {tg:Expr} {p:Pos} (hg:Gl X "range") (hm:X.mg "range"=none) (ha:DA X [a,b] tl) (hs:starEach [a,b] X.env=[(false,eval a X.env),(false,eval b X.env)]:=by rfl) (hs2:starEach [b] X.env=[(false,eval b X.env)]:=by rfl) :
    DI X tg (.Call (.Name "range" p) [a,b] [] pos) (Aaa tl) where
  mono:=fun hq z=>ha.mono (fun d z=>by
    split at z
    · exact ⟨z.1,hq _ z.2⟩
    · exact z.elim) z
  pi:=(X6 hg hm ha.pa hs hs2).imp fun σ H Q ⟨B,F,O,ρ,R,z⟩=>⟨B,F,O,ρ,R,ha.mono (fun d z vs H1 s1 r1=>by
    split at z
    · obtain ⟨v,r,rfl,r2,r3⟩:=Aw.mp r1
      obtain ⟨v',r',rfl,r4,r5⟩:=Aw.mp r3
      rw [BR.mp r5,Bp.mp r2,Bp.mp r4]
      exact ⟨_,_,rfl,z.1,z.2 _ H1 s1 Rf⟩
    · exact z.elim) z⟩
end
noncomputable def Fw (N:List Str) (ds:List Dt):Ce:=ds.map (fun d=>some (.is d)) ++ List.replicate (N.length - ds.length) none
theorem Xw {K:PySem.W.Frag} {F:List Addr} {H:Hp} {N:List Str} {ds:List Dt} {vs:List V} (hF:∀ a∈F,H a≠none) (r:RpL K (mask F H) ds vs):Rep K H F [] H (start N vs) (Fw N ds):=by
  have hl:=r.len
  have noown:∀ (i:Nat) es,(Fw N ds)[i]? = some (some (.own es))→False:=fun i es e=>by
    unfold Fw at e
    by_cases hi:i < ds.length
    · rw [List.getElem?_append_left (by simpa using hi),List.getElem?_map] at e
      cases q:ds[i]? with
      | none=>rw [q] at e;cases e
      | some d=>rw [q] at e;cases e
    · rw [List.getElem?_append_right (by simpa using hi),List.getElem?_replicate] at e
      split at e <;> cases e
  refine ⟨?_,Same.refl H,fun a h=>(nomatch h),fun a h=>hF a (by simpa using h),fun i d e=>?_,fun i es e=>(noown i es e).elim,fun i j es es' a h1=>(noown i es h1).elim⟩
  · unfold start Fw;simp [hl]
  · unfold Fw at e
    by_cases hi:i < ds.length
    · rw [List.getElem?_append_left (by simpa using hi),List.getElem?_map] at e
      cases q:ds[i]? with
      | none=>rw [q] at e;cases e
      | some d' =>
        rw [q] at e;cases e
        obtain ⟨v,e1,e2⟩:=r.get q
        refine ⟨v,?_,by rw [List.append_nil];exact e2⟩
        unfold start
        rw [List.getElem?_append_left (by simp;omega),List.getElem?_map,e1];rfl
    · rw [List.getElem?_append_right (by simpa using hi),List.getElem?_replicate] at e
      split at e <;> cases e
section
variable {P:Program} {w:World} {K:PySem.W.Frag} {mg:Str→Option Value} {base:Heap}
theorem Fun.okD {x qual:Str} {st:Stmt} {f:Addr} {fd:FuncData} {N ps:List Str} {k:Nat} {sp:DSp} (F:Fun K x qual st f fd) (S:Ao N ps (Ai st)) (len:∀ ds Q,sp ds Q→ds.length=ps.length)
    (hbody:∀ (cdv:Value) (A:Around) (outer:List Env) (s:Shared) (H:Hp) (E:XK),Es k (A.deeper (envOfC qual (Ai st) s.heap.objs.size f cdv)) →
      ∃ t,DSs (V6 CX0 P w K mg base N qual (Ai st) f cdv A outer s H E).nox (Dl st) t∧∀ ds Q,sp ds Q→t { nx:=fun _=>Q .non,rt:=Q } (Fw N ds)):Hl P w K mg base CX0 (k+1) f fd ps (lSp K sp):=by
  refine F.ok S (fun vs H Q E ⟨F,ds,_,r,h⟩=>by rw [r.len];exact len _ _ h) fun cdv A outer s H vs Q E hr ⟨F',ds,hF,r,h⟩=>?_
  obtain ⟨t,T,q⟩:=hbody cdv A outer s H E hr
  refine ⟨_,T.ps,H,F',[],Fw N ds,Xw hF r,T.mono (D:={ nx:=fun _=>∀ v H',Same H H'→Rp K (mask F' H') .non v→Q v H',rt:=fun d=>∀ v H',Same H H'→Rp K (mask F' H') d v→Q v H' }) ⟨?_,?_,fun _ z=>False.elim z,fun _ z=>False.elim z⟩ (q ds _ h)⟩
  · exact fun ρ z O' σ' H' R'=>z .non H' R'.base (Te.mpr rfl)
  · exact fun d z v H' s' r'=>z v H' s' r'
end
end L2
namespace L2
open PySem PySem.Spec PyProof.Rows PySem.SeqAt
structure FnT (K:PySem.W.Frag) (mg:Str→Option Value) (x:Str) (st:Stmt) (ps:List Str) (f:Addr) (fd:FuncData):Prop where
  fn:Fun K x x st f fd
  mg:mg x=some (.ref f)
  bd:Binds K fd ps []
noncomputable def Pm (P:Program) (w:World) (K:PySem.W.Frag) (mg:Str→Option Value) (base:Heap) (k:Nat) (x:Str) (st:Stmt) (ps:List Str) (sp:DSp):Prop :=
  ∃ f fd,FnT K mg x st ps f fd∧Hl P w K mg base CX0 k f fd ps (lSp K sp)
theorem Fun.uniq {K:PySem.W.Frag} {x q:Str} {st:Stmt} {f:Addr} {fd fd':FuncData} (a:Fun K x q st f fd) (b:Fun K x q st f fd'):fd=fd':=by
  obtain ⟨oc,od,kV,doc,pm,an,cdv,ct,osl,_,h1,_⟩:=a.ex
  obtain ⟨oc',od',kV',doc',pm',an',cdv',ct',osl',_,h2,_⟩:=b.ex
  rw [h1] at h2
  injection h2 with h2
  injection h2 with _ _ h2 _
  injection h2
noncomputable def spec {τ:Type} (args:τ→List Dt) (pre:τ→Prop) (post:τ→Dt→Prop):DSp:=fun ds Q=>∃ p,ds=args p∧pre p∧∀ d,post p d→Q d
theorem Af {τ:Type} {args:τ→List Dt} {pre:τ→Prop} {post:τ→Dt→Prop}:Hv (spec args pre post):=fun _ _ _ hq ⟨p,e,h,q⟩=>⟨p,e,h,fun d z=>hq _ (q d z)⟩
noncomputable abbrev BJ {τ:Type} (args:τ→List Dt) (pre:τ→Prop) (val:τ→Dt):DSp:=spec args pre fun p d=>d=val p
noncomputable abbrev T2 (a b:Int):Dt:=.tup [.int a,.int b]
noncomputable abbrev T3 (a b c:Int):Dt:=.tup [.int a,.int b,.int c]
noncomputable abbrev T4 (a b c d:Int):Dt:=.tup [.int a,.int b,.int c,.int d]
noncomputable def AcY:DSp:=spec (fun ns:List Int=>[.lst (ns.map Dt.int)]) (fun ns=>ns.length≤63) fun _ d=>d=.bl true
theorem YG {H:Hp}:mask [] H=H:=by funext a;exact Bf (by simp)
theorem Yo {K:PySem.W.Frag} {H:Hp} {a:Addr} {ns:List Int} {E:XK} (hl:ns.length≤63) (hS:SqL K H a (ns.map V.int)):lSp K AcY [.ref a] H (fun v _=>v=.bl true) E :=
  ⟨[],[.lst (ns.map Dt.int)],fun _ h=>(nomatch h),RpL.cons (Ace (by rw [YG];exact hS) (RpL.ints ns)) RpL.nil,ns,rfl,hl,fun d e v H' s r=>by subst e;exact Ep.mp r⟩
section
variable {X:Cx} {a b c e:Expr} {es:List Expr} {ta tb tc te:DTE} {tA tB:DTT} {tl:DTA} {pos:Pos}
theorem Ag {k:Nat} {ps:List Str} {sp:DSp} {x:Str} {stx:Stmt} {p:Pos} (m:Hv sp) (G:Pm X.prog X.w X.K X.mg X.base k x stx ps sp) (hr:Es k X.A) (hg:Gl X x)
    (ha:DA X (e :: es) tl) (hdb:(x == ("__debug__":Str))=false:=by decide)
    (he:starEach (e :: es) X.env=(false,eval e X.env) :: starEach es X.env:=by rfl) (hpl:(backTo pos (starEach es X.env)).any (·.1)=false:=by rfl):DE X (.Call (.Name x p) (e :: es) [] pos) (dCall sp tl):=by
  obtain ⟨f,fd,F,G⟩:=G
  exact AcM (CX:=CX0) m G hr hg F.mg F.fn.kp F.bd ha hdb he hpl
theorem Al (i:Nat) {x:Str} {pos':Pos} (hN:X.N.Nodup) (he:DE X e te) (hi:X.N[i]? = some x:=by rfl) (hx:Loc X.env.scope x:=by first | exact Or.inl rfl | exact Or.inr rfl) (hs:swapsWith e (some (.Name x pos')) pos.line X.env=pure false:=by rfl)
    (hf:X.fn x=true∨X.env.scope.names.lookup x=some .local:=by first | exact .inl rfl | exact .inr rfl | assumption):DS X (.Assign [.Name x pos'] e pos) (Aea te (Ve i)) where
  mono:=fun hd h=>he.mono (fun _ h=>hd.nx _ h) h
  ps:=(Zn hN hi hx he.pe hs hf).imp fun D σ H ⟨B,F,O,ρ,R,h⟩=>⟨B,F,O,ρ,R,he.mono (fun d q v H1 s1 r1=>q O _ H1 ((R.same s1).set i r1)) h⟩
noncomputable def AdL (i j:Nat) (tl:DTA):DTS:=fun D ρ=>tl ρ fun ds=>match ds with
  | [d,e]=>D.nx ((ρ.set i (some (.is d))).set j (some (.is e)))
  | _=>False
theorem Xc {x y:Str} {px py pt:Pos} {kt k2 pt2} (hc:X.calm=true) (hN:X.N.Nodup) (i j:Nat) (ha:DA X [a,b] tl) (hi:X.N[i]? = some x:=by rfl) (hj:X.N[j]? = some y:=by rfl) (hij:i≠j:=by decide)
    (hx:X.env.scope.names.lookup x=some .local:=by rfl) (hy:X.env.scope.names.lookup y=some .local:=by rfl)
    (hw:swappedStores [.Tuple [.Name x px,.Name y py] kt pt] (.Tuple [a,b] k2 pt2) X.env=pure (some [x,y]):=by rfl)
    (hs:swapsWithSole [.Tuple [.Name x px,.Name y py] kt pt] (.Tuple [a,b] k2 pt2) pos.line X.env=pure false:=by rfl) :
    DS X (.Assign [.Tuple [.Name x px,.Name y py] kt pt] (.Tuple [a,b] k2 pt2) pos) (AdL i j tl) where
  mono:=fun hd h=>ha.mono (fun ds h=>by
    split at h
    · exact hd.nx _ h
    · exact h.elim) h
  ps:=(Ae4 hc hN hi hj hij hx hy ha.pa hw hs).imp fun D σ H ⟨B,F,O,ρ,R,h⟩=>⟨B,F,O,ρ,R,ha.mono (fun ds q vs H1 s1 r1=>by
    split at q
    · obtain ⟨v,r,rfl,r2,r3⟩:=Aw.mp r1
      obtain ⟨v',r',rfl,r4,r5⟩:=Aw.mp r3
      obtain rfl:=BR.mp r5
      exact ⟨v,v',rfl,q O _ H1 (((R.same s1).set i r2).set j r4)⟩
    · exact q.elim) h⟩
mutual
noncomputable def Dt.py:Dt→PyData
  | .non=>.none
  | .bl b=>.bool b
  | .int i=>.int i
  | .str x=>.str x
  | .tup ds=>.tuple (Dt.pys ds)
  | .lst ds=>.list (Dt.pys ds)
  | .fn _=>.dict []
  | .exc _ _ _=>.dict []
  | .obj _ _ _=>.dict []
noncomputable def Dt.pys:List Dt→List PyData
  | []=>[]
  | d :: ds=>d.py :: Dt.pys ds
end
mutual
theorem Jk {X:Cx} {pins:List (Addr × Obj)} {σ:St} {H:Hp} {s:Shared} (I:Inv X pins σ H s):∀ {d:Dt} {v:V} {u:Value},d.py.canLay0=true→Rp X.K H d v→RelV v u→∃ as,Reads s.heap u d.py as
  | .non,v,u,_,h,r=>by rw [Te.mp h] at r;cases (show u=.none from r);exact ⟨_,by rw [Dt.py];exact .none⟩
  | .bl b,v,u,_,h,r=>by rw [Ep.mp h] at r;cases (show u=.bool b from r);exact ⟨_,by rw [Dt.py];exact .bool b⟩
  | .int i,v,u,_,h,r=>by rw [Bp.mp h] at r;obtain ⟨t,rfl⟩:=r;exact ⟨_,by rw [Dt.py];exact .int i t⟩
  | .str x,v,u,_,h,r=>by rw [RJ.mp h] at r;obtain ⟨t,rfl⟩:=r;exact ⟨_,by rw [Dt.py];exact .str x t⟩
  | .fn a,v,u,c,h,r=>by rw [Dt.py] at c;exact (nomatch c)
  | .exc _ _ _,v,u,c,h,r=>by rw [Dt.py] at c;exact (nomatch c)
  | .obj _ _ _,v,u,c,h,r=>by rw [Dt.py] at c;exact (nomatch c)
  | .tup ds,v,u,c,h,r=>by
    obtain ⟨a,xs,rfl,hs,hl⟩:=Dn.mp h
    cases (show u=.ref a from r)
    obtain ⟨its,rv,⟨o,h1,h2,n,h3⟩,_⟩:=I.tuple hs
    rw [Dt.py] at c
    obtain ⟨as,ra⟩:=LK I (ds:=ds) (by simpa [PyData.canLay0] using c) hl rv
    exact ⟨_,by rw [Dt.py];exact .tuple h1 h2 h3 (by simpa using ra)⟩
  | .lst ds,v,u,c,h,r=>by
    obtain ⟨a,xs,rfl,hs,hl⟩:=Gh h
    cases (show u=.ref a from r)
    obtain ⟨its,rv,⟨o,n,h1,h2,_,h3⟩,_⟩:=I.list hs
    rw [Dt.py] at c
    obtain ⟨as,ra⟩:=LK I (ds:=ds) (by simpa [PyData.canLay0] using c) hl rv
    exact ⟨_,by rw [Dt.py];exact .list h1 h2 h3 (by simpa using ra)⟩
theorem LK {X:Cx} {pins:List (Addr × Obj)} {σ:St} {H:Hp} {s:Shared} (I:Inv X pins σ H s):∀ {ds:List Dt} {vs:List V} {us:List Value},PyData.canLayAll0 (Dt.pys ds)=true→RpL X.K H ds vs→Vals vs us→∃ as,ReadsAll s.heap us (Dt.pys ds) as
  | [],vs,us,_,h,r=>by rw [BR.mp h] at r;cases r;exact ⟨_,by rw [Dt.pys];exact .nil⟩
  | d :: ds,vs,us,c,h,r=>by
    obtain ⟨v,vr,rfl,h1,h2⟩:=Aw.mp h
    rw [Dt.pys] at c
    have c':d.py.canLay0=true∧PyData.canLayAll0 (Dt.pys ds)=true:=by simpa [PyData.canLayAll0] using c
    cases r with
    | cons r1 r2 =>
      obtain ⟨as,ra⟩:=Jk I c'.1 h1 r1
      obtain ⟨bs,rb⟩:=LK I c'.2 h2 r2
      exact ⟨_,by rw [Dt.pys];exact .cons ra rb⟩
end
mutual
noncomputable def Dt.eq:Dt→Dt→Bool
  | .non,.non=>true
  | .bl a,.bl b=>a == b
  | .bl a,.int j=>(if a then 1 else 0) == j
  | .int i,.bl b=>i == (if b then 1 else 0)
  | .int i,.int j=>decide (i=j)
  | .str x,.str y=>x == y
  | .tup xs,.tup ys=>Dt.eqs xs ys
  | .lst xs,.lst ys=>Dt.eqs xs ys
  | _,_=>false
noncomputable def Dt.eqs:List Dt→List Dt→Bool
  | [],[]=>true
  | x :: xs,y :: ys=>Dt.eq x y && Dt.eqs xs ys
  | _,_=>false
end
mutual
noncomputable def Dt.flat:Nat→Dt→Bool
  | _,.fn _=>false
  | _,.exc _ _ _=>false
  | _,.obj _ _ _=>false
  | _,.str x=>(PyData.str x).canLay0
  | 0,.tup _=>false
  | 0,.lst _=>false
  | n+1,.tup ds=>Dt.flats n ds
  | n+1,.lst ds=>Dt.flats n ds
  | _,_=>true
noncomputable def Dt.flats:Nat→List Dt→Bool
  | _,[]=>true
  | n,d :: ds=>Dt.flat n d && Dt.flats n ds
end
mutual
theorem Hf:∀ (d:Dt) (n:Nat),d.flat n=true→d.py.canLay0=true∧d.py.depth≤n
  | .non,n,h=>by rw [Dt.py];exact ⟨rfl,Nat.zero_le _⟩
  | .bl _,n,h=>by rw [Dt.py];exact ⟨rfl,Nat.zero_le _⟩
  | .int _,n,h=>by rw [Dt.py];exact ⟨rfl,Nat.zero_le _⟩
  | .str _,n,h=>by rw [Dt.py];exact ⟨by simpa [Dt.flat] using h,Nat.zero_le _⟩
  | .fn _,n,h=>by simp [Dt.flat] at h
  | .exc _ _ _,n,h=>by simp [Dt.flat] at h
  | .obj _ _ _,n,h=>by simp [Dt.flat] at h
  | .tup ds,0,h=>by simp [Dt.flat] at h
  | .lst ds,0,h=>by simp [Dt.flat] at h
  | .tup ds,n+1,h=>by
    have:=Mh ds n (by simpa [Dt.flat] using h)
    rw [Dt.py]
    exact ⟨by simpa [PyData.canLay0] using this.1,by simpa [PyData.depth] using this.2⟩
  | .lst ds,n+1,h=>by
    have:=Mh ds n (by simpa [Dt.flat] using h)
    rw [Dt.py]
    exact ⟨by simpa [PyData.canLay0] using this.1,by simpa [PyData.depth] using this.2⟩
theorem Mh:∀ (ds:List Dt) (n:Nat),Dt.flats n ds=true→PyData.canLayAll0 (Dt.pys ds)=true∧PyData.depthAll (Dt.pys ds)≤n
  | [],n,h=>by rw [Dt.pys];exact ⟨rfl,Nat.zero_le _⟩
  | d :: ds,n,h=>by
    have h':d.flat n=true∧Dt.flats n ds=true:=by simpa [Dt.flats] using h
    have h1:=Hf d n h'.1
    have h2:=Mh ds n h'.2
    rw [Dt.pys]
    exact ⟨by simp [PyData.canLayAll0,h1.1,h2.1],by simp only [PyData.depthAll];omega⟩
end
mutual
theorem SQ:∀ (a b:Dt),a.py.canLay0=true→b.py.canLay0=true→PyData.eqv a.py b.py=a.eq b
  | .fn _,b,h,_=>by rw [Dt.py] at h;exact (nomatch h)
  | .exc _ _ _,b,h,_=>by rw [Dt.py] at h;exact (nomatch h)
  | .obj _ _ _,b,h,_=>by rw [Dt.py] at h;exact (nomatch h)
  | a,.fn _,_,h=>by rw [Dt.py] at h;exact (nomatch h)
  | a,.exc _ _ _,_,h=>by rw [Dt.py] at h;exact (nomatch h)
  | a,.obj _ _ _,_,h=>by rw [Dt.py] at h;exact (nomatch h)
  | .non,.non,_,_=>by simp [Dt.py,Dt.eq,PyData.eqv]
  | .non,.bl _,_,_=>by simp [Dt.py,Dt.eq,PyData.eqv]
  | .non,.int _,_,_=>by simp [Dt.py,Dt.eq,PyData.eqv]
  | .non,.str _,_,_=>by simp [Dt.py,Dt.eq,PyData.eqv]
  | .non,.tup _,_,_=>by simp [Dt.py,Dt.eq,PyData.eqv]
  | .non,.lst _,_,_=>by simp [Dt.py,Dt.eq,PyData.eqv]
  | .bl _,.non,_,_=>by simp [Dt.py,Dt.eq,PyData.eqv]
  | .bl _,.bl _,_,_=>by simp [Dt.py,Dt.eq,PyData.eqv]
  | .bl _,.int _,_,_=>by simp [Dt.py,Dt.eq,PyData.eqv]
  | .bl _,.str _,_,_=>by simp [Dt.py,Dt.eq,PyData.eqv]
  | .bl _,.tup _,_,_=>by simp [Dt.py,Dt.eq,PyData.eqv]
  | .bl _,.lst _,_,_=>by simp [Dt.py,Dt.eq,PyData.eqv]
  | .int _,.non,_,_=>by simp [Dt.py,Dt.eq,PyData.eqv]
  | .int _,.bl _,_,_=>by simp [Dt.py,Dt.eq,PyData.eqv]
  | .int i,.int j,_,_=>by
    simp only [Dt.py,Dt.eq,PyData.eqv]
    exact Bool.beq_eq_decide_eq i j
  | .int _,.str _,_,_=>by simp [Dt.py,Dt.eq,PyData.eqv]
  | .int _,.tup _,_,_=>by simp [Dt.py,Dt.eq,PyData.eqv]
  | .int _,.lst _,_,_=>by simp [Dt.py,Dt.eq,PyData.eqv]
  | .str _,.non,_,_=>by simp [Dt.py,Dt.eq,PyData.eqv]
  | .str _,.bl _,_,_=>by simp [Dt.py,Dt.eq,PyData.eqv]
  | .str _,.int _,_,_=>by simp [Dt.py,Dt.eq,PyData.eqv]
  | .str _,.str _,_,_=>by simp [Dt.py,Dt.eq,PyData.eqv]
  | .str _,.tup _,_,_=>by simp [Dt.py,Dt.eq,PyData.eqv]
  | .str _,.lst _,_,_=>by simp [Dt.py,Dt.eq,PyData.eqv]
  | .tup _,.non,_,_=>by simp [Dt.py,Dt.eq,PyData.eqv]
  | .tup _,.bl _,_,_=>by simp [Dt.py,Dt.eq,PyData.eqv]
  | .tup _,.int _,_,_=>by simp [Dt.py,Dt.eq,PyData.eqv]
  | .tup _,.str _,_,_=>by simp [Dt.py,Dt.eq,PyData.eqv]
  | .tup xs,.tup ys,h1,h2=>by
    rw [Dt.py] at h1 h2
    rw [Dt.py,Dt.py,Dt.eq,PyData.eqv]
    exact R8 xs ys (by simpa [PyData.canLay0] using h1) (by simpa [PyData.canLay0] using h2)
  | .tup _,.lst _,_,_=>by simp [Dt.py,Dt.eq,PyData.eqv]
  | .lst _,.non,_,_=>by simp [Dt.py,Dt.eq,PyData.eqv]
  | .lst _,.bl _,_,_=>by simp [Dt.py,Dt.eq,PyData.eqv]
  | .lst _,.int _,_,_=>by simp [Dt.py,Dt.eq,PyData.eqv]
  | .lst _,.str _,_,_=>by simp [Dt.py,Dt.eq,PyData.eqv]
  | .lst _,.tup _,_,_=>by simp [Dt.py,Dt.eq,PyData.eqv]
  | .lst xs,.lst ys,h1,h2=>by
    rw [Dt.py] at h1 h2
    rw [Dt.py,Dt.py,Dt.eq,PyData.eqv]
    exact R8 xs ys (by simpa [PyData.canLay0] using h1) (by simpa [PyData.canLay0] using h2)
theorem R8:∀ (xs ys:List Dt),PyData.canLayAll0 (Dt.pys xs)=true→PyData.canLayAll0 (Dt.pys ys)=true→PyData.eqvAll (Dt.pys xs) (Dt.pys ys)=Dt.eqs xs ys
  | [],[],_,_=>by simp [Dt.pys,Dt.eqs,PyData.eqvAll]
  | [],_ :: _,_,_=>by simp [Dt.pys,Dt.eqs,PyData.eqvAll]
  | _ :: _,[],_,_=>by simp [Dt.pys,Dt.eqs,PyData.eqvAll]
  | x :: xs,y :: ys,h1,h2=>by
    rw [Dt.pys] at h1 h2
    have h1':x.py.canLay0=true∧PyData.canLayAll0 (Dt.pys xs)=true:=by simpa [PyData.canLayAll0] using h1
    have h2':y.py.canLay0=true∧PyData.canLayAll0 (Dt.pys ys)=true:=by simpa [PyData.canLayAll0] using h2
    rw [Dt.pys,Dt.pys,Dt.eqs,PyData.eqvAll,SQ x y h1'.1 h2'.1,R8 xs ys h1'.2 h2'.2]
end
noncomputable def Abk (K:PySem.W.Frag) (neg:Bool):R2:=fun x y H Q=>∃ a b,Rp K H a x∧Rp K H b y∧a.flat 8=true∧b.flat 8=true∧Q (.bl (if neg then !a.eq b else a.eq b)) H
theorem V1 (hu:X.A.units+64 < cLine):OpR X (compareOp .Eq) (Abk X.K false):=by
  intro pins s σ H x y v u Q I rx ry ⟨a,b,ra,rb,fa,fb,q⟩
  obtain ⟨ca,da⟩:=Hf a 8 fa
  obtain ⟨cb,db⟩:=Hf b 8 fb
  obtain ⟨as,r1⟩:=Jk I ca ra rx
  obtain ⟨bs,r2⟩:=Jk I cb rb ry
  refine rcAt_reads r1 r2 ca cb (by omega) _ _ _ _ ?_
  rw [SQ a b ca cb]
  exact ⟨.bl _,H,I,rfl,q⟩
theorem Aai (hu:X.A.units+64 < cLine):OpR X (compareOp .NotEq) (Abk X.K true):=by
  intro pins s σ H x y v u Q I rx ry ⟨a,b,ra,rb,fa,fb,q⟩
  obtain ⟨ca,da⟩:=Hf a 8 fa
  obtain ⟨cb,db⟩:=Hf b 8 fb
  obtain ⟨as,r1⟩:=Jk I ca ra rx
  obtain ⟨bs,r2⟩:=Jk I cb rb ry
  refine compareNe_reads r1 r2 ca cb (by omega) ?_
  rw [SQ a b ca cb]
  exact ⟨.bl _,H,I,rfl,q⟩
noncomputable def dEq:D2:=fun a b Q=>(a.flat 8=true∧b.flat 8=true)∧Q (.bl (a.eq b))
noncomputable def dNe:D2:=fun a b Q=>(a.flat 8=true∧b.flat 8=true)∧Q (.bl (!a.eq b))
theorem V5 {K:PySem.W.Frag}:Je K (Abk K false) dEq:=⟨fun hq h=>⟨h.1,hq _ h.2⟩,fun O H a b x y Q _ ra rb h=>⟨a,b,ra.mono Bv,rb.mono Bv,h.1.1,h.1.2,h.2 _ H (Same.refl H) (Ep.mpr rfl)⟩⟩
theorem Yy {K:PySem.W.Frag}:Je K (Abk K true) dNe:=⟨fun hq h=>⟨h.1,hq _ h.2⟩,fun O H a b x y Q _ ra rb h=>⟨a,b,ra.mono Bv,rb.mono Bv,h.1.1,h.1.2,h.2 _ H (Same.refl H) (Ep.mpr rfl)⟩⟩
theorem QM (hu:X.A.units+64 < cLine) (ha:DE X a ta) (hb:DE X b tb):DE X (.Compare a [.Eq] [b] pos) (dOp dEq ta tb):=Vt (V1 hu) V5 ha hb (JB _)
theorem Ady (hu:X.A.units+64 < cLine) (ha:DE X a ta) (hb:DE X b tb):DE X (.Compare a [.NotEq] [b] pos) (dOp dNe ta tb):=Vt (Aai hu) Yy ha hb (JB _)
theorem Le (hu:X.A.units+64 < cLine) (ha:DE X a ta) (hb:DE X b tb):DT X (.Compare a [.Eq] [b] pos) (Qg (dOp dEq ta tb)):=N7 (V1 hu) V5 ha hb (JB _)
theorem FW (hu:X.A.units+64 < cLine) (ha:DE X a ta) (hb:DE X b tb):DT X (.Compare a [.NotEq] [b] pos) (Qg (dOp dNe ta tb)):=N7 (Aai hu) Yy ha hb (JB _)
noncomputable def isB (k:Bool):Dt→Bool
  | .bl b=>b == k
  | _=>false
noncomputable def isN:Dt→Bool
  | .non=>true
  | _=>false
noncomputable def dIs (neg:Bool):D2:=fun a b Q=>match b with
  | .bl k=>Q (.bl (if neg then !isB k a else isB k a))
  | .non=>Q (.bl (if neg then !isN a else isN a))
  | _=>False
noncomputable def Oh (t t':D2) (ta tb tc:DTE):DTE:=fun ρ Q=>ta ρ fun a=>tb ρ fun b=>t a b fun z=>match z with
  | .bl k=>if k=true then tc ρ fun c=>t' b c Q else Q (.bl false)
  | _=>False
theorem Vs {t t':D2} {ta tb tc:DTE} (m:∀ {a b Q Q'},(∀ d,Q d→Q' d)→t a b Q→t a b Q') (m':∀ {a b Q Q'},(∀ d,Q d→Q' d)→t' a b Q→t' a b Q')
    (ma:∀ {ρ Q Q'},(∀ d,Q d→Q' d)→ta ρ Q→ta ρ Q') (mb:∀ {ρ Q Q'},(∀ d,Q d→Q' d)→tb ρ Q→tb ρ Q') (mc:∀ {ρ Q Q'},(∀ d,Q d→Q' d)→tc ρ Q→tc ρ Q') :
    ∀ {ρ Q Q'},(∀ d,Q d→Q' d)→Oh t t' ta tb tc ρ Q→Oh t t' ta tb tc ρ Q':=fun hq h=>ma (fun _ h=>mb (fun _ h=>m (fun z h=>by
      split at h
      · rename_i k
        cases k with
        | true=>exact mc (fun _ h=>m' hq h) h
        | false=>exact hq _ h
      · exact h.elim) h) h) h
theorem X4 {K:PySem.W.Frag} {r r':R2} {t t':D2} (S:Je K r t) (S':Je K r' t') {ta tb tc:DTE} (ma:∀ {ρ Q Q'},(∀ d,Q d→Q' d)→ta ρ Q→ta ρ Q') (mb:∀ {ρ Q Q'},(∀ d,Q d→Q' d)→tb ρ Q→tb ρ Q') (mc:∀ {ρ Q Q'},(∀ d,Q d→Q' d)→tc ρ Q→tc ρ Q')
    (σ:St) (H:Hp) (Q:VK) (h:lE K (Oh t t' ta tb tc) σ H Q):Aav r r' (lE K ta) (lE K tb) (lE K tc) σ H Q:=by
  obtain ⟨B,F,O,ρ,R,h⟩:=h
  refine ⟨B,F,O,ρ,R,ma (fun a h v H1 s1 r1=>⟨B,F,O,ρ,R.same s1,mb (fun b h u H2 s2 r2=>?_) h⟩) h⟩
  refine S.ok _ H2 a b v u _ ((R.same s1).same s2).th (r1.mono s2.mask) r2 (S.mono (fun z h w H3 s3 r3=>?_) h)
  split at h
  · rename_i k
    refine ⟨k,Ep.mp r3,?_⟩
    have s123:=(s1.trans s2).trans s3
    cases k with
    | true=>exact ⟨B,F,O,ρ,R.same s123,mc (fun c h y H4 s4 r4=>S'.ok _ H4 b c u y Q ((R.same s123).same s4).th ((r2.mono s3.mask).mono s4.mask) r4 (S'.mono (fun d q w' H5 s5 r5=>q w' H5 ((s123.trans s4).trans s5) r5) h)) h⟩
    | false=>exact h _ H3 s123 (Ep.mpr rfl)
  · exact h.elim
theorem KR {op op':CmpOp} {r r':R2} {t t':D2} (ho:OpR X (compareOp op) r) (ho':OpR X (compareOp op') r') (S:Je X.K r t) (S':Je X.K r' t') (ha:DE X a ta) (hb:DE X b tb) (hc:DE X c tc)
    (hm:lastMarks [op,op'] [b,c]=false:=by with_unfolding_all rfl):DE X (.Compare a [op,op'] [b,c] pos) (Oh t t' ta tb tc) where
  mono:=Vs (t:=t) (t':=t') (ta:=ta) (tb:=tb) (tc:=tc) S.mono S'.mono ha.mono hb.mono hc.mono
  pe:=(Aal ho ho' ha.pe hb.pe hc.pe hm).imp (X4 (ta:=ta) (tb:=tb) (tc:=tc) S S' ha.mono hb.mono hc.mono)
noncomputable abbrev DL:=List Dt→(Dt→Prop)→Prop
structure Tt (K:PySem.W.Frag) (r:List V→Hp→VK→Prop) (t:DL):Prop where
  mono:∀ {ds Q Q'},(∀ d,Q d→Q' d)→t ds Q→t ds Q'
  ok:∀ (O:List Addr) (H:Hp) (ds:List Dt) (xs:List V) (Q:VK),(∀ p∈O,H p≠none)→RpL K (mask O H) ds xs →
    t ds (fun d=>∀ v H',Same H H'→Rp K (mask O H') d v→Q v H')→r xs H Q
noncomputable def dCB (t:DL) (tl:DTA):DTE:=fun ρ Q=>tl ρ fun ds=>t ds Q
theorem Aeq {K:PySem.W.Frag} {r:List V→Hp→VK→Prop} {t:DL} (S:Tt K r t) {tl:DTA} (m:∀ {ρ Q Q'},(∀ d,Q d→Q' d)→tl ρ Q→tl ρ Q') (σ:St) (H:Hp) (Q:VK) (h:lE K (dCB t tl) σ H Q):tCB r (lA K tl) σ H Q:=by
  obtain ⟨B,F,O,ρ,R,h⟩:=h
  exact ⟨B,F,O,ρ,R,m (fun ds h vs H1 s1 r1=>S.ok _ H1 ds vs Q (R.same s1).th r1 (S.mono (fun d q v H2 s2 r2=>q v H2 (s1.trans s2) r2) h)) h⟩
theorem QF {id:String} {x:Str} {p:Pos} {r:List V→Hp→VK→Prop} {t:DL} (hc:Ju X (.builtin id) r) (S:Tt X.K r t) (hg:Gl X x) (hm:X.mg x=none) (hv:bootBuiltins x=some (.builtin id)) (ha:DA X (e :: es) tl) (hn:x≠"__name__":=by decide)
    (hdb:(x == ("__debug__":Str))=false:=by decide) (he:starEach (e :: es) X.env=(false,eval e X.env) :: starEach es X.env:=by rfl) (hpl:(backTo pos (starEach es X.env)).any (·.1)=false:=by rfl):DE X (.Call (.Name x p) (e :: es) [] pos) (dCB t tl) where
  mono:=fun hq h=>ha.mono (fun _ h=>S.mono hq h) h
  pe:=(Us hc hg hm hv ha.pa hn hdb he hpl).imp (Aeq (tl:=tl) S ha.mono)
noncomputable def Yv:DL:=fun ds Q=>match ds with
  | [.lst xs]=>Q (.int xs.length)
  | [.tup xs]=>Q (.int xs.length)
  | _=>False
noncomputable def Zg:DL:=fun ds Q=>match ds with
  | [.int i]=>Q (.int (if i < 0 then -i else i))
  | _=>False
noncomputable def AaL:DL:=fun ds Q=>match ds with
  | [.int i,.int j]=>Q (.int (if j > i then j else i))
  | _=>False
noncomputable def Akt:DL:=fun ds Q=>match ds with
  | [.int i,.int j]=>Q (.int (if j < i then j else i))
  | _=>False
noncomputable def Ahb:DL:=fun ds Q=>match ds with
  | [.int i]=>Q (.int i)
  | [.bl k]=>Q (.int (if k then 1 else 0))
  | _=>False
theorem Ab1 {K:PySem.W.Frag}:Tt K (fun xs H Q=>∃ p ys,xs=[.ref p]∧(SqL K H p ys∨SqT K H p ys)∧Q (.int ys.length) H) Yv where
  mono:=fun hq h=>by
    unfold Yv at h ⊢
    split at h
    · exact hq _ h
    · exact hq _ h
    · exact h.elim
  ok:=fun O H ds xs Q _ r h=>by
    unfold Yv at h
    split at h
    · obtain ⟨v,r',rfl,r2,r3⟩:=Aw.mp r
      obtain rfl:=BR.mp r3
      obtain ⟨a,ys,rfl,hs,hl⟩:=Gh r2
      exact ⟨a,ys,rfl,.inl (Bv.seq hs),by rw [hl.len];exact h _ H (Same.refl H) (Bp.mpr rfl)⟩
    · obtain ⟨v,r',rfl,r2,r3⟩:=Aw.mp r
      obtain rfl:=BR.mp r3
      obtain ⟨a,ys,rfl,hs,hl⟩:=Dn.mp r2
      exact ⟨a,ys,rfl,.inr (Bv.seqT hs),by rw [hl.len];exact h _ H (Same.refl H) (Bp.mpr rfl)⟩
    · exact h.elim
theorem AiP {K:PySem.W.Frag} {H:Hp} {i:Int} {xs:List V} (h:RpL K H [.int i] xs):xs=[.int i]:=by
  obtain ⟨v,r,rfl,r2,r3⟩:=Aw.mp h
  rw [BR.mp r3,Bp.mp r2]
theorem AjI {K:PySem.W.Frag} {H:Hp} {i j:Int} {xs:List V} (h:RpL K H [.int i,.int j] xs):xs=[.int i,.int j]:=by
  obtain ⟨v,r,rfl,r2,r3⟩:=Aw.mp h
  rw [AiP r3,Bp.mp r2]
theorem AbG {K:PySem.W.Frag}:Tt K (fun xs H Q=>∃ i,xs=[.int i]∧Q (.int (if i < 0 then -i else i)) H) Zg where
  mono:=fun hq h=>by
    unfold Zg at h ⊢
    split at h
    · exact hq _ h
    · exact h.elim
  ok:=fun O H ds xs Q _ r h=>by
    unfold Zg at h
    split at h
    · exact ⟨_,AiP r,h _ H (Same.refl H) (Bp.mpr rfl)⟩
    · exact h.elim
theorem Ab7 {K:PySem.W.Frag}:Tt K (fun xs H Q=>∃ i j,xs=[.int i,.int j]∧Q (.int (if j > i then j else i)) H) AaL where
  mono:=fun hq h=>by
    unfold AaL at h ⊢
    split at h
    · exact hq _ h
    · exact h.elim
  ok:=fun O H ds xs Q _ r h=>by
    unfold AaL at h
    split at h
    · exact ⟨_,_,AjI r,h _ H (Same.refl H) (Bp.mpr rfl)⟩
    · exact h.elim
theorem Ka {p:Pos} (hm:X.mg "len"=none) (ha:DA X [a] tl) (hg:Gl X "len":=by rfl) (he:starEach [a] X.env=(false,eval a X.env) :: starEach [] X.env:=by rfl) (hpl:(backTo pos (starEach [] X.env)).any (·.1)=false:=by rfl) :
    DE X (.Call (.Name "len" p) [a] [] pos) (dCB Yv tl):=QF RM Ab1 hg hm PySem.boot_len ha (he:=he) (hpl:=hpl)
theorem Jq {p:Pos} (hm:X.mg "abs"=none) (ha:DA X [a] tl) (hg:Gl X "abs":=by rfl) (hv:bootBuiltins "abs"=some (.builtin "abs"):=by rfl) (he:starEach [a] X.env=(false,eval a X.env) :: starEach [] X.env:=by rfl) (hpl:(backTo pos (starEach [] X.env)).any (·.1)=false:=by rfl) :
    DE X (.Call (.Name "abs" p) [a] [] pos) (dCB Zg tl):=QF ZP AbG hg hm hv ha (he:=he) (hpl:=hpl)
theorem Z6 {p:Pos} (hm:X.mg "max"=none) (ha:DA X [a,b] tl) (hc:X.calm=true:=by rfl) (hg:Gl X "max":=by rfl) (hv:bootBuiltins "max"=some (.builtin "max"):=by rfl) (he:starEach [a,b] X.env=(false,eval a X.env) :: starEach [b] X.env:=by rfl)
    (hpl:(backTo pos (starEach [b] X.env)).any (·.1)=false:=by rfl):DE X (.Call (.Name "max" p) [a,b] [] pos) (dCB AaL tl):=QF (Xp hc) Ab7 hg hm hv ha (he:=he) (hpl:=hpl)
noncomputable def tyOf:Dt→String
  | .non=>"NoneType"
  | .bl _=>"bool"
  | .int _=>"int"
  | .str _=>"str"
  | .tup _=>"tuple"
  | .lst _=>"list"
  | .fn _=>"function"
  | .exc _ _ _=>"exception"
  | .obj _ _ _=>"instance"
noncomputable def noFn:Dt→Bool
  | .fn _=>false
  | .exc _ _ _=>false
  | .obj _ _ _=>false
  | _=>true
noncomputable def isT (T:String) (d:Dt):Bool:=tyOf d == T || (T == "int" && tyOf d == "bool")
noncomputable def TX (T:String):Prop:=∀ (K:PySem.W.Frag) (d:Dt),noFn d=true→PySem.W.kitOne K (.type (tyOf d)) (.type T)=some (isT T d)
theorem Z8 {T:String} (hT:TX T):Ju X (.builtin "isinstance") (fun xs H Q=>∃ d x,xs=[x,.ty T]∧Rp X.K H d x∧noFn d=true∧Q (.bl (isT T d)) H):=by
  intro pins s σ H xs us Q I r ⟨d,x,e,rp,nf,q⟩
  subst e
  obtain ⟨u,u2,rfl,r1,r2⟩:=vals2 r
  cases (show u2=.type T from r2)
  have hk:=hT X.K d nf
  have fin:∀ tk,EP X pins σ Q (.bool (isT T d)) { s with toks:=tk }:=fun tk=>⟨.bl _,H,I.tok tk,rfl,q⟩
  cases d with
  | non=>rw [Te.mp rp] at r1;cases (show u=Value.none from r1);exact PySem.W.kia_one PySem.W.kitx_none I.kIn True.intro hk (fun z=>nomatch z) fin
  | bl y=>rw [Ep.mp rp] at r1;cases (show u=Value.bool y from r1);exact PySem.W.kia_one PySem.W.kitx_bool I.kIn True.intro hk (fun z=>nomatch z) fin
  | int i=>rw [Bp.mp rp] at r1;obtain ⟨t,q⟩:=(show ∃ t,u=Value.int i t from r1);cases q;exact PySem.W.kia_one PySem.W.kitx_int I.kIn True.intro hk (fun z=>nomatch z) fin
  | str y=>rw [RJ.mp rp] at r1;obtain ⟨t,q⟩:=(show ∃ t,u=Value.str y t from r1);cases q;exact PySem.W.kia_one PySem.W.kitx_str I.kIn True.intro hk (fun z=>nomatch z) fin
  | fn a=>cases nf
  | exc _ _ _=>cases nf
  | obj _ _ _=>cases nf
  | tup ds =>
    obtain ⟨a,ys,rfl,hs,_⟩:=Dn.mp rp
    cases (show u=Value.ref a from r1)
    obtain ⟨_,_,⟨o,h1,h2,_⟩,_⟩:=I.tuple hs
    exact PySem.W.kia_one PySem.W.kitx_tuple I.kIn ⟨o,h1,h2⟩ hk (fun z=>nomatch z) fin
  | lst ds =>
    obtain ⟨a,ys,rfl,hs,_⟩:=Gh rp
    cases (show u=Value.ref a from r1)
    obtain ⟨_,_,⟨o,n,h1,h2,_⟩,_⟩:=I.list hs
    exact PySem.W.kia_one PySem.W.kitx_list I.kIn ⟨o,h1,h2⟩ hk (fun z=>nomatch z) fin
noncomputable def Ajb (T:String) (ta:DTE):DTE:=fun ρ Q=>ta ρ fun d=>noFn d=true∧Q (.bl (isT T d))
theorem O5 {T:String} {Ts:Str} {p p2:Pos} (hm:X.mg "isinstance"=none) (hmT:X.mg Ts=none) (hT:TX T) (ha:DE X a ta) (hg:Gl X "isinstance":=by rfl) (hgT:Gl X Ts:=by rfl) (hv:bootBuiltins "isinstance"=some (.builtin "isinstance"):=by rfl)
    (hvT:bootBuiltins Ts=some (.type T):=by rfl) (hn:Ts≠"__name__":=by decide) (hd:(Ts == ("__debug__":Str))=false:=by decide)
    (hs1:starEach [a,.Name Ts p2] X.env=(false,eval a X.env) :: starEach [.Name Ts p2] X.env:=by rfl) (hs2:starEach [.Name Ts p2] X.env=(false,eval (.Name Ts p2) X.env) :: starEach [] X.env:=by rfl)
    (hpl:(backTo pos (starEach [.Name Ts p2] X.env)).any (·.1)=false:=by rfl):DE X (.Call (.Name "isinstance" p) [a,.Name Ts p2] [] pos) (Ajb T ta) where
  mono:=fun hq h=>ha.mono (fun _ h=>⟨h.1,hq _ h.2⟩) h
  pe:=(Us (Z8 hT) hg hm hv (Ld ha.pe (Ld (AcA (v:=.ty T) hgT hmT hvT rfl hn hd) V0 hs2) hs1) (he:=hs1) (hpl:=hpl)).imp fun σ H Q ⟨B,F,O,ρ,R,h⟩ =>
    ⟨B,F,O,ρ,R,ha.mono (fun d h v H1 s1 r1=>⟨d,v,rfl,r1.mono Bv,h.1,h.2 _ H1 s1 (Ep.mpr rfl)⟩) h⟩
noncomputable abbrev DTO:=Ce→(Option Int→Prop)→Prop
noncomputable def lO (K:PySem.W.Frag) (t:DTO):TO:=fun σ H Q=>∃ B F O ρ,Rep K B F O H σ ρ∧t ρ fun o=>∀ H',Same H H'→Q o H'
structure DO (X:Cx) (e:Option Expr) (t:DTO):Prop where
  mono:∀ {ρ Q Q'},(∀ d,Q d→Q' d)→t ρ Q→t ρ Q'
  po:PO X e (lO X.K t)
noncomputable def WD:DTO:=fun _ Q=>Q none
noncomputable def Ac4 (te:DTE):DTO:=fun ρ Q=>te ρ fun d=>match d with
  | .int i=>Q (some i)
  | _=>False
theorem PO.imp {e:Option Expr} {t t':TO} (h:PO X e t) (i:∀ σ H Q,t' σ H Q→t σ H Q):PO X e t':=fun pins s σ H Q I q=>h pins s σ H Q I (i _ _ _ q)
theorem W3:DO X none WD:=⟨fun hq h=>hq _ h,Acs.imp fun σ H Q ⟨B,F,O,ρ,R,h⟩=>h H (Same.refl H)⟩
theorem Nq (h:DE X e te):DO X (some e) (Ac4 te) where
  mono:=fun hq z=>h.mono (fun d z=>by
    split at z
    · exact hq _ z
    · exact z.elim) z
  po:=(Abl h.pe).imp fun σ H Q ⟨B,F,O,ρ,R,z⟩=>⟨B,F,O,ρ,R,h.mono (fun d z v H1 s1 r1=>by
    split at z
    · exact ⟨_,Bp.mp r1,z H1 s1⟩
    · exact z.elim) z⟩
noncomputable def cutD (xs:List Dt) (lo hi:Option Int):List Dt:=(xs.drop (HT.sIx xs.length 0 lo)).take (HT.sIx xs.length xs.length hi - HT.sIx xs.length 0 lo)
theorem RpL.cut {K:PySem.W.Frag} {H:Hp} {ds:List Dt} {xs:List V} {lo hi:Option Int} (h:RpL K H ds xs):RpL K H (cutD ds lo hi) (Yh xs lo hi):=by
  unfold cutD Yh
  rw [h.len]
  exact (h.drop _).take _
noncomputable def Aah (te:DTE) (tl th:DTO):DTE:=fun ρ Q=>te ρ fun d=>tl ρ fun lo=>th ρ fun hi=>match d with
  | .lst ds=>Q (.lst (cutD ds lo hi))
  | _=>False
theorem Oq {lo hi:Option Expr} {t1 t2:DTO} {p2:Pos} (he:DE X e te) (hl:DO X lo t1) (hh:DO X hi t2):DE X (.Subscript e (.Slice lo hi none p2) pos) (Aah te t1 t2) where
  mono:=fun hq z=>he.mono (fun d z=>hl.mono (fun l z=>hh.mono (fun h z=>by
    split at z
    · exact hq _ z
    · exact z.elim) z) z) z
  pe:=(YD Ab6 he.pe hl.po hh.po).imp fun σ H Q ⟨B,F,O,ρ,R,z⟩=>⟨B,F,O,ρ,R,he.mono (fun d z v H1 s1 r1=>⟨B,F,O,ρ,R.same s1,hl.mono (fun l z H2 s2=>⟨B,F,O,ρ,(R.same s1).same s2,hh.mono (fun h z H3 s3=>by
    split at z
    · obtain ⟨a,xs,rfl,hs,hr⟩:=Gh ((r1.mono s2.mask).mono s3.mask)
      refine ⟨a,xs,rfl,Bv.seq hs,fun p hp=>?_⟩
      have R3:=((R.same s1).same s2).same s3
      have np:p∉F ++ O:=fun m=>R3.th p m hp
      refine z (.ref p) _ (((s1.trans s2).trans s3).trans (Same.upd hp)) (K8 ⟨p,_,rfl,(Lb np),?_⟩)
      exact hr.cut.mono (Same.upd hp).mask
    · exact z.elim) z⟩) z⟩) z⟩
end
theorem AcE:TX "int":=fun K d h=>by cases d <;> first | rfl | cases h
theorem Zf:TX "bool":=fun K d h=>by cases d <;> first | rfl | cases h
theorem Mj:TX "tuple":=fun K d h=>by cases d <;> first | rfl | cases h
end L2
namespace L2
open PySem PySem.Spec PyProof.Rows PySem.SeqAt
theorem Kg (env:Env):∀ (names:List (Str × NameKind)) (cs:List (Str × Addr)),(∀ y∈names,y.2=.free→∃ c,env.cells.lookup y.1=some c)→(∀ n c,cs.lookup n=some c→env.cells.lookup n=some c) →
    ∃ cl,(forIn names cs fun (x:Str × NameKind) (r:List (Str × Addr))=>(if (x.2 == NameKind.free)=true then (do let c ←cellOf env x.1;pure (ForInStep.yield ((x.1,c) :: r))) else pure (ForInStep.yield r):Sem (ForInStep (List (Str × Addr)))))=pure cl ∧
      (∀ n c,cl.lookup n=some c→env.cells.lookup n=some c)∧(∀ n,(cs.lookup n).isSome=true→(cl.lookup n).isSome=true)∧∀ n,(n,NameKind.free)∈names→(cl.lookup n).isSome=true
  | [],cs,_,h2=>⟨cs,rfl,h2,fun _ h=>h,fun n h=>(nomatch h)⟩
  | (x,k) :: names,cs,h1,h2=>by
    rw [List.forIn_cons]
    by_cases hk:k=.free
    · subst hk
      obtain ⟨c,hc⟩:=h1 (x,.free) List.mem_cons_self rfl
      have e:cellOf env x=pure c:=by unfold cellOf;rw [hc]
      have h3:∀ n c',((x,c) :: cs).lookup n=some c'→env.cells.lookup n=some c':=fun n c' q=>by
        rw [List.lookup_cons] at q
        split at q
        · rename_i b;cases q;rw [eq_of_beq b];exact hc
        · exact h2 n c' q
      obtain ⟨cl,g1,g2,g3,g4⟩:=Kg env names ((x,c) :: cs) (fun y hy=>h1 y (List.mem_cons_of_mem _ hy)) h3
      refine ⟨cl,?_,g2,fun n q=>g3 n ?_,fun n hn=>?_⟩
      · simp only [beq_self_eq_true,if_true,e,pure_bind]
        exact g1
      · rw [List.lookup_cons];split
        · rfl
        · exact q
      · rcases List.mem_cons.mp hn with q | q
        · cases q
          exact g3 x (by rw [List.lookup_cons];simp)
        · exact g4 n q
    · have hb:(k == NameKind.free)=false:=by simpa using hk
      obtain ⟨cl,g1,g2,g3,g4⟩:=Kg env names cs (fun y hy=>h1 y (List.mem_cons_of_mem _ hy)) h2
      refine ⟨cl,?_,g2,g3,fun n hn=>?_⟩
      · simp only [hb,Bool.false_eq_true,if_false,pure_bind]
        exact g1
      · rcases List.mem_cons.mp hn with q | q
        · cases q;exact absurd rfl hk
        · exact g4 n q
theorem O9 {env:Env} {scope:Scope} (h:∀ y∈scope.names,y.2=.free→∃ c,env.cells.lookup y.1=some c) :
    ∃ cl,closureFor scope env=pure cl∧(∀ n c,cl.lookup n=some c→env.cells.lookup n=some c)∧∀ n,(n,NameKind.free)∈scope.names→∃ c,cl.lookup n=some c:=by
  obtain ⟨cl,g1,g2,_,g4⟩:=Kg env scope.names [] h (fun n c q=>by simp at q)
  refine ⟨cl,?_,g2,fun n q=>Option.isSome_iff_exists.mp (g4 n q)⟩
  unfold closureFor
  simp only [bind_pure]
  exact g1
noncomputable def Bk (X:Cx) (scope:Scope) (N:List Str) (cl:List (Str × Addr)) (C:Addr) (s₀:Shared) (H₀:Hp) (ex:List Addr):Cx where
  prog:=X.prog
  w:=X.w
  K:=X.K
  mg:=X.mg
  base:=X.base
  A:=X.A
  N:=N
  s₀:=s₀
  H₀:=H₀
  env:=compEnvC scope cl C X.env
  outer:=X.stack
  stack:=X.stack
  ex:=ex
  fn:=fun _=>false
  calm:=X.calm
  pn:=[]
  xe:=fun _ _=>False
noncomputable def PTs (X:Cx) (ifs:List Expr) (t:TT):Prop :=
  ∀ (pins:List (Addr × Obj)) (s:Shared) (σ:St) (H:Hp) (Q:Bool→Hp→Prop),Inv X pins σ H s→t σ H Q →
    wpAny (model X.prog X.w) X.A (forIn ifs true fun c r=>if r=true then do let ok ←isTrue c X.env (eval c X.env);pure (ForInStep.yield ok) else pure (ForInStep.yield r)) (TP X pins σ Q) X.xe s
theorem Abd {X:Cx}:PTs X [] (fun _ H Q=>Q true H):=fun pins s σ H Q I h=>wpAny_tests_nil ⟨H,I,h⟩
theorem Aba {X:Cx} {c:Expr} {t:TT} (h:PT X c t):PTs X [c] t:=fun pins s σ H Q I q=>wpAny_tests_one (h pins s σ H Q I q)
noncomputable def Ww (sl:List Nat) (wi:TI) (tt:TT) (te:TE):TE:=fun σ H Q=>wi σ H fun J H1=>∃ vs:List V,sl.map (fun j=>σ[j]?)=vs.map (fun v=>some (some v))∧∀ D,H1 D=none →
  ∃ W:Nat→Nat→List V→Hp→Prop,(∃ m,W 0 m [] (upd H1 D (.lst [])))∧∀ i m acc H,W i m acc H →
    (J.stop i H∧Q (.ref D) H) ∨
    (J.go i H∧∀ x H',J.yld i H x H'→tt (some x :: vs.map some) H' fun b H2 =>
      if b=true then te (some x :: vs.map some) H2 fun y H3=>H3 D=some (.lst acc)∧acc.length < sizeLine∧∃ m',m' < m∧W (i+1) m' (acc ++ [y]) (upd H3 D (.lst (acc ++ [y])))
      else ∃ m',m' < m∧W (i+1) m' acc H2)
theorem Gv {env:Env}:∀ {names:List (Str × NameKind)} {x:Str},names.lookup x=some .free→env.scope.kind=.function→env.kindOf x=some .cell →
    (names.map fun (n,k)=>if (k == NameKind.free && env.scope.kind == .function && env.kindOf n == some .cell) then (n,NameKind.cell) else (n,k)).lookup x=some .cell
  | [],_,h,_,_=>by simp at h
  | (n,k) :: r,x,h,hk,he=>by
    have ih:=@Gv env r x
    show List.lookup x ((if (k == NameKind.free && env.scope.kind == .function && env.kindOf n == some .cell)=true then (n,NameKind.cell) else (n,k)) :: _)=_
    cases hx:x == n with
    | true =>
      simp only [List.lookup_cons,hx] at h
      cases h
      have e:=eq_of_beq hx
      subst e
      simp [List.lookup_cons,hk,he]
    | false =>
      simp only [List.lookup_cons,hx] at h
      by_cases hc:(k == NameKind.free && env.scope.kind == .function && env.kindOf n == some .cell)=true
      · rw [if_pos hc];simp only [List.lookup_cons,hx];exact ih h hk he
      · rw [if_neg hc];simp only [List.lookup_cons,hx];exact ih h hk he
theorem KZ {env:Env}:∀ {names:List (Str × NameKind)} {x:Str},(∀ y∈names,y.2≠.cell) →
    ((names.map fun (n,k)=>if (k == NameKind.free && env.scope.kind == .function && env.kindOf n == some .cell) then (n,NameKind.cell) else (n,k)).lookup x=some .cell ∨
     (names.map fun (n,k)=>if (k == NameKind.free && env.scope.kind == .function && env.kindOf n == some .cell) then (n,NameKind.cell) else (n,k)).lookup x=some .free)→(x,NameKind.free)∈names
  | [],_,_,h=>by simp at h
  | (n,k) :: r,x,hn,h=>by
    have ih:=@KZ env r x fun y hy=>hn y (List.mem_cons_of_mem _ hy)
    have nk:k≠.cell:=hn (n,k) List.mem_cons_self
    rw [List.map_cons] at h
    by_cases hc:(k == NameKind.free && env.scope.kind == .function && env.kindOf n == some .cell)=true
    · simp only [hc,if_true,List.lookup_cons] at h
      have kf:k=.free:=by simp at hc;exact hc.1.1
      subst kf
      cases hx:x == n with
      | true=>rw [eq_of_beq hx];exact List.mem_cons_self
      | false=>simp only [hx] at h;exact List.mem_cons_of_mem _ (ih h)
    · have hc':(k == NameKind.free && env.scope.kind == .function && env.kindOf n == some .cell)=false:=by simpa using hc
      simp only [hc',Bool.false_eq_true,if_false,List.lookup_cons] at h
      cases hx:x == n with
      | true =>
        simp only [hx] at h
        have kf:k=.free:=by
          rcases h with h | h
          · exact absurd (Option.some.inj h) nk
          · exact Option.some.inj h
        subst kf
        rw [eq_of_beq hx];exact List.mem_cons_self
      | false=>simp only [hx] at h;exact List.mem_cons_of_mem _ (ih h)
section
variable {X:Cx} {elt iter:Expr} {x:Str} {px:Pos} {ifs:List Expr} {scope:Scope} {pos:Pos} {N:List Str} {sl:List Nat} {wi:TI} {tt:TT} {te:TE}
structure DX (X:Cx) (scope:Scope) (x:Str) (N:List Str) (sl:List Nat):Prop where
  hx:scope.names.lookup x=some .local
  kind:scope.kind=.function
  cell:∀ y∈scope.names,y.2≠.cell
  names:∀ y∈scope.names,y.2=.local→scope.names.lookup y.1=some .local
  free:∀ y∈scope.names,y.2=.free→X.env.kindOf y.1=some .cell
  nd:(x :: N).Nodup
  sl:N.map some=sl.map (fun j=>X.N[j]?)
  frN:∀ n∈N,scope.names.lookup n=some .free
theorem Uj (S:DX X scope x N sl) {pins:List (Addr × Obj)} {σ:St} {H:Hp} {s:Shared} {h₁:Heap} {tk:Nat} {fp:List Addr} {cl:List (Str × Addr)} {vs:List V} {o:Obj} (I:Inv X pins σ H s)
    (hfp:∀ b∈fp,KC X pins H b) (hob:∀ b∈fp,∃ o,s.heap.get? b=some o) (hns:h₁.Ns s.heap.objs.size (fun _=>none)) (hsb:Heap.SameBut s.heap.objs.size (s.heap.push o) h₁)
    (hcl:∀ n c,cl.lookup n=some c→X.env.cells.lookup n=some c) (hcl2:∀ n,(n,NameKind.free)∈scope.names→∃ c,cl.lookup n=some c)
    (hvs:sl.map (fun j=>σ[j]?)=vs.map (fun v=>some (some v))) :
    Inv (Bk X scope (x :: N) cl s.heap.objs.size s H fp) [] (none :: vs.map some) H { s with heap:=h₁,toks:=tk }:=by
  have hL:=I.lt
  have keep:∀ b o,s.heap.get? b=some o→h₁.get? b=some o:=fun b o e=>(hsb.2 b (Nat.ne_of_lt (Heap.lt_size e))).trans (Heap.get?_push_of_some _ e)
  have kf:X.env.scope.kind=.function:=I.ok.kind
  refine ⟨⟨I.ok.mod,?_,I.ok.glob,I.ok.blt,Nat.le_refl _,fun y z c h1 h2=>I.ok.inj y z c (hcl y c h1) (hcl z c h2),fun y hy=>?_,fun y c h=>(by cases h),I.ok.hd,I.ok.frames,.inl rfl,fun b hb=>⟨?_,fun y c e=>?_⟩,fun b o e=>I.bs b o e,
    Nat.le_trans I.ok.bsz I.sz,fun b o e hb=>?_,fun b hb hz=>?_,I.stack,I.stkFree⟩,rfl,I.bare,Un.kept keep,⟨_,hns,fun i y v e1 e2 e3=>?_⟩,fun y c e=>?_,I.hok.fresh (Nat.le_refl _),fun y c e=>I.freeC y c (hcl y c e),
    fun p hp=>absurd (show p∈([]:List (Addr × Obj)) from hp) (by simp),I.hok.kept keep,?_⟩
  · exact S.kind
  · exact hcl2 y (KZ (env:=X.env) (fun z hz=>S.cell z hz) hy)
  · obtain ⟨o',e⟩:=hob b hb
    exact Nat.ne_of_lt (Heap.lt_size e)
  · exact (hfp b hb).2.2.2.2.1 y c (hcl y c e)
  · rcases (hfp b hb).2.2.2.1 with z | z
    · exact I.ok.noex b o e z
    · exact absurd (Nat.lt_of_lt_of_le (Heap.lt_size e) (Nat.le_trans I.ok.bsz z)) (Nat.lt_irrefl _)
  · rcases List.mem_cons.mp (I.stkSub b hz) with q | q
    · exact (hfp b hb).2.1 q
    · exact (hfp b hb).2.2.1 q
  · cases i with
    | zero=>simp at e2
    | succ j =>
      have e1':N[j]? = some y:=by simpa [Bk] using e1
      have e2':vs[j]? = some v:=by
        rw [List.getElem?_cons_succ,List.getElem?_map] at e2
        cases q:vs[j]? with
        | none=>rw [q] at e2;cases e2
        | some v'=>rw [q] at e2;cases e2;rfl
      have q1:=congrArg (fun l=>l[j]?) S.sl
      have q2:=congrArg (fun l=>l[j]?) hvs
      simp only [List.getElem?_map,e1',e2',Option.map_some] at q1 q2
      cases hk:sl[j]? with
      | none=>rw [hk] at q1;cases q1
      | some k =>
        rw [hk] at q1 q2
        have n1:X.N[k]? = some y:=(Option.some.inj q1).symm
        have n2:σ[k]? = some (some v):=Option.some.inj q2
        have hfr:=S.frN y (List.mem_of_getElem? e1')
        have hm:=PySem.mem_of_lookup hfr
        have hc:=S.free _ hm rfl
        obtain ⟨m,hn,hl⟩:=I.loc
        obtain ⟨u,r,lk⟩:=hl k y v n1 n2 (.inr (.inl hc))
        refine ⟨u,r,.inr ⟨.inl (Gv hfr kf hc),?_⟩⟩
        rcases lk with ⟨kl,_⟩ | ⟨_,c,ec,⟨o',ho,hd⟩⟩
        · rw [hc] at kl;cases kl
        · obtain ⟨c',ec'⟩:=hcl2 y hm
          have:=hcl y c' ec'
          rw [ec] at this;cases this
          exact ⟨c,ec',o',keep _ _ ho,hd⟩
  · obtain ⟨v,o',ho,hd⟩:=I.cell y c (hcl y c e)
    exact ⟨v,o',keep _ _ ho,hd⟩
  · have l1:=congrArg List.length S.sl
    have l2:=congrArg List.length hvs
    simp only [List.length_map] at l1 l2
    simp [Bk];omega
theorem AbH (S:DX X scope x N sl) (hc:X.calm=true) (hi:PI X (.Name x px) iter wi) (ht:∀ cl C s₀ H₀ ex,PTs (Bk X scope (x :: N) cl C s₀ H₀ ex) ifs tt) (he:∀ cl C s₀ H₀ ex,PE (Bk X scope (x :: N) cl C s₀ H₀ ex) elt te)
    (hs:∀ x,foldedSetIterable iter X.env x=pure x:=by intro _;rfl):PE X (.ListComp elt [⟨.Name x px,iter,ifs,0⟩] scope pos) (Ww sl wi tt te):=by
  intro pins s σ H Q I h
  obtain ⟨cl,hclos,hcl,hcl2⟩:=O9 (env:=X.env) (scope:=scope) fun y hy hf=>I.ok.has y.1 (.inl (S.free y hy hf))
  rw [eval_ListComp]
  refine wpAny_comprehension_free (use:=none) rfl hs hclos S.kind S.names (thn (hi pins s σ H _ I h) fun v s1 h1=>thn h1 fun itv s2 h2=>?_)
  obtain ⟨it,fp,tn,J,H2,e,I2,T,st2,f2,vs,hvs,hW⟩:=h2
  subst e
  refine wpAny_newObj_type (wpAny_newFunctionEnv S.cell (by intro y hy;simp at hy) (fun h₁ hns₁ hsb₁=>?_) S.kind)
  have hD:H2 s2.heap.objs.size=none:=I2.fresh
  have I3:Inv X pins σ (upd H2 s2.heap.objs.size (.lst [])) { s2 with heap:=s2.heap.push { cls:=.type "list",data:=.seq ([]:List Value).toArray },toks:=s2.toks }:=I2.lnew (its:=[]) (ys:=[]) .nil (Nat.zero_le _)
  have hbD:∀ b∈fp,b≠s2.heap.objs.size:=fun b hb z=>by
    obtain ⟨o',e',_⟩:=T.obj _ _ st2 b hb
    exact absurd (Heap.lt_size e') (by rw [z];exact Nat.lt_irrefl _)
  have f3:∀ b∈fp,KC X pins (upd H2 s2.heap.objs.size (.lst [])) b:=fun b hb=>⟨by rw [Bg (hbD b hb)];exact (f2 b hb).1,(f2 b hb).2⟩
  have ob3:∀ b∈fp,∃ o,(s2.heap.push { cls:=.type "list",data:=.seq ([]:List Value).toArray }).get? b=some o:=fun b hb=>by
    obtain ⟨o',e',_⟩:=T.obj _ _ st2 b hb
    exact ⟨o',Heap.get?_push_of_some _ e'⟩
  have IC:=Uj (tk:=s2.toks+([]:List (Str × Value)).length) S I3 f3 ob3 hns₁ hsb₁ hcl hcl2 hvs
  dsimp only at hsb₁ IC ⊢
  generalize hCC:(s2.heap.push { cls:=.type "list",data:=.seq ([]:List Value).toArray }).objs.size=C at hns₁ hsb₁ IC ⊢
  have old:∀ b o,s2.heap.get? b=some o→h₁.get? b=some o:=fun b o e=>by
    have e1:(s2.heap.push { cls:=.type "list",data:=.seq ([]:List Value).toArray }).get? b=some o:=Heap.get?_push_of_some _ e
    exact (hsb₁.2 b (by rw [←hCC];exact Nat.ne_of_lt (Heap.lt_size e1))).trans (Heap.get?_push_of_some _ e1)
  have st₁:tn 0 h₁:=T.keep _ _ _ st2 fun b hb o e=>old b o e
  obtain ⟨W,⟨m0,w0⟩,turn⟩:=hW s2.heap.objs.size hD
  have fpC:∀ {H':Hp} {pl:List (Addr × Obj)},(∀ b∈fp,H' b=none)→(∀ p∈pl,p.1∉fp)→∀ b∈fp,KC (Bk X scope (x :: N) cl C { s2 with heap:=s2.heap.push { cls:=.type "list",data:=.seq ([]:List Value).toArray },toks:=s2.toks } (upd H2 s2.heap.objs.size (.lst [])) fp) pl H' b:=fun {H' pl} hn hp b hb=>by
    refine ⟨hn b hb,(IC.ok.exf b hb).1,IC.ok.exfs b hb,.inl hb,(IC.ok.exf b hb).2,fun p hq z=>?_⟩
    have hq':p∈pl:=by simpa [Bk] using hq
    exact hp p hq' (by rw [z];exact hb)
  have done:∀ {σ':St} {H':Hp} {s':Shared},Inv (Bk X scope (x :: N) cl C { s2 with heap:=s2.heap.push { cls:=.type "list",data:=.seq ([]:List Value).toArray },toks:=s2.toks } (upd H2 s2.heap.objs.size (.lst [])) fp) [] σ' H' s'→Q (.ref s2.heap.objs.size) H' →
      ∃ m,s'.heap.Ns C m∧∀ h',Heap.SameBut C s'.heap h'→EP X pins σ Q (.ref s2.heap.objs.size) { s' with heap:=h' }:=fun {σ' H' s'} J q=>by
    obtain ⟨m,hn,_⟩:=id J.loc
    refine ⟨m,hn,fun h' hs'=>⟨.ref s2.heap.objs.size,H',?_,rfl,q⟩⟩
    have u:Un (frs X.stack) fp H2 H' s2.heap s'.heap:=(Un.laid (fun b u e=>Heap.get?_push_of_some _ e) (Nat.le_refl _) hD).trans J.base
    have nC:∀ b o,s2.heap.get? b=some o→b≠C:=fun b o e=>by
      have e1:(s2.heap.push { cls:=.type "list",data:=.seq ([]:List Value).toArray }).get? b=some o:=Heap.get?_push_of_some _ e
      rw [←hCC];exact Nat.ne_of_lt (Heap.lt_size e1)
    have u':Un (frs X.stack) fp H2 H' s2.heap h' :=
      ⟨fun b o e n hb hx=>(hs'.2 b (nC b o e)).trans (u.keep b o e n hb hx),fun b o e n hb hx=>let ⟨sl,q⟩:=u.slot b o e n hb hx;⟨sl,(hs'.2 b (nC b o e)).trans q⟩,u.free,fun b o e hx=>let ⟨o',q⟩:=u.there b o e hx;⟨o',(hs'.2 b (nC b o e)).trans q⟩,u.tups,u.frzs,u.tbls⟩
    have hok:HOk X.prog X.w H' h':=fun b ob e=>(J.hok b ob e).stay (fun c w' hc q=>(hs'.2 c (by
      rintro rfl
      have hf:H' c=none:=J.free
      rcases hc with rfl | hc
      · rw [hf] at e;cases e
      · rw [hf] at hc;cases hc)).trans q) (fun _ q=>q) fun _ _ q=>q
    have hos:s'.os=s2.os:=J.os
    exact I2.call' (s':={ s' with heap:=h' }) (ch:=fp) hos u' hok J.bare fun b hb=>⟨(f2 b hb).2.2.2.1,(f2 b hb).2.1,(f2 b hb).2.2.2.2.1,(f2 b hb).2.2.2.2.2⟩
  have loop:codeAny (model X.prog X.w) X.A (.compLoop (.ListComp elt [⟨.Name x px,iter,ifs,0⟩] scope pos) 0 (.ref it) (.ref s2.heap.objs.size) (compEnvC scope cl C X.env)) (compPost (model X.prog X.w) X.A X.xe none (EP X pins σ Q) (.ref s2.heap.objs.size) C)
      { s2 with heap:=h₁,toks:=s2.toks+([]:List (Str × Value)).length }:=by
    refine codeAny_compLoop_tests (fun n s'=>∃ i acc σ' H',Inv (Bk X scope (x :: N) cl C { s2 with heap:=s2.heap.push { cls:=.type "list",data:=.seq ([]:List Value).toArray },toks:=s2.toks } (upd H2 s2.heap.objs.size (.lst [])) fp) [] σ' H' s'∧(∃ y,σ'=y :: vs.map some) ∧
      tn i s'.heap∧(∀ b∈fp,H' b=none)∧W i n acc H') ?_ m0 ⟨0,[],_,_,IC,⟨none,rfl⟩,st₁,fun b hb=>(f3 b hb).1,w0⟩
    rintro n s3 ⟨i,acc,σ3,H3,I4,⟨y,rfl⟩,st3,fr3,w3⟩
    rcases turn i n acc H3 w3 with ⟨stop,qn⟩ | ⟨go,step⟩
    · refine wpAny_mono (T.done (Bk X scope (x :: N) cl C { s2 with heap:=s2.heap.push { cls:=.type "list",data:=.seq ([]:List Value).toArray },toks:=s2.toks } (upd H2 s2.heap.objs.size (.lst [])) fp) rfl rfl rfl hc i [] s3 _ H3 (fun _ _=>False) I4 (fpC fr3 (by simp)) st3 stop) (fun r s4 ⟨hr,I5⟩=>?_) fun _ _ z=>False.elim z
      subst hr
      exact done I5 qn
    · refine wpAny_mono (T.item (Bk X scope (x :: N) cl C { s2 with heap:=s2.heap.push { cls:=.type "list",data:=.seq ([]:List Value).toArray },toks:=s2.toks } (upd H2 s2.heap.objs.size (.lst [])) fp) rfl rfl rfl hc i [] s3 _ H3 (fun _ _=>False) I4 (fpC fr3 (by simp)) st3 go) (fun r s4 ⟨u,hr,h4⟩=>?_) fun _ _ z=>False.elim z
      subst hr
      have e0:∀ (k:Unit→Sem Unit),(letOwnedTupleGo (.Name x px) (.ref it) u >>= k)=k ():=fun k=>rfl
      have hg:PG (Bk X scope (x :: N) cl C { s2 with heap:=s2.heap.push { cls:=.type "list",data:=.seq ([]:List Value).toArray },toks:=s2.toks } (upd H2 s2.heap.objs.size (.lst [])) fp) (.Name x px) (Xd 0):=RG S.nd rfl (.inl (lookup_relabel_local S.hx)) (.inr (lookup_relabel_local S.hx))
      show wpAny (model X.prog X.w) X.A (assign (.Name x px) (compEnvC scope cl C X.env) u) _ _ s4
      rw [←e0 fun _=>assign (.Name x px) (compEnvC scope cl C X.env) u]
      refine wpAny_bind (wpAny_mono h4 (fun _ s5 ⟨z,H5,I5,r5,y5,st5,fr5⟩=>?_) fun _ _ z=>False.elim z)
      have I5':=I5.pinned (fpC fr5 (by simp)) (T.obj _ _ st5)
      have W5:=hg _ s5 _ H5 z u (fun σ' H'=>σ'=some z :: vs.map some∧H'=H5) I5' r5 ⟨rfl,rfl⟩
      refine wpAny_mono W5 (fun _ s6 ⟨σ6,H6,I6,e6,e7⟩=>?_) fun _ _ z=>False.elim z
      subst e6 e7
      refine wpAny_mono (ht _ _ _ _ _ _ s6 _ H6 _ I6 (step z H6 y5)) (fun b s7 ⟨H7,I7,q7⟩=>?_) fun _ _ z=>False.elim z
      have again:∀ {H8:Hp} {s8:Shared} {acc':List V},Inv (Bk X scope (x :: N) cl C { s2 with heap:=s2.heap.push { cls:=.type "list",data:=.seq ([]:List Value).toArray },toks:=s2.toks } (upd H2 s2.heap.objs.size (.lst [])) fp) ([] ++ Ms fp s5.heap) (some z :: vs.map some) H8 s8→(∃ m',m' < n∧W (i+1) m' acc' H8)→∃ m,m < n∧∃ i acc σ' H',Inv (Bk X scope (x :: N) cl C { s2 with heap:=s2.heap.push { cls:=.type "list",data:=.seq ([]:List Value).toArray },toks:=s2.toks } (upd H2 s2.heap.objs.size (.lst [])) fp) [] σ' H' s8∧(∃ y,σ'=y :: vs.map some)∧tn i s8.heap∧(∀ b∈fp,H' b=none)∧W i m acc H':=fun {H8 s8 acc'} I8 ⟨m',hm,w8⟩=>by
        refine ⟨m',hm,i+1,acc',_,H8,I8.unpinned,⟨_,rfl⟩,T.keep _ _ _ st5 fun b hb o e=>(I8.pin (b,o) (List.mem_append_right _ (List.mem_append_right _ (Gf hb e)))).1,fun b hb=>?_,w8⟩
        obtain ⟨o,e,d⟩:=T.obj _ _ st5 b hb
        exact (I8.pin (b,o) (List.mem_append_right _ (List.mem_append_right _ (Gf hb e)))).2.1
      cases b with
      | false=>exact again I7 q7
      | true =>
        rw [if_pos rfl]
        refine wpAny_mono (he _ _ _ _ _ _ s7 _ H7 _ I7 q7) (fun v8 s8 ⟨x8,H8,I8,r8,hD8,hz8,q8⟩=>?_) fun _ _ z=>False.elim z
        refine wpAny_mono (Mx (X:=(Bk X scope (x :: N) cl C { s2 with heap:=s2.heap.push { cls:=.type "list",data:=.seq ([]:List Value).toArray },toks:=s2.toks } (upd H2 s2.heap.objs.size (.lst [])) fp)) _ s8 _ H8 (.ref s2.heap.objs.size) [x8] (.ref s2.heap.objs.size) [v8] (fun _ H9=>H9=upd H8 s2.heap.objs.size (.lst (acc ++ [x8]))) I8 rfl (.cons r8 .nil) ⟨_,acc,x8,rfl,rfl,hD8,hz8,rfl⟩) (fun _ s9 ⟨_,H9,I9,_,e9⟩=>?_) fun _ _ z=>False.elim z
        subst e9
        exact again I9 q8
  exact codeAny_compStart_list loop (T.self _ 0 _ _ _ st₁ loop)
noncomputable def inner (sl:List Nat) (ρ:Ce) (d:Dt):Ce:=some (.is d) :: sl.map fun j=>(ρ[j]?).join
structure DTs (X:Cx) (ifs:List Expr) (t:DTT):Prop where
  mono:∀ {ρ Q Q'},(∀ d,Q d→Q' d)→t ρ Q→t ρ Q'
  pts:PTs X ifs (lT X.K t)
noncomputable def KD:DTT:=fun _ Q=>Q true
theorem Ry:DTs X [] KD:=⟨fun hq h=>hq _ h,fun pins s σ H Q I ⟨B,F,O,ρ,R,h⟩=>Abd pins s σ H Q I (h H (Same.refl H))⟩
theorem Acr {c:Expr} {t:DTT} (h:DT X c t):DTs X [c] t:=⟨h.mono,Aba h.pt⟩
noncomputable def caught (sl:List Nat) (ρ:Ce):Prop:=∀ j∈sl,∃ d,ρ[j]? = some (some (.is d))
noncomputable def JX (sl:List Nat) (ti:DTI) (tt:DTT) (te:DTE):DTE:=fun ρ Q=>ti ρ fun items=>items.length≤sizeLine∧caught sl ρ ∧
  ∃ W:Nat→List Dt→Prop,W 0 []∧(∀ (k:Nat) d acc,items[k]? = some d→W k acc→tt (inner sl ρ d) fun b=>if b=true then te (inner sl ρ d) fun e=>W (k+1) (acc ++ [e]) else W (k+1) acc) ∧
    ∀ acc,acc.length≤items.length→W items.length acc→Q (.lst acc)
theorem Jg {K:PySem.W.Frag} {B:Hp} {F O:List Addr} {H:Hp} {σ:St} {ρ:Ce} (R:Rep K B F O H σ ρ):∀ {sl:List Nat},caught sl ρ→∃ vs ds,sl.map (fun j=>σ[j]?)=vs.map (fun v=>some (some v))∧sl.map (fun j=>(ρ[j]?).join)=ds.map (fun d=>some (En.is d))∧RpL K (mask (F ++ O) H) ds vs
  | [],_=>⟨[],[],rfl,rfl,RpL.nil⟩
  | j :: sl,h=>by
    obtain ⟨d,e⟩:=h j List.mem_cons_self
    obtain ⟨v,e1,e2⟩:=R.is j d e
    obtain ⟨vs,ds,h1,h2,h3⟩:=Jg R (sl:=sl) fun k hk=>h k (List.mem_cons_of_mem _ hk)
    exact ⟨v :: vs,d :: ds,by simp [e1,h1],by simp [e,h2],RpL.cons e2 h3⟩
theorem Rm {K:PySem.W.Frag} {F:List Addr} {H:Hp} {d:Dt} {v:V} {ds:List Dt} {vs:List V} (th:∀ a∈F,H a≠none) (r:Rp K (mask F H) d v) (rs:RpL K (mask F H) ds vs) :
    Rep K (fun _=>none) F [] H (some v :: vs.map some) (some (.is d) :: ds.map fun d=>some (En.is d)):=by
  have e:mask (F ++ []) H=mask F H:=by rw [List.append_nil]
  have noown:∀ (i:Nat) es,(some (En.is d) :: ds.map fun d=>some (En.is d))[i]? = some (some (.own es))→False:=fun i es q=>by
    cases i with
    | zero=>cases q
    | succ j =>
      rw [List.getElem?_cons_succ,List.getElem?_map] at q
      cases z:ds[j]? with
      | none=>rw [z] at q;cases q
      | some y=>rw [z] at q;cases q
  refine ⟨by simp [rs.len],fun a o q=>(nomatch q),fun a h=>(nomatch h),fun a h=>th a (by simpa using h),fun i y q=>?_,fun i es q=>(noown i es q).elim,fun i j es es' a h1=>(noown i es h1).elim⟩
  rw [e]
  cases i with
  | zero=>cases q;exact ⟨v,rfl,r⟩
  | succ j =>
    rw [List.getElem?_cons_succ,List.getElem?_map] at q
    cases z:ds[j]? with
    | none=>rw [z] at q;cases q
    | some y' =>
      rw [z] at q;cases q
      obtain ⟨u,h1,h2⟩:=rs.get z
      exact ⟨u,by rw [List.getElem?_cons_succ,List.getElem?_map,h1];rfl,h2⟩
theorem T6 {K:PySem.W.Frag} {sl:List Nat} {ti:DTI} {dt:DTT} {de:DTE} (mi:∀ {ρ Q Q'},(∀ d,Q d→Q' d)→ti ρ Q→ti ρ Q') (mt:∀ {ρ Q Q'},(∀ d,Q d→Q' d)→dt ρ Q→dt ρ Q') (me:∀ {ρ Q Q'},(∀ d,Q d→Q' d)→de ρ Q→de ρ Q')
    (σ:St) (H:Hp) (Q:VK) (h:lE K (JX sl ti dt de) σ H Q):Ww sl (lI K ti) (lT K dt) (lE K de) σ H Q:=by
  obtain ⟨B,F,O,ρ,R,h⟩:=h
  refine ⟨B,F,O,ρ,R,mi (fun items ⟨h1,h2,W,w0,st,fin⟩ J H1 s1 it=>?_) h⟩
  have R1:=R.same s1
  obtain ⟨vs,ds,ev,ed,rs⟩:=Jg R1 h2
  refine ⟨vs,ev,fun D hD=>?_⟩
  have nD:D∉F ++ O:=fun z=>R1.th D z hD
  have sM:Same (mask (F ++ O) H1) (mask (F ++ O) (upd H1 D (.lst []))):=(Same.upd hD).mask
  refine ⟨fun i m acc H2=>m+i=items.length∧H2 D=some (.lst acc)∧acc.length≤i∧Same H1 H2∧∃ as,RpL K (mask (D :: (F ++ O)) H2) as acc∧W i as,⟨items.length,by omega,BP,Nat.le_refl _,Same.upd hD,[],RpL.nil,w0⟩,?_⟩
  rintro i m acc H2 ⟨hm,e2,hl,s2,as,ra,w⟩
  have sb:Same (mask (F ++ O) H1) H2:=fun a o e=>s2 a o (Cu e).2
  have sD:Same (mask (F ++ O) H1) (mask (D :: (F ++ O)) H2):=fun a o e=>by
    obtain ⟨q,e⟩:=Cu e
    rw [Bf fun z=>by
      rcases List.mem_cons.mp z with z | z
      · rw [z,hD] at e;cases e
      · exact q z]
    exact s2 a o e
  obtain ⟨go,stop⟩:=it H2 sb
  by_cases hlt:i < items.length
  · refine .inr ⟨(go i items[i] (by simp [hlt])).1,fun z H3 y=>?_⟩
    obtain ⟨e,r⟩:=(go i items[i] (by simp [hlt])).2 z H3 y
    subst e
    have th:∀ a∈D :: (F ++ O),H3 a≠none:=fun a ha q=>by
      rcases List.mem_cons.mp ha with z | z
      · rw [z,e2] at q;cases q
      · have:=R1.th a z
        cases q':H1 a with
        | none=>exact this q'
        | some o=>rw [s2 a o q'] at q;cases q
    have R3:=Rm th (r.mono sD) (rs.mono sD)
    have ei:some (En.is items[i]) :: ds.map (fun d=>some (En.is d))=inner sl ρ items[i]:=by unfold inner;rw [ed]
    rw [ei] at R3
    refine ⟨_,_,_,_,R3,mt (fun b q H4 s4=>?_) (st i _ as (by simp [hlt]) w)⟩
    cases b with
    | false =>
      refine ⟨m - 1,by omega,by omega,s4 _ _ e2,by omega,s2.trans s4,as,ra.mono s4.mask,q⟩
    | true =>
      refine ⟨_,_,_,_,R3.same s4,me (fun e q v5 H5 s5 r5=>?_) q⟩
      have e5:H5 D=some (.lst acc):=s5 _ _ (s4 _ _ e2)
      have hz:acc.length < sizeLine:=by omega
      have s6:Same (mask (D :: (F ++ O)) H5) (mask (D :: (F ++ O)) (upd H5 D (.lst (acc ++ [v5])))):=fun a o q=>by
        obtain ⟨n,q⟩:=Cu q
        rw [Bf n,Bg fun z=>n (by rw [z];exact List.mem_cons_self)];exact q
      have em:mask (D :: (F ++ O) ++ []) H5=mask (D :: (F ++ O)) H5:=by rw [List.append_nil]
      rw [em] at r5
      refine ⟨e5,hz,m - 1,by omega,by omega,BP,by simp;omega,fun a o q=>?_,as ++ [e],(((ra.mono s4.mask).mono s5.mask).append (RpL.cons r5 RpL.nil)).mono s6,q⟩
      rw [Bg (BK q hD)]
      exact s5 _ _ (s4 _ _ (s2 a o q))
  · have e:i=items.length:=by omega
    subst e
    refine .inl ⟨stop,fin as (by rw [←ra.len];exact hl) w (.ref D) H2 (s1.trans s2) (K8 ⟨D,acc,rfl,(by rw [Bf nD];exact e2),ra.mono (G7 fun a h=>List.mem_cons_of_mem _ h)⟩)⟩
theorem Ub {ti:DTI} {dt:DTT} {de:DTE} (S:DX X scope x N sl) (hc:X.calm=true) (hi:DI X (.Name x px) iter ti) (ht:∀ cl C s₀ H₀ ex,DTs (Bk X scope (x :: N) cl C s₀ H₀ ex) ifs dt) (he:∀ cl C s₀ H₀ ex,DE (Bk X scope (x :: N) cl C s₀ H₀ ex) elt de)
    (hs:∀ x,foldedSetIterable iter X.env x=pure x:=by intro _;rfl):DE X (.ListComp elt [⟨.Name x px,iter,ifs,0⟩] scope pos) (JX sl ti dt de):=by
  have mt:∀ {ρ Q Q'},(∀ d,Q d→Q' d)→dt ρ Q→dt ρ Q':=(ht [] 0 X.s₀ X.H₀ []).mono
  have me:∀ {ρ Q Q'},(∀ d,Q d→Q' d)→de ρ Q→de ρ Q':=(he [] 0 X.s₀ X.H₀ []).mono
  refine ⟨fun hq h=>hi.mono (fun items ⟨h1,h2,W,w0,st,fin⟩=>⟨h1,h2,W,w0,st,fun acc l w=>hq _ (fin acc l w)⟩) h,?_⟩
  refine (AbH (tt:=lT X.K dt) (te:=lE X.K de) S hc hi.pi (fun cl C s₀ H₀ ex=>(ht cl C s₀ H₀ ex).pts) (fun cl C s₀ H₀ ex=>(he cl C s₀ H₀ ex).pe) hs).imp (T6 (ti:=ti) (dt:=dt) (de:=de) hi.mono mt me)
theorem Np {ti:DTI} {de:DTE} (S:DX X scope x N sl) (hc:X.calm=true) (hi:DI X (.Name x px) iter ti) (he:∀ cl C s₀ H₀ ex,DE (Bk X scope (x :: N) cl C s₀ H₀ ex) elt de)
    (hs:∀ x,foldedSetIterable iter X.env x=pure x:=by intro _;rfl):DE X (.ListComp elt [⟨.Name x px,iter,[],0⟩] scope pos) (JX sl ti KD de):=Ub S hc hi (fun _ _ _ _ _=>Ry) he hs
theorem Aas {c:Expr} {ti:DTI} {dt:DTT} {de:DTE} (S:DX X scope x N sl) (hc:X.calm=true) (hi:DI X (.Name x px) iter ti) (ht:∀ cl C s₀ H₀ ex,DT (Bk X scope (x :: N) cl C s₀ H₀ ex) c dt) (he:∀ cl C s₀ H₀ ex,DE (Bk X scope (x :: N) cl C s₀ H₀ ex) elt de)
    (hs:∀ x,foldedSetIterable iter X.env x=pure x:=by intro _;rfl):DE X (.ListComp elt [⟨.Name x px,iter,[c],0⟩] scope pos) (JX sl ti dt de):=Ub S hc hi (fun _ _ _ _ _=>Acr (ht _ _ _ _ _)) he hs
end
end L2
namespace L2
open PySem PySem.Spec PyProof.Rows PySem.SeqAt
noncomputable def AcZ (sc scope:Scope) (NN:List Str) (x:Str) (N:List Str) (sl:List Nat):Bool :=
  decide (scope.names.lookup x=some .local) && decide (scope.kind=.function) && scope.names.all (fun y=>decide (y.2≠.cell)) && scope.names.all (fun y=>decide (y.2=.local→scope.names.lookup y.1=some .local)) &&
    scope.names.all (fun y=>decide (y.2=.free→sc.names.lookup y.1=some .cell)) && decide (x :: N).Nodup && decide (N.map some=sl.map (fun j=>NN[j]?)) && N.all (fun n=>decide (scope.names.lookup n=some .free))
theorem Fg {X:Cx} {sc scope:Scope} {NN:List Str} {x:Str} {N:List Str} {sl:List Nat} (h1:X.env.scope=sc) (h2:X.N=NN) (h:AcZ sc scope NN x N sl=true):DX X scope x N sl:=by
  subst h1 h2
  unfold AcZ at h
  simp only [Bool.and_eq_true,decide_eq_true_eq,List.all_eq_true] at h
  obtain ⟨⟨⟨⟨⟨⟨⟨a,b⟩,c⟩,d⟩,e⟩,f⟩,g⟩,i⟩:=h
  exact ⟨a,b,c,d,e,f,g,i⟩
noncomputable def Bt (n:Nat) (x:Int):Prop:=x.natAbs < 2 ^ n
theorem Bt.le {n m:Nat} {x:Int} (h:Bt n x) (l:n≤m):Bt m x:=Nat.lt_of_lt_of_le h (Nat.pow_le_pow_right (by decide) l)
theorem Bt.mul {n m:Nat} {x y:Int} (a:Bt n x) (b:Bt m y):Bt (n+m) (x*y):=by
  unfold Bt at *
  rw [Int.natAbs_mul,Nat.pow_add]
  exact Nat.mul_lt_mul'' a b
theorem Bt.add {n m:Nat} {x y:Int} (a:Bt n x) (b:Bt m y):Bt (max n m+1) (x+y):=by
  have a':=a.le (Nat.le_max_left n m)
  have b':=b.le (Nat.le_max_right n m)
  unfold Bt at *
  rw [Nat.pow_succ]
  have:=Int.natAbs_add_le x y
  omega
theorem Bt.neg {n:Nat} {x:Int} (a:Bt n x):Bt n (-x):=by unfold Bt at *;rw [Int.natAbs_neg];exact a
theorem Bt.sub {n m:Nat} {x y:Int} (a:Bt n x) (b:Bt m y):Bt (max n m+1) (x - y):=by rw [Int.sub_eq_add_neg];exact a.add b.neg
theorem Bt.of_abs {n:Nat} {x:Int} (h:x.natAbs < 2 ^ n):Bt n x:=h
theorem Bt.of {n:Nat} {x:Int} (h1:-(2 ^ n) < x) (h2:x < 2 ^ n):Bt n x:=by
  unfold Bt
  have:((x.natAbs:Nat):Int) < ((2 ^ n:Nat):Int):=by push_cast;omega
  omega
theorem Bt.mulOk {n m:Nat} {x y:Int} (a:Bt n x) (b:Bt m y) (hn:n≤1048576:=by decide) (hm:m≤1048576:=by decide):IntMulOk x y :=
  IntMulOk.of_bits (intBits_le_iff.mpr (a.le hn)) (intBits_le_iff.mpr (b.le hm))
theorem Bt.divOk {n:Nat} {x y:Int} (a:Bt n y) (h:y≠0) (hn:n≤9000:=by decide):CDv x y:=⟨h,a.le hn⟩
theorem Bt.zero:Bt 0 0:=by unfold Bt;decide
theorem Bt.one:Bt 1 1:=by unfold Bt;decide
end L2
namespace L2
open PySem PySem.Spec PyProof.Rows PySem.SeqAt
section
variable {a b c d e f:Dt} {r s:List Dt} {i j:Int} {k l:Bool} {n:Nat} {x y:Str}
theorem Ajo:ixD 0 (.tup (a :: r))=some a:=rfl
theorem AkM:ixD 1 (.tup (a :: b :: r))=some b:=rfl
theorem Akr:ixD 2 (.tup (a :: b :: c :: r))=some c:=rfl
theorem Alu:ixD 3 (.tup (a :: b :: c :: d :: r))=some d:=rfl
theorem Aj6:ixD 0 (.lst (a :: r))=some a:=rfl
theorem AkC:ixD 1 (.lst (a :: b :: r))=some b:=rfl
theorem Aks:ixD 2 (.lst (a :: b :: c :: r))=some c:=rfl
theorem AkK:ixD 3 (.lst (a :: b :: c :: d :: r))=some d:=rfl
theorem M6:Dt.eq (.int i) (.int j)=decide (i=j):=by rw [Dt.eq]
theorem Aiy:Dt.eq (.bl k) (.bl l)=(k == l):=by rw [Dt.eq]
theorem Ue:Dt.eq (.str x) (.str y)=(x == y):=by rw [Dt.eq]
theorem Agk:Dt.eq .non .non=true:=by rw [Dt.eq]
theorem Aik:Dt.eq .non (.int i)=false:=by simp [Dt.eq]
theorem AfM:Dt.eq .non (.tup r)=false:=by simp [Dt.eq]
theorem Agj:Dt.eq (.tup r) .non=false:=by simp [Dt.eq]
theorem WR:Dt.eq (.tup r) (.tup s)=Dt.eqs r s:=by rw [Dt.eq]
theorem AgC:Dt.eq (.lst r) (.lst s)=Dt.eqs r s:=by rw [Dt.eq]
theorem V3:Dt.eqs [] []=true:=by rw [Dt.eqs]
theorem VN:Dt.eqs (a :: r) (b :: s)=(Dt.eq a b && Dt.eqs r s):=by rw [Dt.eqs]
theorem AeC:Dt.eqs [] (b :: s)=false:=by simp [Dt.eqs]
theorem Ad0:Dt.eqs (b :: s) []=false:=by simp [Dt.eqs]
theorem Iw:Dt.flat n (.int i)=true:=by cases n <;> rw [Dt.flat] <;> simp
theorem Ael:Dt.flat n (.bl k)=true:=by cases n <;> rw [Dt.flat] <;> simp
theorem Aez:Dt.flat n .non=true:=by cases n <;> rw [Dt.flat] <;> simp
theorem Wf:Dt.flat (n+1) (.tup r)=Dt.flats n r:=by rw [Dt.flat]
theorem Z9:Dt.flat (n+1) (.lst r)=Dt.flats n r:=by rw [Dt.flat]
theorem S8:Dt.flat 8 (.tup r)=Dt.flats 7 r:=Wf
theorem Acv:Dt.flat 8 (.lst r)=Dt.flats 7 r:=Z9
theorem Abs:Dt.flat 7 (.tup r)=Dt.flats 6 r:=Wf
theorem Abu:Dt.flat 7 (.lst r)=Dt.flats 6 r:=Z9
theorem AbN:Dt.flat 6 (.tup r)=Dt.flats 5 r:=Wf
theorem RX:Dt.flats n []=true:=by rw [Dt.flats]
theorem RV:Dt.flats n (a :: r)=(Dt.flat n a && Dt.flats n r):=by rw [Dt.flats]
theorem OD {N:Str} {M:List Str}:Fw (N :: M) (a :: r)=some (.is a) :: Fw M r:=by
  unfold Fw
  simp only [List.map_cons,List.length_cons,List.cons_append,Nat.add_sub_add_right]
theorem Pq {N:Str} {M:List Str}:Fw (N :: M) []=none :: Fw M []:=by
  unfold Fw
  simp [List.replicate_succ]
theorem PL:Fw [] []=[]:=rfl
theorem Am (h:n≤1000):n≤sizeLine:=Nat.le_of_lt (XF h)
theorem Afh:isT "tuple" (.tup r)=true:=rfl
theorem Afg:isT "list" (.lst r)=true:=rfl
theorem Afe:isT "int" (.int i)=true:=rfl
theorem Aeg:isT "bool" (.int i)=false:=rfl
theorem AdS:isT "int" (.bl k)=true:=rfl
theorem AeV:isT "bool" (.bl k)=true:=rfl
theorem AeP:isT "tuple" .non=false:=rfl
theorem AeU:isT "int" .non=false:=rfl
theorem Ad8:isT "int" (.tup r)=false:=rfl
theorem Ae1:isT "bool" (.tup r)=false:=rfl
theorem Akk:noFn (.int i)=true:=rfl
theorem Ak8:noFn (.bl k)=true:=rfl
theorem Ajg:noFn .non=true:=rfl
theorem Ajs:noFn (.tup r)=true:=rfl
theorem Akm:noFn (.lst r)=true:=rfl
theorem Ajy:noFn (.str x)=true:=rfl
theorem AhY:isB true (.bl k)=k:=by cases k <;> rfl
theorem Af7:isB false (.bl k) = !k:=by cases k <;> rfl
theorem Af8:isB k (.int i)=false:=rfl
theorem Aja:isB k .non=false:=rfl
theorem Afp:isB k (.tup r)=false:=rfl
theorem Aic:isB k (.lst r)=false:=rfl
theorem AiB:isN .non=true:=rfl
theorem AfV:isN (.int i)=false:=rfl
theorem Ah4:isN (.bl k)=false:=rfl
theorem AhM:isN (.tup r)=false:=rfl
theorem Aie:isN (.lst r)=false:=rfl
end
end L2
namespace L2
open PySem PySem.Spec PyProof.Rows PySem.SeqAt
theorem ifn {c:Bool} {A B:Prop} (h:c=true) (b:B):if (!c)=true then A else B:=by subst h;exact b
theorem ift {c:Bool} {A B:Prop} (h:c=true) (a:A):if c=true then A else B:=by subst h;exact a
theorem FQ {c:Bool} {A B:Prop} (h:c=false) (b:B):if c=true then A else B:=by subst h;exact b
theorem Aj {τ:Type} {args:τ→List Dt} {pre:τ→Prop} {val:τ→Dt} {Q:Dt→Prop} (p:τ) (h:pre p) (k:Q (val p)):BJ args pre val (args p) Q:=⟨p,rfl,h,fun d e=>by rw [e];exact k⟩
theorem Br {τ:Type} {args:τ→List Dt} {pre:τ→Prop} {post:τ→Dt→Prop} {Q:Dt→Prop} (p:τ) (h:pre p) (k:∀ d,post p d→Q d):spec args pre post (args p) Q:=⟨p,rfl,h,k⟩
theorem M5 {sl:List Nat} {tt:DTT} {te:DTE} {ρ:Ce} {Q:Dt→Prop} {items:List Dt} (p:Dt→Bool) (f:Dt→Dt) (ht:∀ d∈items,∀ R:Bool→Prop,R (p d)→tt (inner sl ρ d) R) (he:∀ d∈items,p d=true→∀ R:Dt→Prop,R (f d)→te (inner sl ρ d) R)
    (hq:Q (.lst ((items.filter p).map f))):∃ W:Nat→List Dt→Prop,W 0 []∧(∀ (k:Nat) d acc,items[k]? = some d→W k acc→tt (inner sl ρ d) fun b=>if b=true then te (inner sl ρ d) fun e=>W (k+1) (acc ++ [e]) else W (k+1) acc) ∧
      ∀ acc,acc.length≤items.length→W items.length acc→Q (.lst acc):=by
  refine ⟨fun k acc=>acc=((items.take k).filter p).map f,by simp,fun k d acc e w=>?_,fun acc _ w=>by rw [w,List.take_length];exact hq⟩
  have hm:=List.mem_of_getElem? e
  refine ht d hm _ ?_
  have ht:=take_succ_filter p items k d e
  by_cases hp:p d=true
  · rw [if_pos hp]
    refine he d hm hp _ ?_
    show acc ++ [f d]=_
    rw [w,ht,if_pos hp];simp
  · rw [if_neg hp]
    show acc=_
    rw [w,ht,if_neg hp];simp
theorem comp_map {sl:List Nat} {te:DTE} {ρ:Ce} {Q:Dt→Prop} {items:List Dt} (f:Dt→Dt) (he:∀ d∈items,∀ R:Dt→Prop,R (f d)→te (inner sl ρ d) R)
    (hq:Q (.lst (items.map f))):∃ W:Nat→List Dt→Prop,W 0 []∧(∀ (k:Nat) d acc,items[k]? = some d→W k acc→KD (inner sl ρ d) fun b=>if b=true then te (inner sl ρ d) fun e=>W (k+1) (acc ++ [e]) else W (k+1) acc) ∧
      ∀ acc,acc.length≤items.length→W items.length acc→Q (.lst acc) :=
  M5 (fun _=>true) f (fun _ _ _ h=>h) (fun d hm _ R h=>he d hm R h) (by rw [List.filter_eq_self.mpr (fun _ _=>rfl)];exact hq)
theorem SJ {sl:List Nat} {ti:DTI} {tt:DTT} {te:DTE} {ρ:Ce} {Q:Dt→Prop} (items:List Dt) (p:Dt→Bool) (f:Dt→Dt) (hi:∀ R:List Dt→Prop,R items→ti ρ R) (hl:items.length≤sizeLine) (hc:caught sl ρ)
    (ht:∀ d∈items,∀ R:Bool→Prop,R (p d)→tt (inner sl ρ d) R) (he:∀ d∈items,p d=true→∀ R:Dt→Prop,R (f d)→te (inner sl ρ d) R) (hq:Q (.lst ((items.filter p).map f))):JX sl ti tt te ρ Q :=
  hi _ ⟨hl,hc,M5 p f ht he hq⟩
theorem FZ {sl:List Nat} {ti:DTI} {te:DTE} {ρ:Ce} {Q:Dt→Prop} (items:List Dt) (f:Dt→Dt) (hi:∀ R:List Dt→Prop,R items→ti ρ R) (hl:items.length≤sizeLine) (hc:caught sl ρ)
    (he:∀ d∈items,∀ R:Dt→Prop,R (f d)→te (inner sl ρ d) R) (hq:Q (.lst (items.map f))):JX sl ti KD te ρ Q :=
  hi _ ⟨hl,hc,comp_map f he hq⟩
theorem Lk {ti:DTI} {g:DTG} {tb:DTS} {D:G9} {ρ:Ce} (items:List Dt) (hi:∀ R:List Dt→Prop,R items→ti ρ R) (W:Nat→Ce→Prop) (h0:W 0 ρ)
    (hs:∀ (k:Nat) d ρ',items[k]? = some d→W k ρ'→g d ρ' fun ρ2=>tb { D with nx:=W (k+1),ct:=W (k+1),bk:=D.nx } ρ2) (he:∀ ρ',W items.length ρ'→D.nx ρ'):Ahz ti g tb D ρ:=hi _ ⟨W,h0,hs,he⟩
theorem ints_get {ns:List Int} {k:Nat} {d:Dt} (h:(ns.map Dt.int)[k]? = some d):∃ n,ns[k]? = some n∧d=.int n:=by
  rw [List.getElem?_map] at h
  cases e:ns[k]? with
  | none=>rw [e] at h;cases h
  | some n=>rw [e] at h;cases h;exact ⟨n,rfl,rfl⟩
theorem DQ {ρ:Ce}:caught [] ρ:=fun _ h=>(nomatch h)
theorem CG {j:Nat} {sl:List Nat} {ρ:Ce} {d:Dt} (h:ρ[j]? = some (some (.is d))) (r:caught sl ρ):caught (j :: sl) ρ:=fun k hk=>by
  rcases List.mem_cons.mp hk with e | e
  · subst e;exact ⟨d,h⟩
  · exact r k e
theorem RN {ns:List Int} {k:Int} (h0:0≤k) (h1:k < ns.length):ixD k (.lst (ns.map Dt.int))=some (.int (ns.getD k.toNat 0)):=by
  obtain ⟨j,rfl⟩:=Int.eq_ofNat_of_zero_le h0
  have hj:j < ns.length:=by omega
  show (ns.map Dt.int)[j]? = _
  rw [List.getElem?_map]
  simp [hj]
end L2
namespace L2
theorem DY {c:DTT} {tb:DTS} {D:G9} {ρ:Ce} (W:Nat→Ce→Prop) (m:Nat) (h0:W m ρ) (h:∀ m ρ,W m ρ→c ρ fun k=>if k=true then tb { D with nx:=fun ρ'=>∃ m',m' < m∧W m' ρ',ct:=fun ρ'=>∃ m',m' < m∧W m' ρ',bk:=D.nx } ρ else D.nx ρ):Yz c tb D ρ:=⟨W,⟨m,h0⟩,h⟩
end L2
namespace L2
open PySem PySem.Spec PyProof.Rows PySem.SeqAt
section
variable {X:Cx} {a b c e:Expr} {es:List Expr} {ta tb te:DTE} {tl:DTA} {pos:Pos}
noncomputable def downs (hi:Int) (n:Nat):List Dt:=(List.range n).map fun i=>.int (hi - (i:Nat))
noncomputable def Afi (tl:DTA):DTI:=fun ρ Q=>tl ρ fun ds=>match ds with
  | [.int i,.int j,.int k]=>k=-1∧(-(2 ^ 62)≤i∧i < 2 ^ 62∧-(2 ^ 62)≤j∧j < 2 ^ 62)∧Q (downs i (i - j).toNat)
  | _=>False
theorem AbB:MtR X "int.bit_length" (fun x xs H Q=>∃ i,x=.int i∧xs=[]∧Q (.int (Builtin.Int.intBits i)) H):=by
  intro pins s σ H x xs v us Q I rx rs ⟨i,e,e2,q⟩
  subst e e2
  cases rs
  obtain ⟨t,rfl⟩:=rx
  exact call_int_bit_length ⟨.int _,H,I.tok _,⟨_,rfl⟩,q⟩
noncomputable def Adq (ta:DTE):DTE:=fun ρ Q=>ta ρ fun d=>match d with
  | .int i=>Q (.int (Builtin.Int.intBits i))
  | _=>False
theorem WT {apos:Pos} (ha:DE X a ta) (hbase:attributeBase a "bit_length" X.env (eval a X.env)=eval a X.env:=by rfl) (hline:(apos.endLine == pos.line)=true:=by rfl):DE X (.Call (.Attribute a "bit_length" apos) [] [] pos) (Adq ta) where
  mono:=fun hq h=>ha.mono (fun d h=>by
    split at h
    · exact hq _ h
    · exact h.elim) h
  pe:=(AdW PySem.F.plainAttrs_int PySem.F.slot_int_bit_length PySem.F.type_int_bit_length AbB ha.pe hbase hline).imp fun σ H Q ⟨B,F,O,ρ,R,h⟩=>⟨B,F,O,ρ,R,ha.mono (fun d h v H1 s1 r1=>by
    split at h
    · rw [Bp.mp r1]
      exact ⟨rfl,_,rfl,rfl,h _ H1 s1 (Bp.mpr rfl)⟩
    · exact h.elim) h⟩
noncomputable def AhE (P:Program) (w:World) (K:PySem.W.Frag) (mg:Str→Option Value) (base:Heap) (k:Nat) (a:Addr) (sp:DSp):Prop :=
  ∃ fd ps,Hl P w K mg base CX0 k a fd ps (lSp K sp)∧Binds K fd ps []∧PySem.W.keepIn K (.ref a)=true
noncomputable def Aes (P:Program) (w:World) (K:PySem.W.Frag) (mg:Str→Option Value) (base:Heap) (k:Nat) (tf:DTE) (tl:DTA):DTE:=fun ρ Q=>tf ρ fun d=>match d with
  | .fn a=>PySem.W.keepIn K (.ref a)=true∧tl ρ fun ds=>∃ sp,Hv sp∧AhE P w K mg base k a sp∧sp ds Q
  | _=>False
noncomputable def dOf (t:DTA):DTE:=fun ρ Q=>t ρ fun ds=>Q (.lst ds)
noncomputable def Ahh (tl:DTA):DTA:=fun ρ Q=>tl ρ fun ds=>ds.length≤sizeLine∧Q ds
noncomputable def AbD (te:DTE) (tl th:DTO):DTA:=fun ρ Q=>te ρ fun d=>tl ρ fun lo=>th ρ fun hi=>match d with
  | .lst ds=>Q (cutD ds lo hi)
  | _=>False
noncomputable def Ag4 (t u:DTA):DTA:=fun ρ Q=>t ρ fun xs=>u ρ fun ys=>xs.length+ys.length≤sizeLine∧Q (xs ++ ys)
end
end L2
namespace L2
open PySem PySem.Spec PyProof.Rows PySem.SeqAt
section
variable {X:Cx} {elt iter:Expr} {x:Str} {px:Pos} {ifs:List Expr} {scope:Scope} {pos:Pos} {N:List Str} {sl:List Nat} {wi:TI} {tt:TT} {te:TE}
theorem U8 {pins:List (Addr × Obj)} {σ:St} {H2:Hp} {s2:Shared} {cl:List (Str × Addr)} {it:Addr} {fp:List Addr} {tn:Nat→Heap→Prop} {J:It} {vs:List V} {PP:Value→Addr→Result→Shared→Prop} {E:Value→Shared→Prop} {QD:Hp→Prop} (S:DX X scope x N sl) (hc:X.calm=true)
    (ht:∀ cl C s₀ H₀ ex,PTs (Bk X scope (x :: N) cl C s₀ H₀ ex) ifs tt) (he:∀ cl C s₀ H₀ ex,PE (Bk X scope (x :: N) cl C s₀ H₀ ex) elt te)
    (hcl:∀ n c,cl.lookup n=some c→X.env.cells.lookup n=some c) (hcl2:∀ n,(n,NameKind.free)∈scope.names→∃ c,cl.lookup n=some c)
    (I2:Inv X pins σ H2 s2) (T:Turn X.prog X.w X.K (.Name x px) J fp it tn) (st2:tn 0 s2.heap) (f2:∀ b∈fp,KC X pins H2 b) (hvs:sl.map (fun j=>σ[j]?)=vs.map (fun v=>some (some v)))
    (hW:∃ W:Nat→Nat→List V→Hp→Prop,(∃ m,W 0 m [] (upd H2 s2.heap.objs.size (.lst [])))∧∀ i m acc H,W i m acc H →
      (J.stop i H∧QD H)∨(J.go i H∧∀ x H',J.yld i H x H'→tt (some x :: vs.map some) H' fun b H2' =>
        if b=true then te (some x :: vs.map some) H2' fun y H3=>H3 s2.heap.objs.size=some (.lst acc)∧acc.length < sizeLine∧∃ m',m' < m∧W (i+1) m' (acc ++ [y]) (upd H3 s2.heap.objs.size (.lst (acc ++ [y])))
        else ∃ m',m' < m∧W (i+1) m' acc H2'))
    (fin:∀ (C:Addr),(s2.heap.push { cls:=.type "list",data:=.seq ([]:List Value).toArray }).objs.size=C→∀ {σ':St} {H':Hp} {s':Shared},Inv (Bk X scope (x :: N) cl C { s2 with heap:=s2.heap.push { cls:=.type "list",data:=.seq ([]:List Value).toArray },toks:=s2.toks } (upd H2 s2.heap.objs.size (.lst [])) fp) [] σ' H' s'→QD H'→PP (.ref s2.heap.objs.size) C (.ok .next) s') :
    wpAny (model X.prog X.w) X.A (newList []) (fun acc s₃=>wpAny (model X.prog X.w) X.A (newFunctionEnv scope X.env.globals cl [] X.env.qual none .none (some X.env)) (fun cenv s₄ =>
      codeAny (model X.prog X.w) X.A (.compStart (.ListComp elt [⟨.Name x px,iter,ifs,0⟩] scope pos) 0 (.ref it) acc { cenv with scope:=relabel scope X.env }) (PP acc cenv.locals) s₄) E s₃) E s2:=by
  refine wpAny_newObj_type (wpAny_newFunctionEnv S.cell (by intro y hy;simp at hy) (fun h₁ hns₁ hsb₁=>?_) S.kind)
  have hD:H2 s2.heap.objs.size=none:=I2.fresh
  have I3:Inv X pins σ (upd H2 s2.heap.objs.size (.lst [])) { s2 with heap:=s2.heap.push { cls:=.type "list",data:=.seq ([]:List Value).toArray },toks:=s2.toks }:=I2.lnew (its:=[]) (ys:=[]) .nil (Nat.zero_le _)
  have hbD:∀ b∈fp,b≠s2.heap.objs.size:=fun b hb z=>by
    obtain ⟨o',e',_⟩:=T.obj _ _ st2 b hb
    exact absurd (Heap.lt_size e') (by rw [z];exact Nat.lt_irrefl _)
  have f3:∀ b∈fp,KC X pins (upd H2 s2.heap.objs.size (.lst [])) b:=fun b hb=>⟨by rw [Bg (hbD b hb)];exact (f2 b hb).1,(f2 b hb).2⟩
  have ob3:∀ b∈fp,∃ o,(s2.heap.push { cls:=.type "list",data:=.seq ([]:List Value).toArray }).get? b=some o:=fun b hb=>by
    obtain ⟨o',e',_⟩:=T.obj _ _ st2 b hb
    exact ⟨o',Heap.get?_push_of_some _ e'⟩
  have IC:=Uj (tk:=s2.toks+([]:List (Str × Value)).length) S I3 f3 ob3 hns₁ hsb₁ hcl hcl2 hvs
  dsimp only at hsb₁ IC ⊢
  generalize hCC:(s2.heap.push { cls:=.type "list",data:=.seq ([]:List Value).toArray }).objs.size=C at hns₁ hsb₁ IC ⊢
  have old:∀ b o,s2.heap.get? b=some o→h₁.get? b=some o:=fun b o e=>by
    have e1:(s2.heap.push { cls:=.type "list",data:=.seq ([]:List Value).toArray }).get? b=some o:=Heap.get?_push_of_some _ e
    exact (hsb₁.2 b (by rw [←hCC];exact Nat.ne_of_lt (Heap.lt_size e1))).trans (Heap.get?_push_of_some _ e1)
  have st₁:tn 0 h₁:=T.keep _ _ _ st2 fun b hb o e=>old b o e
  obtain ⟨W,⟨m0,w0⟩,turn⟩:=hW
  have fpC:∀ {H':Hp} {pl:List (Addr × Obj)},(∀ b∈fp,H' b=none)→(∀ p∈pl,p.1∉fp)→∀ b∈fp,KC (Bk X scope (x :: N) cl C { s2 with heap:=s2.heap.push { cls:=.type "list",data:=.seq ([]:List Value).toArray },toks:=s2.toks } (upd H2 s2.heap.objs.size (.lst [])) fp) pl H' b:=fun {H' pl} hn hp b hb=>by
    refine ⟨hn b hb,(IC.ok.exf b hb).1,IC.ok.exfs b hb,.inl hb,(IC.ok.exf b hb).2,fun p hq z=>?_⟩
    have hq':p∈pl:=by simpa [Bk] using hq
    exact hp p hq' (by rw [z];exact hb)
  have loop:codeAny (model X.prog X.w) X.A (.compLoop (.ListComp elt [⟨.Name x px,iter,ifs,0⟩] scope pos) 0 (.ref it) (.ref s2.heap.objs.size) (compEnvC scope cl C X.env)) (PP (.ref s2.heap.objs.size) C)
      { s2 with heap:=h₁,toks:=s2.toks+([]:List (Str × Value)).length }:=by
    refine codeAny_compLoop_tests (fun n s'=>∃ i acc σ' H',Inv (Bk X scope (x :: N) cl C { s2 with heap:=s2.heap.push { cls:=.type "list",data:=.seq ([]:List Value).toArray },toks:=s2.toks } (upd H2 s2.heap.objs.size (.lst [])) fp) [] σ' H' s'∧(∃ y,σ'=y :: vs.map some) ∧
      tn i s'.heap∧(∀ b∈fp,H' b=none)∧W i n acc H') ?_ m0 ⟨0,[],_,_,IC,⟨none,rfl⟩,st₁,fun b hb=>(f3 b hb).1,w0⟩
    rintro n s3 ⟨i,acc,σ3,H3,I4,⟨y,rfl⟩,st3,fr3,w3⟩
    rcases turn i n acc H3 w3 with ⟨stop,qn⟩ | ⟨go,step⟩
    · refine wpAny_mono (T.done (Bk X scope (x :: N) cl C { s2 with heap:=s2.heap.push { cls:=.type "list",data:=.seq ([]:List Value).toArray },toks:=s2.toks } (upd H2 s2.heap.objs.size (.lst [])) fp) rfl rfl rfl hc i [] s3 _ H3 (fun _ _=>False) I4 (fpC fr3 (by simp)) st3 stop) (fun r s4 ⟨hr,I5⟩=>?_) fun _ _ z=>False.elim z
      subst hr
      exact fin C hCC I5 qn
    · refine wpAny_mono (T.item (Bk X scope (x :: N) cl C { s2 with heap:=s2.heap.push { cls:=.type "list",data:=.seq ([]:List Value).toArray },toks:=s2.toks } (upd H2 s2.heap.objs.size (.lst [])) fp) rfl rfl rfl hc i [] s3 _ H3 (fun _ _=>False) I4 (fpC fr3 (by simp)) st3 go) (fun r s4 ⟨u,hr,h4⟩=>?_) fun _ _ z=>False.elim z
      subst hr
      have e0:∀ (k:Unit→Sem Unit),(letOwnedTupleGo (.Name x px) (.ref it) u >>= k)=k ():=fun k=>rfl
      have hg:PG (Bk X scope (x :: N) cl C { s2 with heap:=s2.heap.push { cls:=.type "list",data:=.seq ([]:List Value).toArray },toks:=s2.toks } (upd H2 s2.heap.objs.size (.lst [])) fp) (.Name x px) (Xd 0):=RG S.nd rfl (.inl (lookup_relabel_local S.hx)) (.inr (lookup_relabel_local S.hx))
      show wpAny (model X.prog X.w) X.A (assign (.Name x px) (compEnvC scope cl C X.env) u) _ _ s4
      rw [←e0 fun _=>assign (.Name x px) (compEnvC scope cl C X.env) u]
      refine wpAny_bind (wpAny_mono h4 (fun _ s5 ⟨z,H5,I5,r5,y5,st5,fr5⟩=>?_) fun _ _ z=>False.elim z)
      have I5':=I5.pinned (fpC fr5 (by simp)) (T.obj _ _ st5)
      have W5:=hg _ s5 _ H5 z u (fun σ' H'=>σ'=some z :: vs.map some∧H'=H5) I5' r5 ⟨rfl,rfl⟩
      refine wpAny_mono W5 (fun _ s6 ⟨σ6,H6,I6,e6,e7⟩=>?_) fun _ _ z=>False.elim z
      subst e6 e7
      refine wpAny_mono (ht _ _ _ _ _ _ s6 _ H6 _ I6 (step z H6 y5)) (fun b s7 ⟨H7,I7,q7⟩=>?_) fun _ _ z=>False.elim z
      have again:∀ {H8:Hp} {s8:Shared} {acc':List V},Inv (Bk X scope (x :: N) cl C { s2 with heap:=s2.heap.push { cls:=.type "list",data:=.seq ([]:List Value).toArray },toks:=s2.toks } (upd H2 s2.heap.objs.size (.lst [])) fp) ([] ++ Ms fp s5.heap) (some z :: vs.map some) H8 s8→(∃ m',m' < n∧W (i+1) m' acc' H8)→∃ m,m < n∧∃ i acc σ' H',Inv (Bk X scope (x :: N) cl C { s2 with heap:=s2.heap.push { cls:=.type "list",data:=.seq ([]:List Value).toArray },toks:=s2.toks } (upd H2 s2.heap.objs.size (.lst [])) fp) [] σ' H' s8∧(∃ y,σ'=y :: vs.map some)∧tn i s8.heap∧(∀ b∈fp,H' b=none)∧W i m acc H':=fun {H8 s8 acc'} I8 ⟨m',hm,w8⟩=>by
        refine ⟨m',hm,i+1,acc',_,H8,I8.unpinned,⟨_,rfl⟩,T.keep _ _ _ st5 fun b hb o e=>(I8.pin (b,o) (List.mem_append_right _ (List.mem_append_right _ (Gf hb e)))).1,fun b hb=>?_,w8⟩
        obtain ⟨o,e,d⟩:=T.obj _ _ st5 b hb
        exact (I8.pin (b,o) (List.mem_append_right _ (List.mem_append_right _ (Gf hb e)))).2.1
      cases b with
      | false=>exact again I7 q7
      | true =>
        rw [if_pos rfl]
        refine wpAny_mono (he _ _ _ _ _ _ s7 _ H7 _ I7 q7) (fun v8 s8 ⟨x8,H8,I8,r8,hD8,hz8,q8⟩=>?_) fun _ _ z=>False.elim z
        refine wpAny_mono (Mx (X:=(Bk X scope (x :: N) cl C { s2 with heap:=s2.heap.push { cls:=.type "list",data:=.seq ([]:List Value).toArray },toks:=s2.toks } (upd H2 s2.heap.objs.size (.lst [])) fp)) _ s8 _ H8 (.ref s2.heap.objs.size) [x8] (.ref s2.heap.objs.size) [v8] (fun _ H9=>H9=upd H8 s2.heap.objs.size (.lst (acc ++ [x8]))) I8 rfl (.cons r8 .nil) ⟨_,acc,x8,rfl,rfl,hD8,hz8,rfl⟩) (fun _ s9 ⟨_,H9,I9,_,e9⟩=>?_) fun _ _ z=>False.elim z
        subst e9
        exact again I9 q8
  exact codeAny_compStart_list loop (T.self _ 0 _ _ _ st₁ loop)
noncomputable def AhX (i:Nat) (sl:List Nat) (wi:TI) (tt:TT) (te:TE):TS:=fun D σ H=>Ww sl wi tt te σ H fun v H'=>D.nx (σ.set i (some v)) H'
theorem Wt {i:Nat} {y:Str} {py spos:Pos} (S:DX X scope x N sl) (hc:X.calm=true) (hN:X.N.Nodup) (hyi:X.N[i]? = some y) (hy:X.env.scope.names.lookup y=some .local) (hi:PI X (.Name x px) iter wi)
    (ht:∀ cl C s₀ H₀ ex,PTs (Bk X scope (x :: N) cl C s₀ H₀ ex) ifs tt) (he:∀ cl C s₀ H₀ ex,PE (Bk X scope (x :: N) cl C s₀ H₀ ex) elt te)
    (hsw:swapsWith (.ListComp elt [⟨.Name x px,iter,ifs,0⟩] scope pos) (some (.Name y py)) spos.line X.env=pure true) (hs:∀ x,foldedSetIterable iter X.env x=pure x:=by intro _;rfl) :
    PS X (.Assign [.Name y py] (.ListComp elt [⟨.Name x px,iter,ifs,0⟩] scope pos) spos) (AhX i sl wi tt te):=by
  intro pins s σ H DD I h
  obtain ⟨cl,hclos,hcl,hcl2⟩:=O9 (env:=X.env) (scope:=scope) fun y hy hf=>I.ok.has y.1 (.inl (S.free y hy hf))
  rw [exec_Assign_Name_used _ _ _ _ hsw]
  refine wpAny_bind (wpAny_standAt (wpAny_bind ?_))
  show wpAny _ X.A (do let _ ←comprehension (.ListComp elt [⟨.Name x px,iter,ifs,0⟩] scope pos) scope X.env _ (newList []) false (eval iter X.env) (some (assign (.Name y py) X.env))) _ _ s
  refine wpAny_bind (wpAny_mono (wpAny_comprehension_free (use:=some (assign (.Name y py) X.env)) (Q:=fun _ s'=>SP X pins DD .next s') rfl hs hclos S.kind S.names
    (thn (hi pins s σ H _ I h) fun v s1 h1=>thn h1 fun itv s2 h2=>?_)) (fun _ s' hq=>wpAny_pure (wpAny_pure hq)) fun _ _ e=>e)
  obtain ⟨it,fp,tn,J,H2,e,I2,T,st2,f2,vs,hvs,hW⟩:=h2
  subst e
  refine U8 (QD:=fun H'=>DD.nx (σ.set i (some (.ref s2.heap.objs.size))) H') (PP:=fun acc C=>compPost (model X.prog X.w) X.A X.xe (some (assign (.Name y py) X.env)) (fun _ s'=>SP X pins DD .next s') acc C) S hc ht he hcl hcl2 I2 T st2 f2 hvs (hW s2.heap.objs.size I2.fresh) fun C hCC {σ' H' s'} J q=>?_
  have hD:H2 s2.heap.objs.size=none:=I2.fresh
  have nC:∀ b o,s2.heap.get? b=some o→b≠C:=fun b o e=>by
    have e1:(s2.heap.push { cls:=.type "list",data:=.seq ([]:List Value).toArray }).get? b=some o:=Heap.get?_push_of_some _ e
    rw [←hCC];exact Nat.ne_of_lt (Heap.lt_size e1)
  have u:Un (frs X.stack) fp H2 H' s2.heap s'.heap:=(Un.laid (fun b u e=>Heap.get?_push_of_some _ e) (Nat.le_refl _) hD).trans J.base
  have hos:s'.os=s2.os:=J.os
  have IX:Inv X pins σ H' s':=I2.call' (ch:=fp) hos u J.hok J.bare fun b hb=>⟨(f2 b hb).2.2.2.1,(f2 b hb).2.1,(f2 b hb).2.2.2.2.1,(f2 b hb).2.2.2.2.2⟩
  have hLC:X.env.locals≠C:=by
    obtain ⟨m,⟨o,_,_,ho,_⟩,_⟩:=I2.loc
    exact nC _ o ho
  have hcC:∀ y c,X.env.cells.lookup y=some c→c≠C:=fun y c e=>by
    obtain ⟨v,o,ho,_⟩:=I2.cell y c e
    exact nC _ o ho
  show wpAny _ X.A (assign (.Name y py) X.env (.ref s2.heap.objs.size)) _ _ _
  refine wpAny_assign_Name (Rb IX hN hyi (.inl hy) (v:=.ref s2.heap.objs.size) rfl (fun s'' I'' ⟨a,hs2,ha⟩=>?_) (.inr hy))
  obtain ⟨m,hn,_⟩:=id J.loc
  have haC:C≠a:=by
    rcases ha with z | z
    · rw [z];exact Ne.symm hLC
    · exact Ne.symm (hcC y a z)
  refine ⟨m,hn.sameBut hs2 haC,fun h' hs'=>⟨_,H',?_,q⟩⟩
  refine I''.turned (t':=s''.toks) (it:=C) (fun b o hb e=>(hs'.2 b hb).trans e) J.free (Ne.symm hLC) (.inr ?_) hcC (fun p hp z=>?_)
  · rw [←hCC]
    exact Nat.le_trans I2.sz (by rw [Heap.size_push];exact Nat.le_succ _)
  · obtain ⟨e,_⟩:=I2.pin p hp
    exact nC _ _ e z
theorem JD {sl:List Nat} {ti:DTI} {dt:DTT} {de:DTE} (mi:∀ {ρ Q Q'},(∀ d,Q d→Q' d)→ti ρ Q→ti ρ Q'):∀ {ρ Q Q'},(∀ d,Q d→Q' d)→JX sl ti dt de ρ Q→JX sl ti dt de ρ Q' :=
  fun hq h=>mi (fun items ⟨h1,h2,W,w0,st,fin⟩=>⟨h1,h2,W,w0,st,fun acc l w=>hq _ (fin acc l w)⟩) h
noncomputable def W4 (i:Nat) (sl:List Nat) (ti:DTI) (tt:DTT) (te:DTE):DTS:=fun D ρ=>JX sl ti tt te ρ fun d=>D.nx (ρ.set i (some (.is d)))
theorem AaI {ti:DTI} {dt:DTT} {de:DTE} {y:Str} {py spos:Pos} (i:Nat) (S:DX X scope x N sl) (hc:X.calm=true) (hN:X.N.Nodup) (hyi:X.N[i]? = some y) (hy:X.env.scope.names.lookup y=some .local) (hi:DI X (.Name x px) iter ti)
    (ht:∀ cl C s₀ H₀ ex,DTs (Bk X scope (x :: N) cl C s₀ H₀ ex) ifs dt) (he:∀ cl C s₀ H₀ ex,DE (Bk X scope (x :: N) cl C s₀ H₀ ex) elt de)
    (hsw:swapsWith (.ListComp elt [⟨.Name x px,iter,ifs,0⟩] scope pos) (some (.Name y py)) spos.line X.env=pure true) (hs:∀ x,foldedSetIterable iter X.env x=pure x:=by intro _;rfl) :
    DS X (.Assign [.Name y py] (.ListComp elt [⟨.Name x px,iter,ifs,0⟩] scope pos) spos) (W4 i sl ti dt de) where
  mono:=fun hd h=>JD (ti:=ti) hi.mono (fun d q=>hd.nx _ q) h
  ps:=(Wt (tt:=lT X.K dt) (te:=lE X.K de) S hc hN hyi hy hi.pi (fun cl C s₀ H₀ ex=>(ht cl C s₀ H₀ ex).pts) (fun cl C s₀ H₀ ex=>(he cl C s₀ H₀ ex).pe) hsw hs).imp fun D σ H ⟨B,F,O,ρ,R,h⟩ =>
    T6 (ti:=ti) (dt:=dt) (de:=de) hi.mono (ht [] 0 X.s₀ X.H₀ []).mono (he [] 0 X.s₀ X.H₀ []).mono σ H _ ⟨B,F,O,ρ,R,JD (ti:=ti) hi.mono (fun d q v H' s r=>q O _ H' ((R.same s).set i r)) h⟩
theorem Xl {ti:DTI} {de:DTE} {y:Str} {py spos:Pos} (i:Nat) (hN:X.N.Nodup) (S:DX X scope x N sl) (hc:X.calm=true) (hi:DI X (.Name x px) iter ti) (he:∀ cl C s₀ H₀ ex,DE (Bk X scope (x :: N) cl C s₀ H₀ ex) elt de)
    (hyi:X.N[i]? = some y:=by rfl) (hy:X.env.scope.names.lookup y=some .local:=by rfl) (hsw:swapsWith (.ListComp elt [⟨.Name x px,iter,[],0⟩] scope pos) (some (.Name y py)) spos.line X.env=pure true:=by rfl) (hs:∀ x,foldedSetIterable iter X.env x=pure x:=by intro _;rfl) :
    DS X (.Assign [.Name y py] (.ListComp elt [⟨.Name x px,iter,[],0⟩] scope pos) spos) (W4 i sl ti KD de):=AaI i S hc hN hyi hy hi (fun _ _ _ _ _=>Ry) he hsw hs
end
section
variable {prog:Program} {w:World} {A:Around} {E:Value→Shared→Prop} {s:Shared}
theorem Ra {it t:Addr} {items:Array Value} (hne:t≠it):∀ (n i:Nat) (s:Shared) (Q:List Value→Shared→Prop),s.heap.IsListIter it t i→s.heap.IsList t items→i+n≤items.size →
    (∀ h',h'.IsListIter it t (i+n)→Heap.SameBut it s.heap h'→Q ((items.toList.drop i).take n) { s with heap:=h' })→wpAny (model prog w) A (draw (.ref it) n) Q E s
  | 0,i,s,Q,hit,_,_,hQ=>by
    show wpAny _ _ (pure []) Q E s
    exact wpAny_pure (by simpa using hQ s.heap hit (Heap.SameBut.refl ..))
  | n+1,i,s,Q,hit,ht,hle,hQ=>by
    have hlt:i < items.size:=by omega
    show wpAny _ _ (pyNext (.ref it) >>= _) Q E s
    refine wpAny_bind (wpAny_pyNext_list_item hit ht (x:=items[i]) (by simp [hlt]) fun h₁ hit₁ hs₁=>?_)
    refine wpAny_bind (wpAny_holding (Ra hne n (i+1) _ _ hit₁ (ht.extBut hs₁.extBut hne) (by omega) fun h₂ hit₂ hs₂=>wpAny_pure ?_))
    have hd:items.toList.drop i=items[i] :: items.toList.drop (i+1):=by simp [List.drop_eq_getElem_cons,hlt]
    have:=hQ h₂ (by rw [show i+(n+1)=i+1+n by omega];exact hit₂) (hs₁.trans hs₂)
    rw [hd,List.take_succ_cons] at this
    exact this
theorem Lx {t:Addr} {items:Array Value} {Q:List Value→Shared→Prop} (hh:A.handled=none) (ht:s.heap.IsList t items)
    (hQ:∀ h',Heap.ExtBut s.heap.objs.size s.heap h'→Q items.toList { s with heap:=h' }):wpAny (model prog w) A (unpackItems (.ref t) items.size none) Q E s:=by
  have hlt:t≠s.heap.objs.size:=by obtain ⟨o,ho,_⟩:=ht;exact Nat.ne_of_lt (Heap.lt_size ho)
  unfold unpackItems
  refine wpAny_bind ?_
  · unfold notIterableAtAll
    refine wpAny_bind (wpAny_specialOf ht.typeIs slot_list_iter.lookup ?_)
    refine wpAny_pure ?_
    simp only [Bool.false_eq_true,if_false]
    refine wpAny_bind (wpAny_holding (wpAny_pyIter_list ht ?_))
    have ht':(s.heap.push { cls:=.type "list_iterator",data:=.fields #[.ref t,.int 0 0] }).IsList t items:=by
      obtain ⟨o,ho,r⟩:=ht
      exact ⟨o,Heap.get?_push_of_some _ ho,r⟩
    refine wpAny_bind (wpAny_holding (Ra hlt items.size 0 _ _ ⟨_,Heap.get?_push_size _ rfl,rfl,rfl⟩ ht' (by omega) fun h₁ hit₁ hs₁=>?_))
    have hall:List.take items.size (List.drop 0 items.toList)=items.toList:=by
      rw [List.drop_zero];exact List.take_of_length_le (by simp)
    rw [hall]
    rw [if_neg (by simp)]
    have ht₁:h₁.IsList t items:=ht'.extBut hs₁.extBut hlt
    refine wpAny_bind (wpAny_holding (wpAny_pyNext_list_end hh hit₁ ht₁ (by simp) fun h₂ he₂=>?_))
    simp only [Option.isSome_none,Bool.false_eq_true,if_false]
    refine wpAny_pure (hQ h₂ fun b o hb e=>he₂ b o hb (hs₁.extBut b o hb (Heap.get?_push_of_some _ e)))
end
section
variable {X:Cx} {es:List Expr} {pos:Pos}
noncomputable def Aju (K:PySem.W.Frag) (n:Nat) (t:TGs):TG:=fun v σ H Q=>∃ a xs,v=.ref a∧SqL K H a xs∧xs.length=n∧t xs σ H Q
theorem AeM {k:Nat} {t:TGs} {n:Nat} (hc:X.calm=true) (h:PGs X es t) (hn:(assignEach es X.env).length=n:=by rfl) (hst:(assignEach es X.env).findIdx? (·.1)=none:=by rfl):PG X (.Tuple es k pos) (Aju X.K n t):=by
  intro pins s σ H v u Q I r hw
  obtain ⟨a,xs,e1,hq,hl,hw⟩:=hw
  subst e1
  cases r
  obtain ⟨its,rv,ht,hz⟩:=I.list hq
  rw [assign_Tuple]
  refine wpAny_bind (wpAny_standAt ?_)
  unfold unpack
  have e2:(assignEach es X.env).length=its.toArray.size:=by simp [hn,←hl,rv.length]
  rw [e2,hst]
  refine wpAny_bind (wpAny_holding (Lx (I.ok.hd hc) ht.isList fun h' hx=>?_))
  have I1:Inv X pins σ H { s with heap:=h' }:=I.kept (t':=s.toks) fun b o e=>hx b o (Nat.ne_of_lt (Heap.lt_size e)) e
  exact h pins _ σ H xs _ Q I1 (by simpa using rv) hw
noncomputable def WW (n:Nat) (gs:PX):DTG:=fun d ρ Q=>match d with
  | .lst ds=>ds.length=n∧gs ds ρ Q
  | _=>False
theorem Vi {k:Nat} {gs:PX} {n:Nat} (hc:X.calm=true) (h:DGs X es gs) (hn:(assignEach es X.env).length=n:=by rfl) (hst:(assignEach es X.env).findIdx? (·.1)=none:=by rfl):DG X (.Tuple es k pos) (WW n gs) where
  mono:=fun hq z=>by
    unfold WW at z ⊢
    split at z
    · exact ⟨z.1,h.mono hq z.2⟩
    · exact z.elim
  pg:=(AeM hc h.pg hn hst).imp fun v σ H Q ⟨B,F,O,ρ,d,R,r,z⟩=>by
    unfold WW at z
    split at z
    · obtain ⟨a,xs,rfl,hs,hl⟩:=Gh r
      exact ⟨a,xs,rfl,Bv.seq hs,by rw [hl.len];exact z.1,B,F,O,ρ,_,R,hl,z.2⟩
    · exact z.elim
end
end L2
namespace L2
end L2
namespace L2
theorem R9 {n:Nat} {x:PySem.Str}:Dt.flat n (.str x)=(PySem.PyData.str x).canLay0:=by cases n <;> rw [Dt.flat]
end L2
namespace L2
open PySem PySem.Spec PyProof.Rows PySem.SeqAt
section
variable {X:Cx} {pins:List (Addr × Obj)} {σ:St} {H:Hp} {s:Shared} {h':Heap} {a dx C U f fI:Addr} {φ ψ:Heap→Prop}
end
end L2
namespace L2
open PySem PySem.Spec PyProof.Rows PySem.SeqAt
structure Ad7 where
  d:G9
  ex:Ce→Dt→Prop
noncomputable abbrev Ks:=Ad7→Ce→Prop
noncomputable abbrev Tz:=Ce→(Dt→Prop)→(Dt→Prop)→Prop
section
variable {X:Cx} {a b c e:Expr} {es:List Expr} {st:Stmt} {sts sa sb:List Stmt} {t u:Ks} {ts us:DTS} {te:Tz} {tA:DTT} {tl:DTA} {pos:Pos}
noncomputable def AeT (t:DTS):Ks:=fun D ρ=>t D.d ρ
noncomputable def AeX:Ks:=fun D ρ=>D.d.nx ρ
noncomputable def AgU (t u:Ks):Ks:=fun D ρ=>t ⟨{ D.d with nx:=u D },D.ex⟩ ρ
noncomputable def AkF (c:DTT) (t u:Ks):Ks:=fun D ρ=>c ρ fun k=>if k=true then t D ρ else u D ρ
noncomputable def AdU (te:Tz):Ks:=fun D ρ=>te ρ (fun _=>D.d.nx ρ) (D.ex ρ)
noncomputable def Aht (te:Tz):Ks:=fun D ρ=>te ρ D.d.rt (D.ex ρ)
noncomputable def Agc (te:Tz) (g:DTG):Ks:=fun D ρ=>te ρ (fun d=>g d ρ D.d.nx) (D.ex ρ)
noncomputable abbrev Akq:=List Dt→(Dt→Prop)→(Dt→Prop)→Prop
noncomputable def AeH (sp:Akq) (tl:DTA):Tz:=fun ρ Q E=>tl ρ fun ds=>sp ds Q E
noncomputable def AeW (c:Str) (ns:List Str) (tl:DTA):Ks:=fun D ρ=>tl ρ fun ds=>ds.length=ns.length∧ds.length≤1000∧D.ex ρ (.exc c ns ds)
end
section
variable {P:Program} {w:World} {K:PySem.W.Frag} {mg:Str→Option Value} {base:Heap}
end
end L2
namespace L2
open PySem PySem.Spec PyProof.Rows PySem.SeqAt
section
variable {X:Cx} {pins:List (Addr × Obj)} {σ:St} {H:Hp} {s:Shared}
end
noncomputable def Under (K:PySem.W.Frag) (mg:Str→Option Value) (c T:Str):Prop:=∀ C U,PySem.W.nsIn K mainGlobals c=some (some (.ref C))→XC K C U→mg T=some (.ref U)
section
variable {X:Cx} {tb:Ks} {ts:DTS} {pos tp hp:Pos} {T n:Str} {U:Addr} {body suite:List Stmt} {b₀:Stmt}
noncomputable def ZG (K:PySem.W.Frag) (mg:Str→Option Value) (T:Str) (j:Nat) (ts:DTS) (D:G9) (ρ:Ce) (x:Dt):Prop:=match x with
  | .exc c ns ds=>Under K mg c T∧ts { nx:=fun ρ2=>D.nx (ρ2.set j none),rt:=fun _=>False } (ρ.set j (some (.is (.exc c ns ds))))
  | _=>False
noncomputable def AjJ (K:PySem.W.Frag) (mg:Str→Option Value) (T:Str) (j:Nat) (tb:Ks) (ts:DTS):Ks:=fun D ρ=>tb ⟨D.d,ZG K mg T j ts D.d⟩ ρ
end
end L2
namespace L2
open PySem PySem.Spec PyProof.Rows PySem.SeqAt
noncomputable def Ah0 (K:PySem.W.Frag) (c:Str) (A:Addr) (b:Bool):Prop:=∀ C,PySem.W.nsIn K mainGlobals c=some (some (.ref C))→PySem.W.kitOne K (.ref C) (.ref A)=some b
noncomputable def AfT (K:PySem.W.Frag) (c:Str) (As:List Addr) (b:Bool):Prop:=∀ C,PySem.W.nsIn K mainGlobals c=some (some (.ref C))→PySem.W.kitAny K (.ref C) (As.map .ref)=some b
noncomputable def Qv (K:PySem.W.Frag) (c f:Str):Prop:=∀ C,PySem.W.nsIn K mainGlobals c=some (some (.ref C))→PySem.W.findIn K (.ref C) f=some none
section
variable {X:Cx} {a b c e:Expr} {es:List Expr} {ta tb te:DTE} {tl:DTA} {pos:Pos}
noncomputable def AkD (K:PySem.W.Frag):DL:=fun ds Q=>match ds with
  | [.exc c _ _,.fn A]=>∃ v,Ah0 K c A v∧Q (.bl v)
  | _=>False
noncomputable def AgH (K:PySem.W.Frag):DL:=fun ds Q=>match ds with
  | [.exc c _ _,.tup es]=>∃ As v,es=As.map .fn∧AfT K c As v∧Q (.bl v)
  | _=>False
noncomputable def Ak6 (ta:DTE):DTE:=fun ρ Q=>ta ρ fun d=>match d with
  | .exc _ _ _=>Q (.bl true)
  | _=>False
theorem zip_get {K:PySem.W.Frag} {H:Hp} {f:Str} {d:Dt}:∀ {ns:List Str} {ds:List Dt} {vs:List V},RpL K H ds vs→(ns.zip ds).lookup f=some d→∃ v,(ns.zip vs).lookup f=some v∧Rp K H d v
  | [],_,_,_,h=>by simp at h
  | _ :: _,[],_,_,h=>by simp at h
  | n :: ns,x :: ds,_,r,h=>by
    obtain ⟨v,vr,rfl,r1,r2⟩:=Aw.mp r
    rw [List.zip_cons_cons] at h ⊢
    by_cases q:f=n
    · have hb:(f == n)=true:=beq_iff_eq.mpr q
      simp only [List.lookup,hb] at h ⊢
      cases h;exact ⟨v,rfl,r1⟩
    · have hb:(f == n)=false:=beq_eq_false_iff_ne.mpr q
      simp only [List.lookup,hb] at h ⊢
      exact zip_get r2 h
noncomputable def AfL (K:PySem.W.Frag) (te:DTE) (f:Str):DTE:=fun ρ Q=>te ρ fun d=>match d with
  | .exc c ns ds=>Qv K c f∧∃ v,(ns.zip ds).lookup f=some v∧Q v
  | _=>False
noncomputable def Ag1 (t:Ks):DTS:=fun D ρ=>t ⟨D,fun _ _=>False⟩ ρ
end
end L2
namespace L2
open PySem PySem.Spec PyProof.Rows PySem.SeqAt
section
variable {K:PySem.W.Frag} {mg:Str→Option Value} {c T f:Str} {C U A:Addr} {cd:ClassData}
end
end L2
namespace L2
open PySem PySem.Spec PyProof.Rows PySem.SeqAt
theorem Kv {O:List Addr} {H:Hp} {a:Addr} {o:HO} (h:a∈O):mask O (upd H a o)=mask O H:=by
  funext b
  by_cases q:b∈O
  · rw [Dj q,Dj q]
  · rw [Bf q,Bf q,Bg (a:=a) (fun z=>q (by rw [z];exact h))]
theorem Zr {F O:List Addr} {H:Hp} {p:Addr} {o:HO} (h:H p=none):mask (F ++ (p :: O)) (upd H p o)=mask (F ++ O) H:=by
  funext b
  by_cases e:b=p
  · subst e
    rw [Dj (List.mem_append_right _ List.mem_cons_self)]
    by_cases q:b∈F ++ O
    · rw [Dj q]
    · rw [Bf q,h]
  · by_cases q:b∈F ++ O
    · rw [Dj q,Dj]
      rcases List.mem_append.mp q with q | q
      · exact List.mem_append_left _ q
      · exact List.mem_append_right _ (List.mem_cons_of_mem _ q)
    · rw [Bf q,Bf,Bg e]
      intro z
      rcases List.mem_append.mp z with z | z
      · exact q (List.mem_append_left _ z)
      · rcases List.mem_cons.mp z with z | z
        · exact e z
        · exact q (List.mem_append_right _ z)
section
variable {K:PySem.W.Frag} {B:Hp} {F O:List Addr} {H:Hp} {σ:St} {ρ:Ce}
theorem Rep.newOwn (r:Rep K B F O H σ ρ) (i:Nat) {p:Addr} {ds:List Dt} {xs:List V} (hp:H p=none) (h:RpL K (mask (F ++ O) H) ds xs):Rep K B F (p :: O) (upd H p (.lst xs)) (σ.set i (some (.ref p))) (ρ.set i (some (.own ds))):=by
  have hl:=r.len
  have nF:p∉F:=fun z=>r.th p (List.mem_append_left _ z) hp
  have nO:p∉O:=fun z=>r.th p (List.mem_append_right _ z) hp
  have em:=Zr (F:=F) (O:=O) (o:=.lst xs) hp
  refine ⟨by simpa using hl,r.base.trans (Same.upd hp),fun a h=>?_,fun a h e=>?_,fun j d q=>?_,fun j es q=>?_,fun j k es es' a h1 h2 h3 h4=>?_⟩
  · rcases List.mem_cons.mp h with rfl | h
    · cases q:B a with
      | none=>rfl
      | some o=>rw [r.base a o q] at hp;cases hp
    · exact r.fr a h
  · by_cases z:a=p
    · rw [z,BP] at e;cases e
    · rw [Bg z] at e
      refine r.th a ?_ e
      rcases List.mem_append.mp h with h | h
      · exact List.mem_append_left _ h
      · exact List.mem_append_right _ ((List.mem_cons.mp h).resolve_left z)
  · by_cases hj:j=i
    · subst hj
      by_cases hk:j < ρ.length
      · rw [List.getElem?_set_self hk] at q;cases q
      · rw [List.getElem?_eq_none (by simpa using hk)] at q;cases q
    · rw [List.getElem?_set_ne (Ne.symm hj)] at q ⊢
      rw [em];exact r.is j d q
  · by_cases hj:j=i
    · subst hj
      by_cases hk:j < ρ.length
      · rw [List.getElem?_set_self hk] at q;cases q
        exact ⟨p,xs,List.getElem?_set_self (by omega),List.mem_cons_self,nF,BP,by rw [em];exact h⟩
      · rw [List.getElem?_eq_none (by simpa using hk)] at q;cases q
    · rw [List.getElem?_set_ne (Ne.symm hj)] at q ⊢
      obtain ⟨a,ys,h1,h2,h3,h4,h5⟩:=r.own j es q
      exact ⟨a,ys,h1,List.mem_cons_of_mem _ h2,h3,by rw [Bg (a:=p) (fun z=>nO (by rw [←z];exact h2))];exact h4,by rw [em];exact h5⟩
  · have other:∀ (m:Nat) es,m≠i→(ρ.set i (some (.own ds)))[m]? = some (some (.own es))→(σ.set i (some (.ref p)))[m]? = some (some (.ref p))→False:=fun m es hm q1 q2=>by
      rw [List.getElem?_set_ne (Ne.symm hm)] at q1 q2
      obtain ⟨b,_,e1,e2,_⟩:=r.own m es q1
      rw [e1] at q2
      cases q2
      exact nO e2
    by_cases hj:j=i
    · by_cases hk:k=i
      · rw [hj,hk]
      · subst hj
        have:a=p:=by
          rw [List.getElem?_set_self (by
            have:=(List.getElem?_eq_some_iff.mp h1).1
            simp at this;omega)] at h3
          cases h3;rfl
        subst this
        exact (other k es' hk h2 h4).elim
    · by_cases hk:k=i
      · subst hk
        have:a=p:=by
          rw [List.getElem?_set_self (by
            have:=(List.getElem?_eq_some_iff.mp h2).1
            simp at this;omega)] at h4
          cases h4;rfl
        subst this
        exact (other j es hj h1 h3).elim
      · rw [List.getElem?_set_ne (Ne.symm hj)] at h1 h3
        rw [List.getElem?_set_ne (Ne.symm hk)] at h2 h4
        exact r.inj j k es es' a h1 h2 h3 h4
theorem Rep.putOwn (r:Rep K B F O H σ ρ) {i:Nat} {a:Addr} {ds es:List Dt} {xs ys:List V} (hi:ρ[i]? = some (some (.own ds))) (hs:σ[i]? = some (some (.ref a))) (ha:a∈O) (hH:H a=some (.lst xs)) (h:RpL K (mask (F ++ O) H) es ys) :
    Rep K B F O (upd H a (.lst ys)) σ (ρ.set i (some (.own es))):=by
  have em:mask (F ++ O) (upd H a (.lst ys))=mask (F ++ O) H:=Kv (List.mem_append_right _ ha)
  have hk:i < ρ.length:=(List.getElem?_eq_some_iff.mp hi).1
  refine ⟨by simpa using r.len,fun b o e=>?_,r.fr,fun b hb e=>?_,fun j d q=>?_,fun j ks q=>?_,fun j k es' es'' b h1 h2 h3 h4=>?_⟩
  · rw [Bg fun z=>by rw [z,r.fr a ha] at e;cases e];exact r.base b o e
  · by_cases z:b=a
    · rw [z,BP] at e;cases e
    · rw [Bg z] at e;exact r.th b hb e
  · have hj:j≠i:=fun z=>by subst z;rw [List.getElem?_set_self hk] at q;cases q
    rw [List.getElem?_set_ne (Ne.symm hj)] at q
    rw [em];exact r.is j d q
  · by_cases hj:j=i
    · subst hj
      rw [List.getElem?_set_self hk] at q;cases q
      obtain ⟨b,_,e1,e2,e3,_⟩:=r.own j ds hi
      rw [hs] at e1;cases e1
      exact ⟨a,ys,hs,ha,e3,BP,by rw [em];exact h⟩
    · rw [List.getElem?_set_ne (Ne.symm hj)] at q
      obtain ⟨b,zs,e1,e2,e3,e4,e5⟩:=r.own j ks q
      have nb:b≠a:=fun z=>by subst z;exact hj (r.inj j i ks ds b q hi e1 hs)
      exact ⟨b,zs,e1,e2,e3,by rw [Bg nb];exact e4,by rw [em];exact e5⟩
  · have back:∀ (m:Nat) ks,(ρ.set i (some (.own es)))[m]? = some (some (.own ks))→∃ ks',ρ[m]? = some (some (.own ks')):=fun m ks q=>by
      by_cases hm:m=i
      · subst hm;exact ⟨ds,hi⟩
      · rw [List.getElem?_set_ne (Ne.symm hm)] at q;exact ⟨ks,q⟩
    obtain ⟨_,q1⟩:=back j es' h1
    obtain ⟨_,q2⟩:=back k es'' h2
    exact r.inj j k _ _ b q1 q2 h3 h4
theorem Rep.freeze (r:Rep K B F O H σ ρ) {i:Nat} {ds:List Dt} (hi:ρ[i]? = some (some (.own ds))):∃ O',Rep K B F O' H σ (ρ.set i (some (.is (.lst ds)))):=by
  obtain ⟨a,xs,h1,h2,h3,h4,h5⟩:=r.own i ds hi
  have hk:i < ρ.length:=(List.getElem?_eq_some_iff.mp hi).1
  have sub:∀ b∈F ++ O.filter (fun b=>decide (b≠a)),b∈F ++ O:=fun b hb=>by
    rcases List.mem_append.mp hb with hb | hb
    · exact List.mem_append_left _ hb
    · exact List.mem_append_right _ (List.mem_filter.mp hb).1
  have na:a∉F ++ O.filter (fun b=>decide (b≠a)):=fun z=>by
    rcases List.mem_append.mp z with z | z
    · exact h3 z
    · exact of_decide_eq_true (List.mem_filter.mp z).2 rfl
  refine ⟨O.filter fun b=>decide (b≠a),by simpa using r.len,r.base,fun b hb=>r.fr b (List.mem_filter.mp hb).1,fun b hb=>r.th b (sub b hb),fun j d q=>?_,fun j es q=>?_,fun j k es es' b q1 q2 q3 q4=>?_⟩
  · by_cases hj:j=i
    · subst hj
      rw [List.getElem?_set_self hk] at q;cases q
      exact ⟨.ref a,h1,K8 ⟨a,xs,rfl,(by rw [Bf na];exact h4),h5.mono (G7 sub)⟩⟩
    · rw [List.getElem?_set_ne (Ne.symm hj)] at q
      obtain ⟨v,e1,e2⟩:=r.is j d q
      exact ⟨v,e1,e2.mono (G7 sub)⟩
  · have hj:j≠i:=fun z=>by subst z;rw [List.getElem?_set_self hk] at q;cases q
    rw [List.getElem?_set_ne (Ne.symm hj)] at q
    obtain ⟨b,ys,e1,e2,e3,e4,e5⟩:=r.own j es q
    have nb:b≠a:=fun z=>by subst z;exact hj (r.inj j i es ds b q hi e1 h1)
    exact ⟨b,ys,e1,List.mem_filter.mpr ⟨e2,decide_eq_true nb⟩,e3,e4,e5.mono (G7 sub)⟩
  · have nj:∀ (m:Nat) ks,(ρ.set i (some (.is (.lst ds))))[m]? = some (some (.own ks))→ρ[m]? = some (some (.own ks)):=fun m ks q=>by
      have hm:m≠i:=fun z=>by subst z;rw [List.getElem?_set_self hk] at q;cases q
      rw [List.getElem?_set_ne (Ne.symm hm)] at q;exact q
    exact r.inj j k es es' b (nj j es q1) (nj k es' q2) q3 q4
end
section
variable {X:Cx} {a b c e:Expr} {es:List Expr} {st:Stmt} {ta tb te:DTE} {tl:DTA} {t:DTS} {pos:Pos}
noncomputable def AiN (i:Nat) (tl:DTA):DTS:=fun D ρ=>tl ρ fun ds=>ds.length≤sizeLine∧D.nx (ρ.set i (some (.own ds)))
theorem ZV (i:Nat) {x:Str} {pos' lp:Pos} (hN:X.N.Nodup) (ha:DA X es tl) (hi:X.N[i]? = some x:=by rfl) (hx:Loc X.env.scope x:=by first | exact Or.inl rfl | exact Or.inr rfl) (hs:swapsWith (.List es lp) (some (.Name x pos')) pos.line X.env=pure false:=by rfl)
    (hf:X.fn x=true∨X.env.scope.names.lookup x=some .local:=by first | exact .inl rfl | exact .inr rfl | assumption):DS X (.Assign [.Name x pos'] (.List es lp) pos) (AiN i tl) where
  mono:=fun hd h=>ha.mono (fun ds ⟨h1,h2⟩=>⟨h1,hd.nx _ h2⟩) h
  ps:=(Zn hN hi hx (Zt ha.pa) hs hf).imp fun D σ H ⟨B,F,O,ρ,R,h⟩=>⟨B,F,O,ρ,R,ha.mono (fun ds ⟨h1,h2⟩ vs H1 s1 r1=>⟨by rw [r1.len];exact h1,fun p hp=>h2 (p :: O) _ _ ((R.same s1).newOwn i hp r1)⟩) h⟩
noncomputable def ownAt (ρ:Ce) (j:Nat) (k:List Dt→Prop):Prop:=match ρ[j]? with
  | some (some (.own ds))=>k ds
  | _=>False
theorem ownAt.mono {ρ:Ce} {j:Nat} {k k':List Dt→Prop} (hk:∀ ds,k ds→k' ds) (h:ownAt ρ j k):ownAt ρ j k':=by
  unfold ownAt at h ⊢
  split at h
  · exact hk _ h
  · exact h.elim
theorem ownAt.get {ρ:Ce} {j:Nat} {k:List Dt→Prop} (h:ownAt ρ j k):∃ ds,ρ[j]? = some (some (.own ds))∧k ds:=by
  unfold ownAt at h
  split at h
  · rename_i ds e;exact ⟨ds,e,h⟩
  · exact h.elim
noncomputable def AkQ (j:Nat) (tb:DTE):DTE:=fun ρ Q=>ownAt ρ j fun ds=>tb ρ fun k=>match k with
  | .int i=>match ixL i ds with
    | some v=>Q v
    | none=>False
  | _=>False
noncomputable def AhO (j:Nat) (te tb:DTE):DTS:=fun D ρ=>te ρ fun d=>ownAt ρ j fun ds=>tb ρ fun k=>match k with
  | .int i=>(0≤i∧i < ds.length)∧D.nx (ρ.set j (some (.own (ds.set i.toNat d))))
  | _=>False
noncomputable def AdF (j:Nat) (te:DTE):DTS:=fun D ρ=>ownAt ρ j fun ds=>te ρ fun d=>ds.length < sizeLine∧D.nx (ρ.set j (some (.own (ds ++ [d]))))
theorem Wc (j:Nat) {x:Str} {px ap cp:Pos} (he:DE X e te) (hN:X.N[j]? = some x:=by rfl) (hv:Vis X.env.scope x:=by first | exact Or.inl rfl | exact Or.inr (Or.inl rfl) | exact Or.inr (Or.inr rfl)) (hd:(x == ("__debug__":Str))=false:=by decide)
    (hcd:(x == ("__classdict__":Str))=false:=by decide) (hbase:attributeBase (.Name x px) "append" X.env (eval (.Name x px) X.env)=eval (.Name x px) X.env:=by rfl)
    (hfew:((backTo cp (starEach [e] X.env)).all (fun x=>!x.1) && (backToKw cp (keywordEach [] X.env)).all (fun x=>x.1.isSome) && decide ([e].length+([]:List Keyword).length+(if ([]:List Keyword).isEmpty then 0 else 1) < 30))=true:=by rfl)
    (hline:(ap.endLine == cp.line)=true:=by rfl) (hst:starEach [e] X.env=(false,eval e X.env) :: starEach [] X.env:=by rfl) (hplain:(backTo cp (starEach [] X.env)).any (·.1)=false:=by rfl)
    (hs:swapsWith (.Call (.Attribute (.Name x px) "append" ap) [e] [] cp) none pos.line X.env=pure false:=by rfl):DS X (.Expr (.Call (.Attribute (.Name x px) "append" ap) [e] [] cp) pos) (AdF j te) where
  mono:=fun hd h=>h.mono fun ds h=>he.mono (fun d h=>⟨h.1,hd.nx _ h.2⟩) h
  ps:=(Sy (AgN PySem.F.plainAttrs_list PySem.F.slot_list_append PySem.F.type_list_append Mx (LC hN hv hd hcd) (Ld he.pe V0 hst) hbase hfew hline hst hplain) hs).imp fun D σ H ⟨B,F,O,ρ,R,h⟩=>by
    obtain ⟨ds,e1,h⟩:=h.get
    obtain ⟨a,xs,h1,h2,h3,h4,h5⟩:=R.own j ds e1
    refine ⟨_,h1,.inl ⟨rfl,_,SqL.of h4⟩,B,F,O,ρ,R,he.mono (fun d h v H1 s1 r1=>?_) h⟩
    exact ⟨a,xs,v,rfl,rfl,s1 _ _ h4,by rw [h5.len];exact h.1,h.2 O σ _ ((R.same s1).putOwn e1 h1 h2 (s1 _ _ h4) ((h5.mono s1.mask).append (.cons r1 .nil)))⟩
noncomputable def Ahg (j:Nat) (t:DTS):DTS:=fun D ρ=>ownAt ρ j fun ds=>t D (ρ.set j (some (.is (.lst ds))))
theorem Aag (j:Nat) (h:DS X st t):DS X st (Ahg j t) where
  mono:=fun hd z=>z.mono fun ds z=>h.mono hd z
  ps:=h.ps.imp fun D σ H ⟨B,F,O,ρ,R,z⟩=>by
    obtain ⟨ds,e1,z⟩:=z.get
    obtain ⟨O',R'⟩:=R.freeze e1
    exact ⟨B,F,O',_,R',z⟩
noncomputable def AhQ (j:Nat):DTE:=fun ρ Q=>ownAt ρ j fun ds=>Q (.int ds.length)
noncomputable def Aih:D2:=fun a b Q=>match a with
  | .tup xs=>match b with
    | .tup ys=>(xs≠[]∧xs.length+ys.length≤sizeLine)∧Q (.tup (xs ++ ys))
    | _=>False
  | _=>False
end
end L2
namespace L2
open PySem PySem.Spec PyProof.Rows
section chain3
variable {X:Cx} {a b c e:Expr} {ta tb tc te:TE} {pos:Pos}
theorem X7 {op op' op2:CmpOp} {r r' r2:R2} (ho:OpR X (compareOp op) r) (ho':OpR X (compareOp op') r') (ho2:OpR X (compareOp op2) r2) (ha:PE X a ta) (hb:PE X b tb) (hc:PE X c tc) (he:PE X e te)
    (hm:lastMarks [op,op',op2] [b,c,e]=false:=by with_unfolding_all rfl):PT X (.Compare a [op,op',op2] [b,c,e] pos) (fun σ H Q=>ta σ H fun x H1=>tb σ H1 fun y H2=>r x y H2 fun z H3=>∃ k,z=.bl k ∧
      (if k=true then tc σ H3 fun w' H4=>r' y w' H4 fun z H5=>∃ k,z=.bl k∧(if k=true then te σ H5 fun y' H6=>r2 w' y' H6 fun z H7=>∃ k,z=.bl k∧Q k H7 else Q false H5) else Q false H3)):=by
  intro pins s σ H Q I h
  refine isTrue_chain (thn (ha pins s σ H _ I h) fun v s1 ⟨x,H1,I1,r1,q1⟩=>test_link (thn (hb pins s1 σ H1 _ I1 q1) fun u s2 ⟨y,H2,I2,r2,q2⟩ =>
    thn (ho pins s2 σ H2 x y v u _ I2 r1 r2 q2) fun d s3 ⟨z,H3,I3,r3,k,e,q3⟩=>?_)) hm
  subst e
  cases r3
  refine wpAny_truthy_bool ?_
  cases k with
  | false=>exact ite_ff ⟨H3,I3,q3⟩
  | true =>
    refine ite_tt (test_link (thn (hc pins s3 σ H3 _ I3 q3) fun w' s4 ⟨z',H4,I4,r4,q4⟩=>thn (ho' pins s4 σ H4 y z' u w' _ I4 r2 r4 q4) fun d' s5 ⟨z2,H5,I5,r5,k2,e2,q5⟩=>?_))
    subst e2
    cases r5
    refine wpAny_truthy_bool ?_
    cases k2 with
    | false=>exact ite_ff ⟨H5,I5,q5⟩
    | true =>
      refine ite_tt (test_last (thn (he pins s5 σ H5 _ I5 q5) fun w2 s6 ⟨z3,H6,I6,r6,q6⟩=>thn (ho2 pins s6 σ H6 z' z3 w' w2 _ I6 r4 r6 q6) fun d' s7 ⟨z4,H7,I7,r7,k3,e3,q7⟩=>?_))
      subst e3
      cases r7
      exact wpAny_truthy_bool ⟨H7,I7,q7⟩
end chain3
noncomputable def Wr (t t' t2:D2) (ta tb tc te:DTE):DTT:=fun ρ Q=>ta ρ fun a=>tb ρ fun b=>t a b fun z=>match z with
  | .bl k=>if k=true then tc ρ fun c=>t' b c fun z=>match z with
    | .bl k=>if k=true then te ρ fun e=>t2 c e fun z=>match z with
      | .bl k=>Q k
      | _=>False
      else Q false
    | _=>False
    else Q false
  | _=>False
section
variable {X:Cx} {a b c e:Expr} {ta tb tc te:DTE} {pos:Pos}
theorem Mq {op op' op2:CmpOp} {r r' r2:R2} {t t' t2:D2} (ho:OpR X (compareOp op) r) (ho':OpR X (compareOp op') r') (ho2:OpR X (compareOp op2) r2) (S:Je X.K r t) (S':Je X.K r' t') (S2:Je X.K r2 t2) (ha:DE X a ta) (hb:DE X b tb) (hc:DE X c tc) (he:DE X e te)
    (hm:lastMarks [op,op',op2] [b,c,e]=false:=by with_unfolding_all rfl):DT X (.Compare a [op,op',op2] [b,c,e] pos) (Wr t t' t2 ta tb tc te) where
  mono:=fun hq h=>ha.mono (fun _ h=>hb.mono (fun _ h=>S.mono (fun z h=>by
    split at h
    · rename_i k
      cases k with
      | true =>
        refine hc.mono (fun _ h=>S'.mono (fun z h=>?_) h) h
        split at h
        · rename_i k
          cases k with
          | true =>
            refine he.mono (fun _ h=>S2.mono (fun z h=>?_) h) h
            split at h
            · exact hq _ h
            · exact h.elim
          | false=>exact hq _ h
        · exact h.elim
      | false=>exact hq _ h
    · exact h.elim) h) h) h
  pt:=(X7 ho ho' ho2 ha.pe hb.pe hc.pe he.pe hm).imp fun σ H Q ⟨B,F,O,ρ,R,h⟩=>by
    refine ⟨B,F,O,ρ,R,ha.mono (fun a h v H1 s1 r1=>⟨B,F,O,ρ,R.same s1,hb.mono (fun b h u H2 s2 r2=>?_) h⟩) h⟩
    refine S.ok _ H2 a b v u _ ((R.same s1).same s2).th (r1.mono s2.mask) r2 (S.mono (fun z h w H3 s3 r3=>?_) h)
    split at h
    · rename_i k
      refine ⟨k,Ep.mp r3,?_⟩
      have s123:=(s1.trans s2).trans s3
      cases k with
      | false=>exact h H3 s123
      | true =>
        refine ⟨B,F,O,ρ,R.same s123,hc.mono (fun c h y H4 s4 r4=>?_) h⟩
        refine S'.ok _ H4 b c u y _ ((R.same s123).same s4).th ((r2.mono s3.mask).mono s4.mask) r4 (S'.mono (fun z h w H5 s5 r5=>?_) h)
        split at h
        · rename_i k
          refine ⟨k,Ep.mp r5,?_⟩
          have s5':=(s123.trans s4).trans s5
          cases k with
          | false=>exact h H5 s5'
          | true =>
            refine ⟨B,F,O,ρ,R.same s5',he.mono (fun e h y2 H6 s6 r6=>?_) h⟩
            refine S2.ok _ H6 c e y y2 _ ((R.same s5').same s6).th ((r4.mono s5.mask).mono s6.mask) r6 (S2.mono (fun z h w H7 s7 r7=>?_) h)
            split at h
            · exact ⟨_,Ep.mp r7,h H7 ((s5'.trans s6).trans s7)⟩
            · exact h.elim
        · exact h.elim
    · exact h.elim
end
end L2
namespace L2
open PySem PySem.Spec PyProof.Rows PySem.W
end L2
namespace L2
open PySem PySem.Spec PyProof.Rows
variable {X:Cx} {a b:Expr} {ta tb:DTE} {pos:Pos}
theorem Nr {K:PySem.W.Frag} {H:Hp}:∀ {ns:List Int} {xs:List V},RpL K H (ns.map Dt.int) xs→xs=ns.map V.int
  | [],_,h=>by
    obtain rfl:=BR.mp h
    rfl
  | n :: ns,_,h=>by
    obtain ⟨v,r,rfl,r2,r3⟩:=Aw.mp h
    rw [Bp] at r2
    subst r2
    rw [Nr r3]
    rfl
noncomputable def dIn:D2:=fun a b Q=>∃ (i:Int) (ns:List Int),a=.int i∧b=.lst (ns.map Dt.int)∧Q (.bl (decide (i∈ns)))
noncomputable def Ahj (i:Nat) (te:DTE):DTS:=fun D ρ=>match ρ[i]? with
  | some (some (.is (.int a)))=>te ρ fun d=>match d with
    | .int b=>D.nx (ρ.set i (some (.is (.int (a+b)))))
    | _=>False
  | _=>False
noncomputable def Agr (i j k:Nat) (ta:TA):TS:=fun D σ H=>ta σ H fun vs H1=>∃ u v w,vs=[u,v,w]∧D.nx (((σ.set i (some u)).set j (some v)).set k (some w)) H1
theorem AaT {i j k:Nat} {x y z:Str} {a b c:Expr} {ta:TA} {px py pz pt:Pos} {kt k2 pt2} (hc:X.calm=true) (hN:X.N.Nodup) (hi:X.N[i]? = some x) (hj:X.N[j]? = some y) (hk:X.N[k]? = some z) (hij:i≠j) (hik:i≠k) (hjk:j≠k)
    (hx:X.env.scope.names.lookup x=some .local) (hy:X.env.scope.names.lookup y=some .local) (hz:X.env.scope.names.lookup z=some .local) (ha:PA X [a,b,c] ta)
    (hw:swappedStores [.Tuple [.Name x px,.Name y py,.Name z pz] kt pt] (.Tuple [a,b,c] k2 pt2) X.env=pure (some [x,y,z]))
    (hs:swapsWithSole [.Tuple [.Name x px,.Name y py,.Name z pz] kt pt] (.Tuple [a,b,c] k2 pt2) pos.line X.env=pure false:=by rfl) :
    PS X (.Assign [.Tuple [.Name x px,.Name y py,.Name z pz] kt pt] (.Tuple [a,b,c] k2 pt2) pos) (Agr i j k ta):=by
  intro pins s σ H D I h
  rw [exec_Assign_arm]
  refine wpAny_bind (wpAny_standAt ?_)
  rw [hs]
  refine wpAny_bind (wpAny_pure ?_)
  rw [if_neg (by decide)]
  refine wpAny_bind (Tuple_ (thn (ha _ pins s σ H _ I h) fun us s1 ⟨vs,H1,I1,r1,q1⟩=>?_))
  obtain ⟨u,v,w,e1,q1⟩:=q1
  subst e1
  obtain ⟨u1,u2,u3,rfl,ru,rv,rw'⟩:∃ u1 u2 u3,us=[u1,u2,u3]∧RelV u u1∧RelV v u2∧RelV w u3:=by
    cases r1 with
    | cons p q =>
      cases q with
      | cons p' q' =>
        cases q' with
        | cons p'' q'' =>
          cases q''
          exact ⟨_,_,_,rfl,p,p',p''⟩
  refine wpAny_newObj_type ?_ (by show 3≤sizeLine;decide)
  have I2:Inv X pins σ H1 { s1 with heap:=s1.heap.push { cls:=.type "tuple",data:=.seq [u1,u2,u3].toArray } }:=I1.kept (t':=s1.toks) fun b o e=>Heap.get?_push_of_some _ e
  rw [hw]
  refine wpAny_bind (wpAny_pure ?_)
  show wpAny (model X.prog X.w) X.A (do rule "assign.swapped-stores";let items ←unpackItems (.ref s1.heap.objs.size) 3 none;assignInOrder [fun v=>bindName X.env z v,fun v=>bindName X.env y v,fun v=>bindName X.env x v] items.reverse;pure Flow.next) _ _ _
  refine wpAny_bind (wpAny_rule (wpAny_bind (unpackItems_tuple (items:=#[u1,u2,u3]) (I.ok.hd hc) (IsTup.new s1.heap _) fun h' hx'=>?_)))
  have I3:=I2.kept (h':=h') (t':=s1.toks) fun b o e=>hx' b o (Nat.ne_of_lt (Heap.lt_size e)) e
  show wpAny _ _ (assignInOrder [fun v=>bindName X.env z v,fun v=>bindName X.env y v,fun v=>bindName X.env x v] [u3,u2,u1] >>= fun _=>pure Flow.next) _ _ _
  refine wpAny_bind (assignInOrder_cons (wpAny_bindName (G3 I3 hN hk (.inl hz) rw' (fun s2 I4=>?_) (.inr hz))))
  refine assignInOrder_cons (wpAny_bindName (G3 I4 hN hj (.inl hy) rv (fun s3 I5=>?_) (.inr hy)))
  refine assignInOrder_cons (wpAny_bindName (G3 I5 hN hi (.inl hx) ru (fun s4 I6=>assignInOrder_nil (wpAny_pure ?_)) (.inr hx)))
  rw [List.set_comm (some w) (some v) (Ne.symm hjk),List.set_comm (some w) (some u) (Ne.symm hik),List.set_comm (some v) (some u) (Ne.symm hij)] at I6
  exact ⟨_,H1,I6,q1⟩
noncomputable def Ac2 (i j k:Nat) (tl:DTA):DTS:=fun D ρ=>tl ρ fun ds=>match ds with
  | [d,e,f]=>D.nx (((ρ.set i (some (.is d))).set j (some (.is e))).set k (some (.is f)))
  | _=>False
theorem Acy {a b c:Expr} {tl:DTA} {x y z:Str} {px py pz pt:Pos} {kt k2 pt2} (hc:X.calm=true) (hN:X.N.Nodup) (i j k:Nat) (ha:DA X [a,b,c] tl) (hi:X.N[i]? = some x:=by rfl) (hj:X.N[j]? = some y:=by rfl) (hk:X.N[k]? = some z:=by rfl) (hij:i≠j:=by decide) (hik:i≠k:=by decide) (hjk:j≠k:=by decide)
    (hx:X.env.scope.names.lookup x=some .local:=by rfl) (hy:X.env.scope.names.lookup y=some .local:=by rfl) (hz:X.env.scope.names.lookup z=some .local:=by rfl)
    (hw:swappedStores [.Tuple [.Name x px,.Name y py,.Name z pz] kt pt] (.Tuple [a,b,c] k2 pt2) X.env=pure (some [x,y,z]):=by rfl)
    (hs:swapsWithSole [.Tuple [.Name x px,.Name y py,.Name z pz] kt pt] (.Tuple [a,b,c] k2 pt2) pos.line X.env=pure false:=by rfl) :
    DS X (.Assign [.Tuple [.Name x px,.Name y py,.Name z pz] kt pt] (.Tuple [a,b,c] k2 pt2) pos) (Ac2 i j k tl) where
  mono:=fun hd h=>ha.mono (fun ds h=>by
    split at h
    · exact hd.nx _ h
    · exact h.elim) h
  ps:=(AaT hc hN hi hj hk hij hik hjk hx hy hz ha.pa hw hs).imp fun D σ H ⟨B,F,O,ρ,R,h⟩=>⟨B,F,O,ρ,R,ha.mono (fun ds q vs H1 s1 r1=>by
    split at q
    · obtain ⟨v,r,rfl,r2,r3⟩:=Aw.mp r1
      obtain ⟨v',r',rfl,r4,r5⟩:=Aw.mp r3
      obtain ⟨v2,r6,rfl,r7,r8⟩:=Aw.mp r5
      obtain rfl:=BR.mp r8
      exact ⟨v,v',v2,rfl,q O _ H1 ((((R.same s1).set i r2).set j r4).set k r7)⟩
    · exact q.elim) h⟩
end L2
namespace L2
open PySem PySem.Spec PyProof.Rows PySem.SeqAt
mutual
noncomputable def Dt.noL:Nat→Dt→Bool
  | _,.non=>true
  | _,.bl _=>true
  | _,.int _=>true
  | _,.str _=>true
  | 0,_=>false
  | n+1,.tup ds=>Dt.noLs n ds
  | _,_=>false
noncomputable def Dt.noLs:Nat→List Dt→Bool
  | _,[]=>true
  | n,d :: ds=>Dt.noL n d && Dt.noLs n ds
end
theorem AfA {n:Nat} {d:Dt} {r:List Dt}:Dt.noLs n (d :: r)=(Dt.noL n d && Dt.noLs n r):=by rw [Dt.noLs]
theorem Af0 {n:Nat} {r:List Dt}:Dt.noL (n+1) (.tup r)=Dt.noLs n r:=by rw [Dt.noL]
noncomputable def Keep (M M':Hp):Prop:=∀ b o,M b=some o→(∀ xs,o≠.lst xs)→M' b=some o
mutual
theorem AeB {K:PySem.W.Frag} {M M':Hp} (k:Keep M M'):∀ (n:Nat) (d:Dt) (v:V),d.noL n=true→Rp K M d v→Rp K M' d v
  | _,.non,_,_,r=>by rw [Te] at r ⊢;exact r
  | _,.bl _,_,_,r=>by rw [Ep] at r ⊢;exact r
  | _,.int _,_,_,r=>by rw [Bp] at r ⊢;exact r
  | _,.str _,_,_,r=>by rw [RJ] at r ⊢;exact r
  | 0,.tup _,_,h,_=>by simp [Dt.noL] at h
  | n+1,.tup ds,_,h,r=>by
    rw [Af0] at h
    obtain ⟨a,xs,e,q,r⟩:=Dn.mp r
    refine Dn.mpr ⟨a,xs,e,?_,Wh k n ds xs h r⟩
    rcases q with (q | ⟨o,q⟩) | q
    · exact .inl (.inl (k _ _ q fun _=>by simp))
    · exact .inl (.inr ⟨o,k _ _ q fun _=>by simp⟩)
    · exact .inr q
  | 0,.lst _,_,h,_=>by simp [Dt.noL] at h
  | _+1,.lst _,_,h,_=>by simp [Dt.noL] at h
  | 0,.fn _,_,h,_=>by simp [Dt.noL] at h
  | _+1,.fn _,_,h,_=>by simp [Dt.noL] at h
  | 0,.exc _ _ _,_,h,_=>by simp [Dt.noL] at h
  | _+1,.exc _ _ _,_,h,_=>by simp [Dt.noL] at h
  | 0,.obj _ _ _,_,h,_=>by simp [Dt.noL] at h
  | _+1,.obj _ _ _,_,h,_=>by simp [Dt.noL] at h
theorem Wh {K:PySem.W.Frag} {M M':Hp} (k:Keep M M'):∀ (n:Nat) (ds:List Dt) (vs:List V),Dt.noLs n ds=true→RpL K M ds vs→RpL K M' ds vs
  | _,[],_,_,r=>by rw [BR] at r ⊢;exact r
  | n,d :: ds,_,h,r=>by
    rw [AfA,Bool.and_eq_true] at h
    obtain ⟨v,w,rfl,r1,r2⟩:=Aw.mp r
    exact Aw.mpr ⟨v,w,rfl,AeB k n d v h.1 r1,Wh k n ds w h.2 r2⟩
end
noncomputable def AiS:Option HO→Bool
  | some (.lst _)=>true
  | _=>false
noncomputable def lists (H:Hp) (n:Nat):List Addr:=(List.range n).filter fun a=>AiS (H a)
section
variable {X:Cx} {a b c e:Expr} {es:List Expr} {st:Stmt} {ta tb te:DTE} {tl:DTA} {tA:DTT} {t:DTS} {pos:Pos}
noncomputable def AdX (i:Nat) (sp:DSp) (tl:DTA):DTS:=fun D ρ=>tl ρ fun ds=>Dt.noLs 4 ds=true∧sp ds fun d=>∃ ks,d=.lst ks∧(∃ r,Dt.tup r∈ks)∧Dt.noLs 4 ks=true∧D.nx (ρ.set i (some (.own ks)))
noncomputable def Aei (j:Nat) (t:DTT):DTT:=fun ρ Q=>ownAt ρ j fun ds=>t (ρ.set j (some (.is (.lst ds)))) Q
noncomputable def AeF (j:Nat):DTE:=fun ρ Q=>ownAt ρ j fun ds=>Q (.lst ds)
end
end L2
namespace L2
open PySem PySem.Spec PyProof.Rows PySem.W PySem.Builtin PySem.Builtin.ObjectAttr
section
variable {prog:Program} {w:World} {A:Around} {E:Value→Shared→Prop} {s:Shared} {K:PySem.W.Frag} {C U x dx:Addr} {name:Str} {v:Value}
end
section
variable {X:Cx} {pins:List (Addr × Obj)} {σ:St} {H:Hp} {s:Shared} {h':Heap} {a dx C U f fI:Addr}
end
end L2
namespace L2
open PySem PySem.Spec PyProof.Rows PySem.SeqAt
noncomputable abbrev Afx:=Ce→(List Dt→Prop)→(Dt→Prop)→Prop
section
variable {X:Cx} {e:Expr} {es:List Expr} {te:Tz} {tl:DTA} {tx:Afx} {pos:Pos}
noncomputable def Ad5 (te:Tz) (tl:DTA):Afx:=fun ρ Q E=>te ρ (fun d=>tl ρ fun ds=>Q (d :: ds)) E
noncomputable def AeR (sp:DSp) (tx:Afx):Tz:=fun ρ Q E=>tx ρ (fun ds=>sp ds Q) E
end
end L2
namespace L2
open PySem PySem.Spec PyProof.Rows
section
variable {prog:Program} {w:World} {A:Around} {I S:Addr} {fp wr:List Addr} {n:Nat} {P:Nat→Value→Prop} {St:Nat→Heap→Prop} {bt:Nat→Nat→Bool} {R:Result→Shared→Prop}
noncomputable def Lq (wr:List Addr) (S:Addr) (h h':Heap):Prop:=∀ b o,b∉wr→b≠S→h.get? b=some o→h'.get? b=some o
noncomputable def Sx (prog:Program) (w:World) (A:Around) (wr:List Addr) (S:Addr) (h:Heap) (P:Nat→Value→Prop) (bt:Nat→Nat→Bool):Prop :=
  ∀ (i j:Nat) (x y:Value) (s:Shared) (Q:Value→Shared→Prop) (E:Value→Shared→Prop),Lq wr S h s.heap→P i x→P j y→Q (.bool (bt i j)) s→wpAny (model prog w) A (richCompare .Lt x y) Q E s
theorem Rw:(toString "min" ++ toString ".loop":String)="min.loop":=by decide
theorem VH {h0:Heap} (W:Walks prog w A.in1 I fp wr n P St) (less:Sx prog w A.in1 wr S h0 P bt) (off:S∉fp) :
    ∀ (left at':Nat) (s:Shared) (best:Value) (c:Nat),n=at'+1+left→St (at'+1) s.heap→P (argBest bt at') best→Lq wr S h0 s.heap →
      s.heap.get? S=some ⟨.type "list",none,.seq #[best,best] c,#[]⟩ →
      (∀ v h' tk,P (argBest bt (n - 1)) v→Lq wr S s.heap h'→R (.ok (.ret v)) { s with heap:=h',toks:=tk }) →
      codeAny (model prog w) A (.builtin "min.loop" ⟨[.ref I,.none,.ref S],[]⟩) R s:=by
  have off':S∉wr:=fun z=>off (W.sub _ z)
  have nm:=Rw
  intro left
  induction left with
  | zero =>
    intro at' s best c hn st hb hk hS fin
    have e:at'+1=n:=by omega
    refine codeAny_builtin F.entry_min_loop ?_;rw [Around.under_plainId F.plain_min_loop _];show wpAny _ A.in1 (seqItems? (.ref S) >>= _) _ _ s
    refine wpAny_bind (wpAny_seqItems hS rfl ?_);show wpAny _ A.in1 (tryCatch (pyNext (.ref I)) _ >>= _) _ _ s
    refine wpAny_bind (wpAny_tryCatch (W.done s _ _ (e ▸ st) fun h1 tk k1=>?_))
    show wpAny _ A.in1 (updateSeq S (fun _=>#[]) >>= _) _ _ _;refine wpAny_bind (wpAny_updateSeq (k1 S _ off' hS) rfl (wpAny_bind (wpAny_letGo (wpAny_pure ?_))))
    exact fin best _ tk (by rw [←e];exact hb) fun b o nb ns eo=>(Heap.get?_update_other _ _ (Ne.symm ns)).trans (k1 b o nb eo)
  | succ left ih =>
    intro at' s best c hn st hb hk hS fin
    refine codeAny_builtin F.entry_min_loop ?_;rw [Around.under_plainId F.plain_min_loop _];show wpAny _ A.in1 (seqItems? (.ref S) >>= _) _ _ s
    refine wpAny_bind (wpAny_seqItems hS rfl ?_);show wpAny _ A.in1 (tryCatch (pyNext (.ref I)) _ >>= _) _ _ s
    refine wpAny_bind (wpAny_tryCatch (W.item (at'+1) s _ _ (by omega) st fun v h1 tk hv st1 k1=>?_))
    have hS1:=k1 S _ off' hS
    have hk1:Lq wr S h0 h1:=fun b o nb ns eo=>k1 b o nb (hk b o nb ns eo)
    show wpAny _ A.in1 (tryCatch (holding [v,v] (richCompare .Lt v best >>= _)) _ >>= _) _ _ _
    refine wpAny_bind (wpAny_tryCatch (wpAny_holding (wpAny_bind (less (at'+1) (argBest bt at') v best _ _ _ hk1 hv hb ?_))))
    refine wpAny_bind (wpAny_holding (wpAny_truthy_bool ?_));refine wpAny_bind (wpAny_letGo (wpAny_pure ?_))
    cases hbt:bt (at'+1) (argBest bt at') with
    | true =>
      simp only [if_true]
      refine wpAny_bind (wpAny_updateSeq hS1 rfl (wpAny_bind (wpAny_letGo ?_)))
      rw [nm]
      refine wpAny_pure ⟨plainId_quiet F.plain_min_loop _,ih (at'+1) _ v _ (by omega) (W.frame _ _ _ st1 fun b hbf o eo=>(Heap.get?_update_other _ _ (fun z:S=b=>off (z ▸ hbf))).trans eo) (by simp only [argBest,hbt,if_true];exact hv) (fun b o nb ns eo=>(Heap.get?_update_other _ _ (Ne.symm ns)).trans (hk1 b o nb ns eo)) (Heap.get?_update_self _ hS1 rfl) fun v' h2 tk2 hv' k2=>?_⟩
      exact fin v' h2 tk2 hv' fun b o nb ns eo=>k2 b o nb ns ((Heap.get?_update_other _ _ (Ne.symm ns)).trans (k1 b o nb eo))
    | false =>
      simp only [Bool.false_eq_true,if_false]
      refine wpAny_bind (wpAny_letGo ?_)
      rw [nm]
      refine wpAny_pure ⟨plainId_quiet F.plain_min_loop _,ih (at'+1) _ best c (by omega) st1 (by simp only [argBest,hbt,Bool.false_eq_true,if_false];exact hb) hk1 hS1 fun v' h2 tk2 hv' k2=>?_⟩
      exact fin v' h2 tk2 hv' fun b o nb ns eo=>k2 b o nb ns (k1 b o nb eo)
theorem MN {s:Shared} {c:Nat} (W:Walks prog w A.in1 I fp wr n P St) (less:Sx prog w A.in1 wr S s.heap P bt) (off:S∉fp) (n0:0 < n) (st:St 0 s.heap) (hS:s.heap.get? S=some ⟨.type "list",none,.seq #[] c,#[]⟩)
    (fin:∀ v h' tk,P (argBest bt (n - 1)) v→Lq wr S s.heap h'→R (.ok (.ret v)) { s with heap:=h',toks:=tk }):codeAny (model prog w) A (.builtin "min.loop" ⟨[.ref I,.none,.ref S],[]⟩) R s:=by
  have off':S∉wr:=fun z=>off (W.sub _ z)
  refine codeAny_builtin F.entry_min_loop ?_;rw [Around.under_plainId F.plain_min_loop _];show wpAny _ A.in1 (seqItems? (.ref S) >>= _) _ _ s
  refine wpAny_bind (wpAny_seqItems hS rfl ?_);show wpAny _ A.in1 (tryCatch (pyNext (.ref I)) _ >>= _) _ _ s
  refine wpAny_bind (wpAny_tryCatch (W.item 0 s _ _ n0 st fun v h1 tk hv st1 k1=>?_))
  have hS1:=k1 S _ off' hS
  show wpAny _ A.in1 (updateSeq S (fun _=>#[v,v]) >>= _) _ _ _;refine wpAny_bind (wpAny_updateSeq hS1 rfl ?_);rw [Rw]
  refine wpAny_pure ⟨plainId_quiet F.plain_min_loop _,VH (h0:=s.heap) W less off (n - 1) 0 _ v _ (by omega) (W.frame _ _ _ st1 fun b hbf o eo=>(Heap.get?_update_other _ _ (fun z:S=b=>off (z ▸ hbf))).trans eo) hv (fun b o nb ns eo=>(Heap.get?_update_other _ _ (Ne.symm ns)).trans (k1 b o nb eo)) (Heap.get?_update_self _ hS1 rfl) fun v' h2 tk2 hv' k2=>?_⟩
  exact fin v' h2 tk2 hv' fun b o nb ns eo=>k2 b o nb ns ((Heap.get?_update_other _ _ (Ne.symm ns)).trans (k1 b o nb eo))
theorem TF {E:Value→Shared→Prop} {s:Shared} {x:Value} {Q:Value→Shared→Prop}
    (h:wpAny (model prog w) A.in1 (pyIter x) (fun it s2=>∃ I fp wr n P St bt,it=.ref I∧Walks prog w A.in1 I fp wr n P St∧St 0 s2.heap∧(∀ b∈fp,b < s2.heap.objs.size)∧0 < n ∧
      (∀ h1:Heap,(∀ b o,s2.heap.get? b=some o→h1.get? b=some o)→Sx prog w A.in1 wr s2.heap.objs.size h1 P bt) ∧
      ∀ v h' tk,P (argBest bt (n - 1)) v→(∀ b o,b∉wr→s2.heap.get? b=some o→h'.get? b=some o)→Q v { s2 with heap:=h',toks:=tk }) E s) :
    wpAny (model prog w) A (call (.builtin "min") [x]) Q E s:=by
  refine call_function_tree F.kind_min F.plain_min F.entry_min (F.args_min1 _) ?_;show wpAny _ A.in1 (Builtin.Builtins.bindParams "min" ["key","default"] 0 ⟨[],[]⟩ >>= _) _ _ s
  refine wpAny_bind (wpAny_of_eq (show Builtin.Builtins.bindParams "min" ["key","default"] 0 ⟨[],[]⟩=pure [none,none] from rfl) ?_);refine wpAny_bind (wpAny_pure ?_)
  refine wpAny_bind (wpAny_mono h (fun it s2 h2=>?_) fun _ _ z=>z);obtain ⟨I,fp,wr,n,P,St,bt,rfl,W,st,low,n0,less,fin⟩:=h2
  refine wpAny_bind (wpAny_newObj_type ?_);rw [Rw]
  have off:s2.heap.objs.size∉fp:=fun z=>Nat.lt_irrefl _ (low _ z)
  refine wpAny_pure ⟨plainId_quiet F.plain_min_loop _,MN W (less _ fun b o e=>Heap.get?_push_of_some _ e) off n0 (W.frame _ _ _ st fun b _ o e=>Heap.get?_push_of_some _ e) (Heap.get?_push_size _ rfl) fun v h' tk hv k=>?_⟩
  exact fin v h' tk hv fun b o nb e=>k b o nb (Nat.ne_of_lt (Heap.lt_size e)) (Heap.get?_push_of_some _ e)
end
variable {X:Cx}
theorem Vals.at {xs:List V} {us:List Value} (r:Vals xs us):∀ (i:Nat) (u:Value),us[i]? = some u→∃ x,xs[i]? = some x∧RelV x u:=by
  induction r with
  | nil=>intro i u h;cases h
  | cons h t ih =>
    intro i u e
    cases i with
    | zero=>exact ⟨_,rfl,by cases e;exact h⟩
    | succ i=>exact ih i u e
noncomputable abbrev Lr (ns:List Int):Dt:=.tup (ns.map Dt.int)
end L2
namespace L2
open PySem PySem.Spec PyProof.Rows
variable {X:Cx}
theorem Wu:∀ (ns ms:List Int),Dt.eqs (ns.map Dt.int) (ms.map Dt.int)=decide (ns=ms)
  | [],[]=>by simp [Dt.eqs]
  | [],m :: ms=>by simp [Dt.eqs]
  | n :: ns,[]=>by simp [Dt.eqs]
  | n :: ns,m :: ms=>by
    rw [List.map_cons,List.map_cons,Dt.eqs,Wu ns ms,M6,←Bool.decide_and]
    exact decide_eq_decide.mpr (by simp)
theorem Uc:∀ (ns:List Int),Dt.flats 7 (ns.map Dt.int)=true
  | []=>rfl
  | n :: ns=>by rw [List.map_cons,Dt.flats,Uc ns];rfl
theorem Afm {A:Around} (h:A.units+64 < cLine):A.in1.units < cLine:=by show A.units+1 < cLine;omega
end L2
namespace L2
open PySem PySem.Spec PyProof.Rows PySem.SeqAt
section
variable {X:Cx} {a b c e o:Expr} {es:List Expr} {ta tb te:DTE} {tl:DTA} {pos apos:Pos}
noncomputable def AdN (K:PySem.W.Frag) (te:DTE) (f:Str):DTE:=fun ρ Q=>te ρ fun d=>match d with
  | .obj c ns ds=>Qv K c f∧∃ v,(ns.zip ds).lookup f=some v∧Q v
  | _=>False
theorem Sw {f:Str} (h:DE X e te) (hb:attributeBase e f X.env (eval e X.env)=eval e X.env:=by rfl):DE X (.Attribute e f pos) (AdN X.K te f) where
  mono:=fun hq z=>h.mono (fun d z=>by
    split at z
    · exact let ⟨a,v,b,c⟩:=z;⟨a,v,b,hq _ c⟩
    · exact z.elim) z
  pe:=(Ae0 h.pe hb).imp fun σ H Q ⟨B,F,O,ρ,R,z⟩=>⟨B,F,O,ρ,R,h.mono (fun d z v H1 s1 r1=>by
    split at z
    · obtain ⟨na,y,ly,q⟩:=z
      obtain ⟨a,C,dx,vs,rfl,h1,cl,h2,_,h5⟩:=V9.mp r1
      obtain ⟨v,lv,rv⟩:=zip_get h5 ly
      exact ⟨a,C,dx,_,v,rfl,Bv _ _ h2,cl,na C h1,lv,q v H1 s1 rv⟩
    · exact z.elim) z⟩
structure IsC (K:PySem.W.Frag) (c:Str):Prop where
  ha:∀ C,PySem.W.nsIn K mainGlobals c=some (some (.ref C))→PySem.W.findIn K (.ref C) "__class__"=some (some (.builtin "object.__class__"))
  hn:PySem.W.specialIn K (.builtin "object.__class__") "__get__"=some (some (.builtin "getset_descriptor.__get__"))
  ht:PySem.W.takesIn K (.builtin "object.__class__")=some true
  hm:∀ C,PySem.W.nsIn K mainGlobals c=some (some (.ref C))→PySem.W.mroIn K C (.type "object")=some true
noncomputable def AjB (K:PySem.W.Frag):DL:=fun ds Q=>match ds with
  | [.obj c _ _,.fn A]=>∃ v,IsC K c∧Ah0 K c A v∧Q (.bl v)
  | _=>False
noncomputable def Wk (K:PySem.W.Frag) (c m:Str) (g:Addr):Prop:=∀ C,PySem.W.nsIn K mainGlobals c=some (some (.ref C))→Meth K C m g
noncomputable def Aad (K:PySem.W.Frag) (m:Str) (g:Addr) (sp:Sp) (ta:TE) (t:TA):TE:=fun σ H Q=>ta σ H fun x H1=>∃ a C dx fs,x=.ref a∧H1 a=some (.ins C dx fs)∧Cls K C∧Meth K C m g∧fs.lookup m=none∧t σ H1 fun vs H2=>sp (x :: vs) H2 Q E0
theorem Yd {pl:Sem Bool} {k:Nat} {m:Str} {g:Addr} {fd:FuncData} {ps:List Str} {sp:Sp} {ta:TE} (he:PE X o ta) (F:Hl X.prog X.w X.K X.mg X.base CX0 k g fd ps sp) (hr:Es k X.A) (hb:Binds X.K fd ps [])
    (ht:eval (.Call (.Attribute o m apos) [] [] pos) X.env=(do
      let ov ←eval o X.env
      standAt apos.atName
      let (f,first) ←holding [ov] (getMethod ov m pl)
      callWith pos f first (backTo pos (starEach [] X.env)) (backToKw pos (keywordEach [] X.env))):=by rfl) :
    PE X (.Call (.Attribute o m apos) [] [] pos) (Aad X.K m g sp ta Aiv):=by
  intro pins s σ H Q I h
  refine PySem.W.methodCall_KW (pl:=pl) (thn (he pins s σ H _ I h) fun u s1 ⟨x,H1,I1,rx,a,C,dx,fs,ex,ea,c,hm,l,q⟩=>?_) ht
  subst ex
  obtain rfl:u=Value.ref a:=rx
  refine VF I1 ea c hm l ?_
  exact PySem.W.callWith_K0 (first:=[.ref a]) I1.kIn hm.kp (VL (us:=[.ref a]) (vs:=[.ref a]) F hr hb .nil WY I1 (.cons rfl .nil) q)
noncomputable def Pa (K:PySem.W.Frag) (m:Str) (g:Addr) (sp:DSp) (te:DTE) (tl:DTA):DTE:=fun ρ Q=>te ρ fun d=>match d with
  | .obj c ns ds=>Wk K c m g∧m∉ns∧tl ρ fun es=>sp (.obj c ns ds :: es) Q
  | _=>False
theorem U3 {f:Str}:∀ {ns:List Str} {vs:List V},f∉ns→(ns.zip vs).lookup f=none
  | [],_,_=>by simp
  | _ :: _,[],_=>by simp
  | n :: ns,v :: vs,h=>by
    have hb:(f == n)=false:=beq_eq_false_iff_ne.mpr fun e=>h (by rw [e];exact List.mem_cons_self)
    rw [List.zip_cons_cons]
    simp only [List.lookup,hb]
    exact U3 fun z=>h (List.mem_cons_of_mem _ z)
theorem Y9 {m:Str} {g:Addr} {sp:DSp} (M:Hv sp) (h:DE X o te) (ha:DA X es tl) (σ:St) (H:Hp) (Q:VK) (z:lE X.K (Pa X.K m g sp te tl) σ H Q):Aad X.K m g (lSp X.K sp) (lE X.K te) (lA X.K tl) σ H Q:=by
  obtain ⟨B,F,O,ρ,R,z⟩:=z
  refine ⟨B,F,O,ρ,R,h.mono (fun d z v H1 s1 r1=>?_) z⟩
  split at z
  · obtain ⟨mo,nm,z⟩:=z
    obtain ⟨a,C,dx,vs,e0,h1,cl,h2,_,h5⟩:=V9.mp r1
    subst e0
    refine ⟨a,C,dx,_,rfl,Bv _ _ h2,cl,mo C h1,U3 nm,B,F,O,ρ,R.same s1,ha.mono (fun es z ws H2 s2 r2=>?_) z⟩
    exact ⟨F ++ O,_,((R.same s1).same s2).th,RpL.cons (r1.mono s2.mask) r2,M _ _ _ (fun d q w H3 s3 r3=>q w H3 ((s1.trans s2).trans s3) r3) z⟩
  · exact z.elim
theorem Yk {m:Str} {g:Addr} {sp:DSp} (M:Hv sp) (h:DE X o te) (ha:DA X es tl) {ρ:Ce} {Q Q':Dt→Prop} (hq:∀ d,Q d→Q' d) (z:Pa X.K m g sp te tl ρ Q):Pa X.K m g sp te tl ρ Q':=h.mono (fun d z=>by
  split at z
  · exact ⟨z.1,z.2.1,ha.mono (fun es z=>M _ _ _ hq z) z.2.2⟩
  · exact z.elim) z
theorem YX {pl:Sem Bool} {k:Nat} {m:Str} {g:Addr} {fd:FuncData} {ps:List Str} {sp:DSp} (M:Hv sp) (F:Hl X.prog X.w X.K X.mg X.base CX0 k g fd ps (lSp X.K sp)) (hb:Binds X.K fd ps []) (hr:Es k X.A) (h:DE X o te)
    (ht:eval (.Call (.Attribute o m apos) [] [] pos) X.env=(do
      let ov ←eval o X.env
      standAt apos.atName
      let (f,first) ←holding [ov] (getMethod ov m pl)
      callWith pos f first (backTo pos (starEach [] X.env)) (backToKw pos (keywordEach [] X.env))):=by rfl):DE X (.Call (.Attribute o m apos) [] [] pos) (Pa X.K m g sp te Aa8) where
  mono:=Yk (X:=X) M h Ae
  pe:=(Yd h.pe F hr hb ht).imp fun σ H Q z=>by
    have:=Y9 M h Ae σ H Q z
    obtain ⟨B,F,O,ρ,R,z⟩:=this
    refine ⟨B,F,O,ρ,R,h.mono (fun d z v H1 s1 r1=>?_) z⟩
    obtain ⟨a,C,dx,fs,e1,e2,e3,e4,e5,z⟩:=z v H1 s1 r1
    obtain ⟨B',F',O',ρ',R',z⟩:=z
    exact ⟨a,C,dx,fs,e1,e2,e3,e4,e5,z [] H1 (Same.refl H1) RpL.nil⟩
noncomputable abbrev DIn:=List Dt→(List Dt→Prop)→Prop
noncomputable def ZC (K:PySem.W.Frag) (ns:List Str) (sp:DIn):Sp:=fun vs H Q _=>∃ x C dx ys F ds,vs=.ref x :: ys∧H x=some (.ins C dx [])∧Cls K C∧(∀ f∈ns,HD K C f)∧x∈F∧(∀ a∈F,H a≠none)∧RpL K (mask F H) ds ys ∧
  sp ds fun fds=>∀ ws H',Same (mask [x] H) H'→H' x=some (.ins C dx (ns.zip ws))→ns.length=fds.length→RpL K (mask F H') fds ws→Q .non H'
noncomputable def Rx (sp:DIn):Prop:=∀ ds Q Q',(∀ d,Q d→Q' d)→sp ds Q→sp ds Q'
structure MkC (K:PySem.W.Frag) (mg:Str→Option Value) (c:Str) (ns:List Str) (C f:Addr):Prop where
  mm:Mk K C f
  at_:PySem.W.nsIn K mainGlobals c=some (some (.ref C))
  gl:mg c=some (.ref C)
  cl:Cls K C
  no:∀ f∈ns,HD K C f
noncomputable def Aar (c:Str) (ns:List Str) (sp:DIn) (tl:DTA):DTE:=fun ρ Q=>tl ρ fun ds=>sp ds fun fds=>Q (.obj c ns fds)
theorem Acu {k:Nat} {c:Str} {ns ps:List Str} {C f:Addr} {fd:FuncData} {sp:DIn} {p:Pos} (m:Rx sp) (M:MkC X.K X.mg c ns C f) (G:Hl X.prog X.w X.K X.mg X.base CX0 k f fd ps (ZC X.K ns sp)) (hb:Binds X.K fd ps []) (hr:Es (k+1) X.A) (hg:Gl X c) (ha:DA X (e :: es) tl)
    (hdb:(c == ("__debug__":Str))=false:=by decide) (he:starEach (e :: es) X.env=(false,eval e X.env) :: starEach es X.env:=by rfl) (hpl:(backTo pos (starEach es X.env)).any (·.1)=false:=by rfl):DE X (.Call (.Name c p) (e :: es) [] pos) (Aar c ns sp tl) where
  mono:=fun hq z=>ha.mono (fun ds z=>m _ _ _ (fun fds q=>hq _ q) z) z
  pe:=(AbL M.mm G hr hg M.gl hb .nil WY ha.pa hdb he hpl).imp fun σ H Q ⟨B,F,O,ρ,R,z⟩=>⟨B,F,O,ρ,R,ha.mono (fun ds z vs H1 s1 r1 x dx nx ndx ne=>by
    have R1:=R.same s1
    have ox:x∉F ++ O:=fun w=>R1.th x w nx
    have s2:Same H1 (upd (upd H1 dx (.own x)) x (.ins C dx [])):=fun b o q=>by rw [Bg (BK q nx),Bg (BK q ndx)];exact q
    refine ⟨x,C,dx,vs,x :: (F ++ O),ds,by rw [List.append_nil],BP,M.cl,M.no,List.mem_cons_self,fun b hb'=>?_,?_,m _ _ _ (fun fds q ws H' s' h1 h2 h3=>⟨rfl,?_⟩) z⟩
    · rcases List.mem_cons.mp hb' with e | w
      · rw [e,BP];simp
      · intro q
        cases e:H1 b with
        | none=>exact R1.th b w e
        | some u=>rw [s2 _ _ e] at q;cases q
    · refine r1.mono fun b o q=>?_
      obtain ⟨n1,q⟩:=Cu q
      rw [Bf fun w=>(List.mem_cons.mp w).elim (fun e=>by rw [e,nx] at q;cases q) n1]
      exact s2 _ _ q
    · have s3:Same H1 H':=fun b o q=>s' b o (by rw [Bf fun w=>by rw [List.mem_singleton.mp w,nx] at q;cases q];exact s2 _ _ q)
      refine q (.ref x) H' (s1.trans s3) (V9.mpr ⟨x,C,dx,ws,rfl,M.at_,M.cl,by rw [Bf ox];exact h1,h2,h3.mono (G7 fun b hb'=>List.mem_cons_of_mem _ hb')⟩)) z⟩
end
end L2
namespace L2
open PySem PySem.Spec PyProof.Rows PySem.SeqAt
section
variable {K:PySem.W.Frag} {B:Hp} {F O:List Addr} {H:Hp} {σ:St} {ρ:Ce} {x:Addr}
theorem Rep.updF (r:Rep K B F O H σ ρ) (hx:x∈F) (hB:B x=none) (o:HO):Rep K B F O (upd H x o) σ ρ:=by
  have em:mask (F ++ O) (upd H x o)=mask (F ++ O) H:=Kv (List.mem_append_left _ hx)
  refine ⟨r.len,fun b u e=>?_,r.fr,fun b hb e=>?_,fun j d q=>?_,fun j ks q=>?_,r.inj⟩
  · rw [Bg fun z=>by rw [z,hB] at e;cases e];exact r.base b u e
  · by_cases z:b=x
    · rw [z,BP] at e;cases e
    · rw [Bg z] at e;exact r.th b hb e
  · rw [em];exact r.is j d q
  · obtain ⟨b,zs,e1,e2,e3,e4,e5⟩:=r.own j ks q
    exact ⟨b,zs,e1,e2,e3,by rw [Bg fun z=>e3 (by rw [z];exact hx)];exact e4,by rw [em];exact e5⟩
noncomputable def Ii (N:List Str) (ds:List Dt):Ce:=none :: (ds.map (fun d=>some (.is d)) ++ List.replicate (N.length - (ds.length+1)) none)
theorem Kq {N:List Str} {ds:List Dt} {ys:List V} (hx:x∈F) (hF:∀ a∈F,H a≠none) (r:RpL K (mask F H) ds ys):Rep K (mask [x] H) F [] H (start N (.ref x :: ys)) (Ii N ds):=by
  have hl:=r.len
  have get:∀ (i:Nat) (e:En),(Ii N ds)[i]? = some (some e)→∃ j d,i=j+1∧ds[j]? = some d∧e=.is d:=fun i e q=>by
    cases i with
    | zero=>cases q
    | succ j =>
      have q:(ds.map (fun d=>some (En.is d)) ++ List.replicate (N.length - (ds.length+1)) none)[j]? = some (some e):=q
      by_cases hi:j < ds.length
      · rw [List.getElem?_append_left (by simpa using hi),List.getElem?_map] at q
        cases w:ds[j]? with
        | none=>rw [w] at q;cases q
        | some d=>rw [w] at q;cases q;exact ⟨j,d,rfl,w,rfl⟩
      · rw [List.getElem?_append_right (by simpa using hi),List.getElem?_replicate] at q
        split at q <;> cases q
  refine ⟨?_,Bv,fun a h=>(nomatch h),fun a h=>hF a (by simpa using h),fun i d e=>?_,fun i es e=>?_,fun i j es es' a h1=>?_⟩
  · unfold start Ii;simp [hl]
  · obtain ⟨j,d',rfl,e1,e2⟩:=get i _ e
    cases e2
    obtain ⟨v,w1,w2⟩:=r.get e1
    have hj:j < ys.length:=by rw [hl];exact (List.getElem?_eq_some_iff.mp e1).1
    refine ⟨v,?_,by rw [List.append_nil];exact w2⟩
    unfold start
    rw [List.getElem?_append_left (by simp;omega),List.getElem?_map,List.getElem?_cons_succ,w1];rfl
  · obtain ⟨_,_,_,_,z⟩:=get i _ e;cases z
  · obtain ⟨_,_,_,_,z⟩:=get i _ h1;cases z
end
section
variable {X:Cx} {e e1 e2 e3:Expr} {es:List Expr} {te1 te2 te3:DTE} {tl:DTA} {pos apos:Pos}
noncomputable def Ag6 (K:PySem.W.Frag) (f1 f2 f3:Str) (te1 te2 te3:DTE):TS:=fun D σ H=>∃ B F ρ x C dx,∃ S:List Dt→Prop,Rep K B F [] H σ ρ∧x∈F∧B x=none∧σ[0]? = some (some (.ref x))∧H x=some (.ins C dx [])∧Cls K C∧(∀ f∈[f1,f2,f3],HD K C f) ∧
  (te1 ρ fun d1=>te2 ρ fun d2=>te3 ρ fun d3=>S [d1,d2,d3])∧∀ fds,S fds→∀ ws H',Same B H'→H' x=some (.ins C dx ([f1,f2,f3].zip ws))→[f1,f2,f3].length=fds.length→RpL K (mask F H') fds ws→D.nx σ H'
theorem Aae {f1 f2 f3:Str} {y:Str} {q1 q2 q3 p1 p2 p3 s1 s2 s3:Pos} (h1:DE X e1 te1) (h2:DE X e2 te2) (h3:DE X e3 te3) (n12:f1≠f2) (n13:f1≠f3) (n23:f2≠f3) (hN:X.N[0]? = some y:=by rfl) (hv:Vis X.env.scope y:=by first | exact Or.inl rfl | exact Or.inr (Or.inl rfl) | exact Or.inr (Or.inr rfl))
    (hd:(y == ("__debug__":Str))=false:=by decide) (hcd:(y == ("__classdict__":Str))=false:=by decide)
    (w1:swapsWith e1 (some (.Attribute (.Name y q1) f1 p1)) s1.line X.env=pure false:=by rfl) (w2:swapsWith e2 (some (.Attribute (.Name y q2) f2 p2)) s2.line X.env=pure false:=by rfl) (w3:swapsWith e3 (some (.Attribute (.Name y q3) f3 p3)) s3.line X.env=pure false:=by rfl) :
    PSs X [.Assign [.Attribute (.Name y q1) f1 p1] e1 s1,.Assign [.Attribute (.Name y q2) f2 p2] e2 s2,.Assign [.Attribute (.Name y q3) f3 p3] e3 s3] (Ag6 X.K f1 f2 f3 te1 te2 te3) :=
  (Ov (VJ (LC hN hv hd hcd) h1.pe w1) (Ov (VJ (LC hN hv hd hcd) h2.pe w2) (R6 (VJ (LC hN hv hd hcd) h3.pe w3)))).imp fun D σ H ⟨B,F,ρ,x,C,dx,S,R,xF,Bx,σ0,Hx,cl,no,z,fin⟩=>by
    have em:∀ (H:Hp) (o:HO),mask (F ++ []) (upd H x o)=mask (F ++ []) H:=fun H o=>Kv (List.mem_append_left _ xF)
    refine ⟨B,F,[],ρ,R,h1.mono (fun d1 z y1 H1 t1 r1=>?_) z⟩
    refine ⟨.ref x,σ0,x,C,dx,[],rfl,t1 _ _ Hx,cl,no f1 (by simp),by decide,?_⟩
    have R1:=(R.same t1).updF xF Bx (.ins C dx (G6 f1 y1 []))
    refine ⟨B,F,[],ρ,R1,h2.mono (fun d2 z y2 H2 t2 r2=>?_) z⟩
    refine ⟨.ref x,σ0,x,C,dx,[(f1,y1)],rfl,t2 _ _ BP,cl,no f2 (by simp),by show 1 < 1000;decide,?_⟩
    have R2:=(R1.same t2).updF xF Bx (.ins C dx (G6 f2 y2 [(f1,y1)]))
    refine ⟨B,F,[],ρ,R2,h3.mono (fun d3 z y3 H3 t3 r3=>?_) z⟩
    have ep2:G6 f2 y2 [(f1,y1)]=[(f1,y1),(f2,y2)]:=by simp [G6,n12]
    have ep3:G6 f3 y3 [(f1,y1),(f2,y2)]=[(f1,y1),(f2,y2),(f3,y3)]:=by simp [G6,n13,n23]
    rw [ep2] at t3 R2
    refine ⟨.ref x,σ0,x,C,dx,[(f1,y1),(f2,y2)],rfl,t3 _ _ BP,cl,no f3 (by simp),by show 2 < 1000;decide,?_⟩
    have R3:=(R2.same t3).updF xF Bx (.ins C dx (G6 f3 y3 [(f1,y1),(f2,y2)]))
    rw [ep3] at R3 ⊢
    rw [List.append_nil] at r1 r2 r3 em
    refine fin _ z [y1,y2,y3] _ R3.base BP rfl ?_
    rw [em]
    have m12:Same (mask F H1) (mask F H2):=fun b o q=>t2.mask b o (by rw [em];exact q)
    have m23:Same (mask F H2) (mask F H3):=fun b o q=>t3.mask b o (by rw [em];exact q)
    exact RpL.cons ((r1.mono m12).mono m23) (RpL.cons (r2.mono m23) (RpL.cons r3 RpL.nil))
structure Wv (K:PySem.W.Frag) (mg:Str→Option Value) (c m:Str) (g:Addr):Prop where
  ex:∃ CS,mg c=some (.ref CS)∧PySem.W.specialIn K (.ref CS) "__getattribute__"=some (some (.builtin "type.__getattribute__"))∧PySem.W.readsIn K CS (.type "type")=true∧PySem.W.findCls K (.ref CS) (.type "type") m=some (.val (.ref g))
  kp:PySem.W.keepIn K (.ref g)=true
theorem Zq {pl:Sem Bool} {k:Nat} {c m:Str} {g:Addr} {fd:FuncData} {ps:List Str} {sp:Sp} {t:TA} {p:Pos} (M:Wv X.K X.mg c m g) (hg:Gl X c) (F:Hl X.prog X.w X.K X.mg X.base CX0 k g fd ps sp) (hr:Es k X.A) (hb:Binds X.K fd ps []) (ha:PA X (e :: es) t)
    (hdb:(c == ("__debug__":Str))=false:=by decide) (hst:starEach (e :: es) X.env=(false,eval e X.env) :: starEach es X.env:=by rfl) (hpl:(backTo pos (starEach es X.env)).any (·.1)=false:=by rfl)
    (ht:eval (.Call (.Attribute (.Name c p) m apos) (e :: es) [] pos) X.env=(do
      let ov ←eval (.Name c p) X.env
      standAt apos.atName
      let (f,first) ←holding [ov] (getMethod ov m pl)
      callWith pos f first (backTo pos (starEach (e :: es) X.env)) (backToKw pos (keywordEach [] X.env))):=by rfl) :
    PE X (.Call (.Attribute (.Name c p) m apos) (e :: es) [] pos) (Ac8 sp [] E0 t):=by
  intro pins s σ H Q I h
  obtain ⟨CS,hm,hs,hr',hf⟩:=M.ex
  have q0:=(Wo (v:=.ref CS) (pos:=p) hg hm rfl hdb:PE X (.Name c p) (tC (.ref CS))) pins s σ H (fun v H1=>v=.ref CS∧H1=H) I ⟨rfl,rfl⟩
  refine PySem.W.methodCall_KW (pl:=pl) (thn q0 fun u s1 ⟨x,H1,I1,rx,ex,eH⟩=>?_) ht
  subst ex
  subst eH
  obtain rfl:u=Value.ref CS:=rx
  refine PySem.W.method_cls I1.kIn hs (PySem.W.cls_value I1.kIn hr' hf rfl ?_)
  refine PySem.W.callWith_K (first:=[]) (h₀:=X.base) I.ok.mod.kin M.kp (thn (ha pos pins _ σ H1 _ (I1.tok _) h) fun us s2 ⟨vs,H2,I2,r,q2⟩=>⟨I2.kIn,?_⟩) hst hpl
  exact VL F hr hb .nil WY I2 r q2
noncomputable def Aij (K:PySem.W.Frag) (ns:List Str) (sp:DIn) (tl:DTA):TS:=fun D σ H=>∃ B F ρ x C dx,∃ S:List Dt→Prop,Rep K B F [] H σ ρ∧x∈F∧B x=none∧σ[0]? = some (some (.ref x))∧H x=some (.ins C dx [])∧Cls K C∧(∀ f∈ns,HD K C f) ∧
  (tl ρ fun ds=>sp ds S)∧∀ fds,S fds→∀ ws H',Same B H'→H' x=some (.ins C dx (ns.zip ws))→ns.length=fds.length→RpL K (mask F H') fds ws→D.nx σ H'
theorem T9 {pl:Sem Bool} {k:Nat} {c y:Str} {g:Addr} {fd:FuncData} {ps ns:List Str} {sp:DIn} {p q ap cp:Pos} (m:Rx sp) (M:Wv X.K X.mg c "__init__" g) (hg:Gl X c) (G:Hl X.prog X.w X.K X.mg X.base CX0 k g fd ps (ZC X.K ns sp)) (hb:Binds X.K fd ps []) (hr:Es k X.A) (ha:DA X es tl) (hN:X.N[0]? = some y:=by rfl)
    (hv:Vis X.env.scope y:=by first | exact Or.inl rfl | exact Or.inr (Or.inl rfl) | exact Or.inr (Or.inr rfl)) (hd:(y == ("__debug__":Str))=false:=by decide) (hcd:(y == ("__classdict__":Str))=false:=by decide) (hdb:(c == ("__debug__":Str))=false:=by decide)
    (hst:starEach (.Name y q :: es) X.env=(false,eval (.Name y q) X.env) :: starEach es X.env:=by rfl) (hpl:(backTo cp (starEach es X.env)).any (·.1)=false:=by rfl)
    (ht:eval (.Call (.Attribute (.Name c p) "__init__" ap) (.Name y q :: es) [] cp) X.env=(do
      let ov ←eval (.Name c p) X.env
      standAt ap.atName
      let (f,first) ←holding [ov] (getMethod ov "__init__" pl)
      callWith cp f first (backTo cp (starEach (.Name y q :: es) X.env)) (backToKw cp (keywordEach [] X.env))):=by rfl)
    (hs:swapsWith (.Call (.Attribute (.Name c p) "__init__" ap) (.Name y q :: es) [] cp) none pos.line X.env=pure false:=by rfl) :
    PSs X [.Expr (.Call (.Attribute (.Name c p) "__init__" ap) (.Name y q :: es) [] cp) pos] (Aij X.K ns sp tl) :=
  (R6 (Sy (Zq M hg G hr hb (Ld (LC hN hv hd hcd) ha.pa hst) hdb hst hpl ht) hs)).imp fun D σ H ⟨B,F,ρ,x,C,dx,S,R,xF,Bx,σ0,Hx,cl,no,z,fin⟩=>by
    refine ⟨.ref x,σ0,B,F,[],ρ,R,ha.mono (fun ds z vs H1 s1 r1=>?_) z⟩
    show ZC X.K ns sp ((.ref x :: vs) ++ []) H1 _ E0
    rw [List.append_nil]
    have R1:=R.same s1
    rw [List.append_nil] at r1
    refine ⟨x,C,dx,vs,F,ds,rfl,s1 _ _ Hx,cl,no,xF,fun a h=>R1.th a (List.mem_append_left _ h),r1,m _ _ _ (fun fds w ws H' s' h1 h2 h3=>fin fds w ws H' (fun b o e=>s' b o ?_) h1 h2 h3) z⟩
    rw [Bf fun w=>by rw [List.mem_singleton.mp w,Bx] at e;cases e]
    exact R1.base b o e
end
noncomputable def Qz {τ:Type} (args:τ→List Dt) (pre:τ→Prop) (post:τ→List Dt→Prop):DIn:=fun ds R=>∃ p,ds=args p∧pre p∧∀ fds,post p fds→R fds
theorem Iv {τ:Type} {args:τ→List Dt} {pre:τ→Prop} {post:τ→List Dt→Prop}:Rx (Qz args pre post):=fun _ _ _ hq ⟨p,e,h,q⟩=>⟨p,e,h,fun d z=>hq _ (q d z)⟩
theorem KJ {τ:Type} {args:τ→List Dt} {pre:τ→Prop} {post:τ→List Dt→Prop} {R:List Dt→Prop} (p:τ) (h:pre p) (q:∀ fds,post p fds→R fds):Qz args pre post (args p) R:=⟨p,rfl,h,q⟩
noncomputable def PmC (P:Program) (w:World) (K:PySem.W.Frag) (mg:Str→Option Value) (base:Heap) (k:Nat) (c:Str) (ns:List Str) (sp:DIn):Prop:=∃ g fd ps,Wv K mg c "__init__" g∧Binds K fd ps []∧Hl P w K mg base CX0 k g fd ps (ZC K ns sp)
noncomputable def PmI (P:Program) (w:World) (K:PySem.W.Frag) (mg:Str→Option Value) (base:Heap) (k:Nat) (c:Str) (ns:List Str) (sp:DIn):Prop:=∃ C f fd ps,MkC K mg c ns C f∧Binds K fd ps []∧Hl P w K mg base CX0 k f fd ps (ZC K ns sp)
noncomputable def PmM (P:Program) (w:World) (K:PySem.W.Frag) (mg:Str→Option Value) (base:Heap) (k:Nat) (cs:List Str) (m:Str) (sp:DSp):Prop:=∃ g fd ps,(∀ c∈cs,Wk K c m g)∧PySem.W.keepIn K (.ref g)=true∧Binds K fd ps []∧Hl P w K mg base CX0 k g fd ps (lSp K sp)
section
variable {X:Cx} {e o:Expr} {es:List Expr} {te:DTE} {tl:DTA} {pos apos:Pos}
theorem Tr {k:Nat} {c:Str} {ns:List Str} {sp:DIn} {p:Pos} (m:Rx sp) (G:PmI X.prog X.w X.K X.mg X.base k c ns sp) (hr:Es (k+1) X.A) (hg:Gl X c) (ha:DA X (e :: es) tl)
    (hdb:(c == ("__debug__":Str))=false:=by decide) (he:starEach (e :: es) X.env=(false,eval e X.env) :: starEach es X.env:=by rfl) (hpl:(backTo pos (starEach es X.env)).any (·.1)=false:=by rfl):DE X (.Call (.Name c p) (e :: es) [] pos) (Aar c ns sp tl):=by
  obtain ⟨C,f,fd,ps,M,B,G⟩:=G
  exact Acu m M G B hr hg ha hdb he hpl
noncomputable def Px (cs:List Str) (m:Str) (sp:DSp) (te:DTE) (tl:DTA):DTE:=fun ρ Q=>te ρ fun d=>match d with
  | .obj c ns ds=>(c∈cs∧m∉ns)∧tl ρ fun es=>sp (.obj c ns ds :: es) Q
  | _=>False
theorem Vm {cs:List Str} {m:Str} {sp:DSp} (M:Hv sp) (h:DE X o te) (ha:DA X es tl) {ρ:Ce} {Q Q':Dt→Prop} (hq:∀ d,Q d→Q' d) (z:Px cs m sp te tl ρ Q):Px cs m sp te tl ρ Q':=h.mono (fun d z=>by
  split at z
  · exact ⟨z.1,ha.mono (fun es z=>M _ _ _ hq z) z.2⟩
  · exact z.elim) z
theorem Yw {cs:List Str} {m:Str} {g:Addr} {sp:DSp} (M:Hv sp) (hm:∀ c∈cs,Wk X.K c m g) (h:DE X o te) (σ:St) (H:Hp) (Q:VK) (z:lE X.K (Px cs m sp te tl) σ H Q):lE X.K (Pa X.K m g sp te tl) σ H Q:=by
  obtain ⟨B,F,O,ρ,R,z⟩:=z
  refine ⟨B,F,O,ρ,R,h.mono (fun d z=>?_) z⟩
  split at z
  · exact ⟨hm _ z.1.1,z.1.2,z.2⟩
  · exact z.elim
theorem Xu {pl:Sem Bool} {k:Nat} {cs:List Str} {m:Str} {sp:DSp} (M:Hv sp) (G:PmM X.prog X.w X.K X.mg X.base k cs m sp) (hr:Es k X.A) (h:DE X o te)
    (ht:eval (.Call (.Attribute o m apos) [] [] pos) X.env=(do
      let ov ←eval o X.env
      standAt apos.atName
      let (f,first) ←holding [ov] (getMethod ov m pl)
      callWith pos f first (backTo pos (starEach [] X.env)) (backToKw pos (keywordEach [] X.env))):=by rfl):DE X (.Call (.Attribute o m apos) [] [] pos) (Px cs m sp te Aa8):=by
  obtain ⟨g,fd,ps,hm,kp,B,G⟩:=G
  exact ⟨Vm M h Ae,(YX M G B hr h ht).pe.imp fun σ H Q z=>Yw M hm h σ H Q z⟩
end
end L2
namespace L2
open PySem PySem.Spec PyProof.Rows
inductive Lex (A:Around) (s:Shared):List Value→List Value→Bool→Prop
  | nn:Lex A s [] [] false
  | nc {y:Value} {ys:List Value}:Lex A s [] (y :: ys) true
  | cn {x:Value} {xs:List Value}:Lex A s (x :: xs) [] false
  | eq {x y:Value} {xs ys:List Value} {r:Bool} (h:SeqAt.EqAt A s x y true) (t:Lex A s xs ys r):Lex A s (x :: xs) (y :: ys) r
  | lt {x y:Value} {xs ys:List Value} {r:Bool} (h:SeqAt.EqAt A s x y false) (t:∀ (prog:Program) (w:World) (E:Value→Shared→Prop) (Q:Value→Shared→Prop),Q (.bool r) s→wpAny (model prog w) A (richCompare .Lt x y) Q E s):Lex A s (x :: xs) (y :: ys) r
section
open PySem.SeqAt PySem.AutoSeq1 PySem.MeetsSeq PySem.MeetsSeq2 PySem.MeetsSeq3
theorem Wb (p q:Addr) (us vs:Array Value) (m n:Nat) (e e2:Option Addr) (c c2:Array (Option Value)) (res:Bool) :
    Meets (Builtin.«tuple.__lt__» ⟨[.ref p,.ref q],[]⟩) (fun A R st=>st.heap.get? p=some ⟨.type "tuple",e,.seq us m,c⟩∧st.heap.get? q=some ⟨.type "tuple",e2,.seq vs n,c2⟩∧Lex A.in1 st us.toList vs.toList res∧R (.ok (.ret (.bool res))) st) :=
  .of_wp fun prog w A R st h=>by
    obtain ⟨hh,gg,dr,tt,os⟩:=st
    obtain ⟨h1,h2,L,fin⟩:=h
    have sub2:=AutoSeq1.sub_tuple_tuple
    wp_walk using wpAny_loadPart' h1,wpAny_loadPart' h2,wpAny_forIn_list _ (fun rest z st'=>z.1=none∧st'=⟨hh,gg,dr,tt,os⟩∧∃ xs ys:List Value,rest=xs.zip ys∧Lex A.in1 ⟨hh,gg,dr,tt,os⟩ xs ys res∧xs.length+vs.size=ys.length+us.size) _
    case turn =>
      rintro ⟨x0,y0⟩ rest z st' ⟨z0,rfl,xs,ys,hz,L',hlen⟩
      cases L' with
      | nn=>simp at hz
      | nc=>simp at hz
      | cn=>simp at hz
      | @eq x y xs ys r he t =>
        rw [List.zip_cons_cons] at hz
        obtain ⟨hp,hr⟩:=List.cons.inj hz
        obtain ⟨rfl,rfl⟩:=Prod.mk.inj hp
        refine wpAny_bind (he prog w _ _ ?_)
        wp_walk
        refine ⟨rfl,rfl,xs,ys,hr,t,?_⟩
        simp only [List.length_cons] at hlen
        omega
      | @lt x y xs ys r he t =>
        rw [List.zip_cons_cons] at hz
        obtain ⟨hp,hr⟩:=List.cons.inj hz
        obtain ⟨rfl,rfl⟩:=Prod.mk.inj hp
        refine wpAny_bind (he prog w _ _ ?_)
        have less:=t prog w
        wp_walk using less
        exact ⟨_,rfl,by simpa using fin⟩
    case fin =>
      rintro ⟨z1,z2⟩ st' ⟨hz1,rfl,xs,ys,hz,L',hlen⟩
      simp only at hz1
      subst hz1
      have hv:res=decide (us.size < vs.size):=by
        cases L' with
        | nn=>simp at hlen;exact (decide_eq_false (by omega)).symm
        | nc=>simp at hlen;exact (decide_eq_true (by omega)).symm
        | cn=>simp at hlen;exact (decide_eq_false (by omega)).symm
        | eq _ _=>simp at hz
        | lt _ _=>simp at hz
      rw [hv] at fin
      wp_walk
      exact ⟨_,rfl,by simpa [Builtin.Tuple.tupleCompareSizes] using fin⟩
    case h=>exact ⟨rfl,rfl,us.toList,vs.toList,rfl,L,by simp;omega⟩
end
section
variable {prog:Program} {w:World} {A:Around} {E:Value→Shared→Prop} {s:Shared}
theorem AaC {p q:Addr} {us vs:Array Value} {res:Bool} {Q:Value→Shared→Prop} (hp:IsTup s.heap p us) (hq:IsTup s.heap q vs) (L:Lex A.in1 s us.toList vs.toList res) (hu:A.units < cLine) (h:Q (.bool res) s):wpAny (model prog w) A (richCompare .Lt (.ref p) (.ref q)) Q E s:=by
  obtain ⟨⟨c1,e1,a1,b1⟩,g1,k1,m1,t1⟩:=id hp
  obtain ⟨⟨c2,e2,a2,b2⟩,g2,k2,m2,t2⟩:=id hq
  dsimp only at k1 t1 k2 t2
  subst k1 t1 k2 t2
  refine richCompare_meets_room (op:=.Lt) ⟨_,g1,rfl⟩ ⟨_,g2,rfl⟩ PySem.F.slot_tuple_lt PySem.F.entry_tuple_lt (PySem.F.args_tuple_lt_2 _ _) (Wb p q us vs m1 m2 e1 e2 b1 b2 res) ⟨g1,g2,L,?_⟩ hu
  exact show Value.bool res≠Value.notImplemented∧Q (.bool res) s from ⟨(fun z=>nomatch z),h⟩
end
end L2
namespace L2
open PySem PySem.Spec PyProof.Rows PySem.SeqAt
theorem KY:∀ ns:List Int,HT.lexLt ns ns=false
  | []=>HT.Gk
  | n :: ns=>by rw [HT.Fd,if_pos rfl,KY ns]
noncomputable def FJ (a b:List Int × List Int):Bool:=if a.1=b.1 then HT.lexLt a.2 b.2 else HT.lexLt a.1 b.1
noncomputable abbrev Mf (a:List Int × List Int):Dt:=.tup [Lr a.1,Lr a.2]
section
variable {X:Cx}
noncomputable def Om (K:PySem.W.Frag) (H:Hp) (v:V) (a:List Int × List Int):Prop:=∃ p p1 p2,v=.ref p∧SqT K H p [.ref p1,.ref p2]∧SqT K H p1 (a.1.map V.int)∧SqT K H p2 (a.2.map V.int)
noncomputable def Ac9 (K:PySem.W.Frag):List V→Hp→VK→Prop:=fun xs H Q=>∃ l vs,∃ ps:Nat→List Int × List Int,xs=[.ref l]∧SqL K H l vs∧0 < vs.length∧(∀ (i:Nat) (v:V),vs[i]? = some v→Om K H v (ps i)) ∧
  ∀ v,vs[argBest (fun i j=>FJ (ps i) (ps j)) (vs.length - 1)]? = some v→Q v H
theorem Yt {x y:Addr} {us:List Value} (r:Vals [V.ref x,V.ref y] us):us=[.ref x,.ref y]:=by
  obtain ⟨a,b,rfl,r1,r2⟩:=vals2 r
  cases (show a=.ref x from r1)
  cases (show b=.ref y from r2)
  rfl
theorem NT {h:Heap}:∀ {us:List Value} {ns:List Int},IntsAre us ns→∃ as,ReadsAll h us (Dt.pys (ns.map Dt.int)) as
  | _,_,.nil=>⟨_,by rw [List.map_nil,Dt.pys];exact .nil⟩
  | _,_,.cons n t r=>by
    obtain ⟨as,q⟩:=NT (h:=h) r
    exact ⟨_,by rw [List.map_cons,Dt.pys,Dt.py];exact .cons (.int n t) q⟩
theorem QL {h:Heap} {a:Addr} {its:Array Value} {ns:List Int} (t:IsTup h a its) (i:IntsAre its.toList ns):∃ as,Reads h (.ref a) (Lr ns).py as:=by
  obtain ⟨o,h1,h2,n,h3⟩:=t
  obtain ⟨as,r⟩:=NT (h:=h) i
  exact ⟨_,by rw [Dt.py];exact .tuple h1 h2 h3 r⟩
theorem Uy {A:Around} {s:Shared} {a b:Addr} {i1 i2:Array Value} {ns ms:List Int} (t1:IsTup s.heap a i1) (t2:IsTup s.heap b i2) (n1:IntsAre i1.toList ns) (n2:IntsAre i2.toList ms) (hu:A.units+8 < cLine):EqAt A s (.ref a) (.ref b) (decide (ns=ms)):=by
  have fl:∀ ns:List Int,(Lr ns).flat 8=true:=fun ns=>Uc ns
  obtain ⟨ca,da⟩:=Hf _ 8 (fl ns)
  obtain ⟨cb,db⟩:=Hf _ 8 (fl ms)
  obtain ⟨as,q1⟩:=QL t1 n1
  obtain ⟨bs,q2⟩:=QL t2 n2
  have h:=SeqAt.eqAt_reads _ _ A s _ _ as bs q1 q2 ca cb (by omega)
  rw [SQ _ _ ca cb] at h
  have ee:(Lr ns).eq (Lr ms)=decide (ns=ms):=by
    show Dt.eq (.tup _) (.tup _)=_
    rw [WR,Wu]
  rw [ee] at h
  exact h
theorem Yn (hc:X.calm=true) (hu:X.A.in1.units+16 < cLine):Ju X (.builtin "min") (Ac9 X.K):=by
  intro pins s σ H xs us Q I r h
  obtain ⟨l,vs,ps,rfl,hl,ne,each,q⟩:=h
  obtain ⟨u,rfl,r1⟩:=vals1 r
  cases r1
  obtain ⟨its,rv,pl,_⟩:=I.list hl
  have hlen:its.length=vs.length:=rv.length.symm
  have ll:l < s.heap.objs.size:=by
    obtain ⟨_,e,_⟩:=pl.isList
    exact Heap.lt_size e
  refine TF (wpAny_pyIter_list pl.isList ?_)
  refine ⟨s.heap.objs.size,[s.heap.objs.size,l],[s.heap.objs.size],its.toArray.size,fun i v=>its.toArray[i]? = some v,_,fun i j=>FJ (ps i) (ps j),rfl,Walks.list (A:=X.A.in1) (I.ok.hd hc) _ l (Nat.ne_of_lt ll) its.toArray,⟨⟨_,Heap.get?_push_size _ rfl,rfl,rfl⟩,pl.isList.push _⟩,fun b hb=>?_,?_,?_,?_⟩
  · show b < (s.heap.push _).objs.size
    rw [Heap.size_push]
    have hb:b=s.heap.objs.size∨b=l:=by simpa using hb
    rcases hb with e | e
    · rw [e];exact Nat.lt_succ_self _
    · rw [e];exact Nat.lt_succ_of_lt ll
  · rw [List.size_toArray];omega
  · intro h1 k1 i j x y s' Q' E' kept hx hy q'
    have go:∀ a o,s.heap.get? a=some o→s'.heap.get? a=some o:=fun a o eo=>by
      have la:=Heap.lt_size eo
      refine kept a o (fun z=>?_) (fun z=>?_) (k1 a o (Heap.get?_push_of_some _ eo))
      · have e2:a=s.heap.objs.size:=by simpa using z
        exact Nat.lt_irrefl _ (e2 ▸ la)
      · have e2:a=(s.heap.push _).objs.size:=z
        rw [Heap.size_push] at e2
        exact Nat.lt_irrefl _ (Nat.lt_of_succ_lt (e2 ▸ la))
    have tup:∀ {a:Addr} {xs:List V},SqT X.K H a xs→∃ us:List Value,Vals xs us∧IsTup s'.heap a us.toArray:=fun {a xs} ht=>by
      obtain ⟨us,r3,⟨o,eo,rest⟩,_⟩:=I.tuple ht
      exact ⟨us,r3,o,go a o eo,rest⟩
    have fact:∀ (i:Nat) (x:Value),its.toArray[i]? = some x→∃ p p1 p2 i1 i2,x=.ref p∧IsTup s'.heap p [Value.ref p1,.ref p2].toArray∧IsTup s'.heap p1 i1∧IsTup s'.heap p2 i2∧IntsAre i1.toList (ps i).1∧IntsAre i2.toList (ps i).2:=fun i x hx=>by
      obtain ⟨v,e1,r2⟩:=Vals.at rv i x (by simpa using hx)
      obtain ⟨p,p1,p2,rfl,t0,t1,t2⟩:=each i v e1
      cases r2
      obtain ⟨us,r0,u0⟩:=tup t0
      obtain ⟨u1,r1,w1⟩:=tup t1
      obtain ⟨u2,r2,w2⟩:=tup t2
      rw [Yt r0] at u0
      exact ⟨p,p1,p2,u1.toArray,u2.toArray,rfl,u0,w1,w2,intsAre_of r1,intsAre_of r2⟩
    obtain ⟨p,p1,p2,i1,i2,rfl,a0,a1,a2,n1,n2⟩:=fact i x hx
    obtain ⟨b,b1,b2,j1,j2,rfl,c0,c1,c2,m1,m2⟩:=fact j y hy
    have in2:X.A.in1.in1.units=X.A.in1.units+1:=rfl
    refine AaC a0 c0 ?_ (by omega) q'
    show Lex X.A.in1.in1 s' [.ref p1,.ref p2] [.ref b1,.ref b2] _
    have e1:=Uy (A:=X.A.in1.in1) a1 c1 n1 m1 (by omega)
    have e2:=Uy (A:=X.A.in1.in1) a2 c2 n2 m2 (by omega)
    show Lex X.A.in1.in1 s' [.ref p1,.ref p2] [.ref b1,.ref b2] (if (ps i).1=(ps j).1 then HT.lexLt (ps i).2 (ps j).2 else HT.lexLt (ps i).1 (ps j).1)
    by_cases h1:(ps i).1=(ps j).1
    · rw [if_pos h1]
      rw [decide_eq_true h1] at e1
      refine .eq e1 ?_
      by_cases h2:(ps i).2=(ps j).2
      · rw [decide_eq_true h2] at e2
        rw [h2]
        have:HT.lexLt (ps j).2 (ps j).2=false:=KY _
        rw [this]
        exact .eq e2 .nn
      · rw [decide_eq_false h2] at e2
        exact .lt e2 fun prog w E Q h=>HT.Kw a2 c2 n2 m2 (by omega) h
    · rw [if_neg h1]
      rw [decide_eq_false h1] at e1
      exact .lt e1 fun prog w E Q h=>HT.Kw a1 c1 n1 m1 (by omega) h
  · intro v h' tk hv k
    obtain ⟨x,e1,r2⟩:=Vals.at rv _ v (by simpa using hv)
    rw [hlen] at e1
    refine ⟨x,H,I.kept fun b o e=>k b o (fun z=>?_) (Heap.get?_push_of_some _ e),r2,q x e1⟩
    have e2:b=s.heap.objs.size:=by simpa using z
    have e3:=Heap.lt_size e
    exact Nat.lt_irrefl _ (e2 ▸ e3)
noncomputable def Kl (ps:List (List Int × List Int)):Nat:=argBest (fun i j=>FJ (ps.getD i ([],[])) (ps.getD j ([],[]))) (ps.length - 1)
noncomputable def AcP:DL:=fun ds Q=>∃ ps:List (List Int × List Int),ds=[.lst (ps.map Mf)]∧0 < ps.length∧Kl ps < ps.length∧Q (Mf (ps.getD (Kl ps) ([],[])))
theorem ints_of {K:PySem.W.Frag} {M:Hp} {ns:List Int} {xs:List V} (r:RpL K M (ns.map Dt.int) xs):xs=ns.map V.int:=by
  induction ns generalizing xs with
  | nil=>exact BR.mp r
  | cons n ns ih =>
    obtain ⟨v,w,rfl,r1,r2⟩:=Aw.mp r
    rw [Bp.mp r1,ih r2]
    rfl
theorem AcI {K:PySem.W.Frag} {M:Hp} {a:List Int × List Int} {v:V} (r:Rp K M (Mf a) v):Om K M v a:=by
  obtain ⟨p,xs,rfl,h1,h2⟩:=Dn.mp r
  obtain ⟨v1,w1,rfl,r1,h2⟩:=Aw.mp h2
  obtain ⟨v2,w2,rfl,r2,h2⟩:=Aw.mp h2
  obtain rfl:=BR.mp h2
  obtain ⟨p1,x1,rfl,g1,k1⟩:=Dn.mp r1
  obtain ⟨p2,x2,rfl,g2,k2⟩:=Dn.mp r2
  rw [ints_of k1] at g1
  rw [ints_of k2] at g2
  exact ⟨p,p1,p2,rfl,h1,g1,g2⟩
theorem Om.mono {K:PySem.W.Frag} {M M':Hp} {a:List Int × List Int} {v:V} (s:Same M M') (h:Om K M v a):Om K M' v a:=by
  obtain ⟨p,p1,p2,e,h1,h2,h3⟩:=h
  exact ⟨p,p1,p2,e,s.seqT h1,s.seqT h2,s.seqT h3⟩
theorem AaF {K:PySem.W.Frag}:Tt K (Ac9 K) AcP where
  mono:=fun hq ⟨ps,e,n0,lt,h⟩=>⟨ps,e,n0,lt,hq _ h⟩
  ok:=fun O H ds xs Q _ r ⟨ps,e,n0,lt,h⟩=>by
    subst e
    obtain ⟨x,r',rfl,r2,r3⟩:=Aw.mp r
    obtain rfl:=BR.mp r3
    obtain ⟨l,vs,rfl,hs,hl⟩:=Gh r2
    have len:vs.length=ps.length:=by rw [hl.len,List.length_map]
    have at':∀ (i:Nat) (v:V),vs[i]? = some v→Rp K (mask O H) (Mf (ps.getD i ([],[]))) v:=fun i v e=>by
      obtain ⟨d,e1,e2⟩:=hl.get' e
      rw [List.getElem?_map] at e1
      cases w:ps[i]? with
      | none=>rw [w] at e1;cases e1
      | some a =>
        rw [w] at e1
        cases e1
        rw [List.getD_eq_getElem?_getD,w]
        exact e2
    refine ⟨l,vs,fun i=>ps.getD i ([],[]),rfl,Bv.seq hs,by omega,fun i v e=>(AcI (at' i v e)).mono Bv,fun v e=>?_⟩
    rw [len] at e
    exact h v H (Same.refl H) (at' _ v e)
theorem Aa6 {a:Expr} {tl:DTA} {p pos:Pos} (hm:X.mg "min"=none) (hu:X.A.in1.units+16 < cLine) (ha:DA X [a] tl) (hc:X.calm=true:=by rfl) (hg:Gl X "min":=by rfl) (hv:bootBuiltins "min"=some (.builtin "min"):=by rfl) (he:starEach [a] X.env=(false,eval a X.env) :: starEach [] X.env:=by rfl)
    (hpl:(backTo pos (starEach [] X.env)).any (·.1)=false:=by rfl):DE X (.Call (.Name "min" p) [a] [] pos) (dCB AcP tl):=QF (Yn hc hu) AaF hg hm hv ha (he:=he) (hpl:=hpl)
theorem AeO {A:Around} (h:A.units+64 < cLine):A.in1.units+16 < cLine:=by show A.units+1+16 < cLine;omega
end
end L2
namespace L2
open PySem PySem.Spec PyProof.Rows PySem.SeqAt
section
variable {P:Program} {w:World} {A:Around} {E:Value→Shared→Prop} {s:Shared}
theorem Nm {j t:Addr} {n:Nat} {its:Array Value} {v:Value} {Q:Value→Shared→Prop} (hj:s.heap.IsTupleIter j t n) (ht:s.heap.IsTuple t its) (hv:its[n]? = some v)
    (q:∀ g,g.IsTupleIter j t (n+1)→Heap.SameBut j s.heap g→Q v { s with heap:=g }):wpAny (model P w) A (Builtin.SmallTypes.nextOf (.ref j)) Q E s:=by
  obtain ⟨oj,gj,cj,dj⟩:=id hj
  obtain ⟨ot,gt,_,nt,dt⟩:=ht
  unfold Builtin.SmallTypes.nextOf
  refine wpAny_bind (wpAny_callSpecial?_slot (name:=Str.ofString "__next__") hj.typeIs F.slot_tuple_iterator_next (wpAny_call_entry F.slot_tuple_iterator_next hj.typeIs F.entry_tuple_iterator_next ?_ (F.args_tuple_iterator_next_1 _)))
  show wpAny _ _ (field (.ref j) 0 >>= _) _ _ s
  refine wpAny_bind (wpAny_field gj dj (x:=.ref t) rfl ?_)
  show wpAny _ _ (if (Value.ref t == Value.none)=true then _ else _) _ _ _
  rw [if_neg (show ¬ (Value.ref t == Value.none)=true from Bool.false_ne_true)]
  show wpAny _ _ (field (.ref j) 1 >>= _) _ _ s
  refine wpAny_bind (wpAny_field gj dj (x:=.int n 0) rfl ?_)
  show wpAny _ _ (seqItems? (.ref t) >>= _) _ _ _
  refine wpAny_bind (wpAny_seqItems gt dt ?_)
  simp only [Int.toNat_natCast,hv]
  exact wpAny_bind (wpAny_setField gj dj (by simp) (wpAny_pure ⟨v,rfl,wpAny_pure (q _ ⟨_,Heap.get?_update_self _ gj (Obj.isFreed_of_fields (Obj.data_mapFields dj _)),(Obj.cls_mapFields ..).trans cj,by rw [Obj.data_mapFields dj];simp [rawInt]⟩ (Heap.SameBut.update ..))⟩))
theorem Y4 {j t:Addr} {n:Nat} {its:Array Value} {Q:Value→Shared→Prop} (hh:A.handled=none) (hj:s.heap.IsTupleIter j t n) (ht:s.heap.IsTuple t its) (hv:its[n]? = none)
    (q:∀ g e,Heap.ExtBut j s.heap g→(∃ o,g.get? e=some o∧o.cls=.type "StopIteration")→E (.ref e) { s with heap:=g }):wpAny (model P w) A (Builtin.SmallTypes.nextOf (.ref j)) Q E s:=by
  obtain ⟨oj,gj,cj,dj⟩:=id hj
  obtain ⟨ot,gt,_,nt,dt⟩:=ht
  unfold Builtin.SmallTypes.nextOf
  refine wpAny_bind (wpAny_callSpecial?_slot (name:=Str.ofString "__next__") hj.typeIs F.slot_tuple_iterator_next (wpAny_call_entry F.slot_tuple_iterator_next hj.typeIs F.entry_tuple_iterator_next ?_ (F.args_tuple_iterator_next_1 _)))
  show wpAny _ _ (field (.ref j) 0 >>= _) _ _ s
  refine wpAny_bind (wpAny_field gj dj (x:=.ref t) rfl ?_)
  show wpAny _ _ (if (Value.ref t == Value.none)=true then _ else _) _ _ _
  rw [if_neg (show ¬ (Value.ref t == Value.none)=true from Bool.false_ne_true)]
  show wpAny _ _ (field (.ref j) 1 >>= _) _ _ s
  refine wpAny_bind (wpAny_field gj dj (x:=.int n 0) rfl ?_)
  show wpAny _ _ (seqItems? (.ref t) >>= _) _ _ _
  refine wpAny_bind (wpAny_seqItems gt dt ?_)
  simp only [Int.toNat_natCast,hv]
  refine wpAny_bind (wpAny_rule (wpAny_bind (wpAny_setField gj dj (by simp) ?_)))
  show wpAny _ _ (newExc (.type "StopIteration") [] >>= _) _ _ _;refine wpAny_bind ?_
  simp only [newExc,newTuple];refine wpAny_bind (wpAny_newObj_type ?_ (by size_fits))
  refine wpAny_bind (m:=firstArgMember _ _) (wpAny_of_eq (a:=Value.none) (by first | (simp only [firstArgMember];rfl) | rfl) ?_);refine wpAny_newObj_type ?_ (by size_fits)
  simp only [raiseNew];refine wpAny_bind (wpAny_handled ?_)
  first | rw [hh] | rw [show A.in1.handled=none from hh]
  exact wpAny_bind (wpAny_pure (wpAny_throw (q _ _ (((Heap.SameBut.update ..).extBut.push _).push _) ⟨_,Heap.get?_push_size _ rfl,rfl⟩)))
noncomputable def HY (h:Heap) (z p o:Addr) (u v:Value):Prop:=h.get? z=some { cls:=.type "zip",dict:=none,data:=.fields #[u,v,.bool false,.ref p,.ref o],slots:=#[] }
noncomputable def Ad4 (u:Value):Prop:=u=.none∨∃ k t,u=.int k t
structure NZ (z p o i j a b:Addr):Prop where
  pz:p≠z
  oz:o≠z
  iz:i≠z
  jz:j≠z
  po:p≠o
  pi:p≠i
  pj:p≠j
  oi:o≠i
  oj:o≠j
  ij:i≠j
  az:a≠z
  ao:a≠o
  ai:a≠i
  aj:a≠j
  bz:b≠z
  bo:b≠o
  bi:b≠i
  bj:b≠j
structure JT (h:Heap) (z p o i j a b:Addr) (k:Nat) (xs ys:Array Value):Prop where
  zip:∃ u v,HY h z p o u v∧Ad4 u
  its:IsPair h p (.ref i) (.ref j)
  row:∃ x y,IsPair h o x y
  i1:h.IsTupleIter i a k
  i2:h.IsTupleIter j b k
  t1:h.IsTuple a xs
  t2:h.IsTuple b ys
theorem U5 {M:Model} {a:Addr} {Q:Option Obj→Shared→Prop} (h:Q (s.heap.get? a) s):wpAny M A (loadIfAlive a) Q E s:=fun Γ p _=>by
  show Sem.wp M Γ (.loadIfAlive a _) _ _ p s
  rw [Sem.wp_loadIfAlive]
  exact (Sem.wp_pure ..).mpr h
theorem W0 {z p o:Addr} {u v:Value} (hz:HY s.heap z p o u v) (hu:Ad4 u):wpAny (model P w) A (Builtin.SmallTypes.ownedTupleIsFree (.ref z)) (fun _ s'=>∃ g v',s' = { s with heap:=g }∧HY g z p o u v'∧Heap.SameBut z s.heap g) E s:=by
  unfold Builtin.SmallTypes.ownedTupleIsFree
  refine wpAny_bind (wpAny_field hz rfl (x:=u) rfl ?_)
  rcases hu with rfl | ⟨n,tk,rfl⟩
  · exact wpAny_pure ⟨s.heap,v,rfl,hz,rfl,fun _ _=>rfl⟩
  · show wpAny _ _ (loadIfAlive n.toNat >>= _) _ _ _
    refine wpAny_bind (U5 ?_)
    cases hg:s.heap.get? n.toNat with
    | none=>exact wpAny_pure ⟨s.heap,v,rfl,hz,rfl,fun _ _=>rfl⟩
    | some _ =>
      show wpAny _ _ (field (.ref z) 1 >>= _) _ _ _
      refine wpAny_bind (wpAny_field hz rfl (x:=v) rfl ?_)
      by_cases hv:(v != Value.bool true)=true
      · dsimp only
        rw [if_pos hv]
        exact wpAny_bind (wpAny_setField_rec hz (by simp) fun g z1 s1=>wpAny_pure ⟨g,.bool true,rfl,z1,s1⟩)
      · dsimp only
        rw [if_neg hv]
        exact wpAny_pure ⟨s.heap,v,rfl,hz,rfl,fun _ _=>rfl⟩
theorem Y8 {z p o i j a b:Addr} {k:Nat} {xs ys:Array Value} {x y:Value} {Q:Value→Shared→Prop} (D:NZ z p o i j a b) (Z:JT s.heap z p o i j a b k xs ys) (hx:xs[k]? = some x) (hy:ys[k]? = some y)
    (q:∀ g T,JT g z p o i j a b (k+1) xs ys→IsPair g T x y→s.heap.objs.size≤T→(∀ c m,c≠z→c≠o→c≠i→c≠j→s.heap.get? c=some m→g.get? c=some m)→Q (.ref T) { s with heap:=g }) :
    wpAny (model P w) A (Builtin.«zip.__next__» ⟨[.ref z],[]⟩) (fun fin s'=>∃ v,fin=.done (.ret v)∧Q v s') E s:=by
  obtain ⟨⟨u,v,hz,hu⟩,hp,⟨x0,y0,ho⟩,h1,h2,l1,l2⟩:=Z
  show wpAny _ _ (field (.ref z) 2 >>= _) _ _ _
  refine wpAny_bind (wpAny_field hz rfl (x:=.bool false) rfl ?_)
  show wpAny _ _ (field (.ref z) 3 >>= _) _ _ _
  refine wpAny_bind (wpAny_field hz rfl (x:=.ref p) rfl (wpAny_bind (wpAny_seqItems hp rfl ?_)))
  show wpAny _ _ (Builtin.SmallTypes.ownedTupleIsFree (.ref z) >>= _) _ _ _
  refine wpAny_bind (wpAny_mono (W0 hz hu) (fun r s' ⟨g,v',e,hz',sb⟩=>?_) fun _ _ z=>z)
  subst e
  cases r with
  | true =>
    simp only [if_true]
    refine wpAny_bind (wpAny_rule (wpAny_bind (wpAny_field hz' rfl (x:=.ref o) rfl ?_)))
    refine wpAny_bind (wpAny_setField_rec hz' (by simp) fun g1 z1 s1=>?_)
    replace z1:HY g1 z p o .ellipsis v':=z1
    refine wpAny_bind ?_
    simp only [List.zipIdx_cons,List.zipIdx_nil,List.forIn_cons,List.forIn_nil]
    have b1:∀ c m,c≠z→s.heap.get? c=some m→g1.get? c=some m:=fun c m n e=>s1.extBut _ _ n (sb.extBut _ _ n e)
    refine wpAny_bind (wpAny_bind (wpAny_onRaise ?_))
    show wpAny _ _ (Builtin.SmallTypes.nextOf (.ref i) >>= _) _ _ _
    refine wpAny_bind (Nm (s:={ s with heap:=g1 }) (h1.at fun m e=>b1 _ m D.iz e) (l1.at fun m e=>b1 _ m D.az e) hx fun g2 i2 s2=>wpAny_pure ?_)
    have o2:IsPair g2 o x0 y0:=s2.extBut _ _ D.oi (b1 _ _ D.oz ho)
    refine wpAny_bind (wpAny_seqItems o2 rfl (wpAny_bind (wpAny_updateSeq_pair o2 fun g3 o3 s3=>wpAny_bind (wpAny_letGo (wpAny_pure ?_)))))
    replace o3:IsPair g3 o x y0:=o3
    have b3:∀ c m,c≠z→c≠i→c≠o→s.heap.get? c=some m→g3.get? c=some m:=fun c m n1 n2 n3 e=>s3.extBut _ _ n3 (s2.extBut _ _ n2 (b1 _ _ n1 e))
    refine wpAny_bind (wpAny_bind (wpAny_onRaise ?_))
    show wpAny _ _ (Builtin.SmallTypes.nextOf (.ref j) >>= _) _ _ _
    refine wpAny_bind (Nm (s:={ s with heap:=g3 }) (h2.at fun m e=>b3 _ m D.jz D.ij.symm D.oj.symm e) (l2.at fun m e=>b3 _ m D.bz D.bi D.bo e) hy fun g4 j4 s4=>wpAny_pure ?_)
    have o4:IsPair g4 o x y0:=s4.extBut _ _ D.oj o3
    refine wpAny_bind (wpAny_seqItems o4 rfl (wpAny_bind (wpAny_updateSeq_pair o4 fun g5 o5 s5=>wpAny_bind (wpAny_letGo (wpAny_pure (wpAny_pure ?_))))))
    replace o5:IsPair g5 o x y:=o5
    have b5:∀ c m,c≠z→c≠o→c≠i→c≠j→s.heap.get? c=some m→g5.get? c=some m:=fun c m n1 n2 n3 n4 e=>s5.extBut _ _ n2 (s4.extBut _ _ n4 (b3 _ _ n1 n3 n2 e))
    have z5:HY g5 z p o .ellipsis v':=s5.extBut _ _ D.oz.symm (s4.extBut _ _ D.jz.symm (s3.extBut _ _ D.oz.symm (s2.extBut _ _ D.iz.symm z1)))
    have i5:g5.IsTupleIter i a (k+1):=i2.at fun m e=>s5.extBut _ _ D.oi.symm (s4.extBut _ _ D.ij (s3.extBut _ _ D.oi.symm e))
    have j5:g5.IsTupleIter j b (k+1):=j4.at fun m e=>s5.extBut _ _ D.oj.symm e
    have sz:g5.objs.size=s.heap.objs.size:=by rw [s5.1,s4.1,s3.1,s2.1,s1.1,sb.1]
    refine wpAny_bind (wpAny_seqItems o5 rfl (wpAny_bind (wpAny_newTuple ?_)))
    show wpAny _ _ (Builtin.SmallTypes.ownedTupleHandOut (.ref z) (.ref g5.objs.size) >>= _) _ _ _
    refine wpAny_bind ?_
    unfold Builtin.SmallTypes.ownedTupleHandOut
    have z6:HY (g5.push { cls:=.type "tuple",data:=.seq #[x,y] }) z p o .ellipsis v':=Heap.get?_push_of_some _ z5
    refine wpAny_bind (wpAny_setField_rec z6 (by simp) fun g7 z7 s7=>?_)
    replace z7:HY g7 z p o (rawInt g5.objs.size) v':=z7
    refine wpAny_setField_rec z7 (by simp) fun g8 z8 s8=>wpAny_pure ⟨_,rfl,?_⟩
    replace z8:HY g8 z p o (rawInt g5.objs.size) (.bool false):=z8
    have b8:∀ c m,c≠z→g5.get? c=some m→g8.get? c=some m:=fun c m n e=>s8.extBut _ _ n (s7.extBut _ _ n (Heap.get?_push_of_some _ e))
    have lz:z < g5.objs.size:=Heap.lt_size z5
    refine q g8 g5.objs.size ⟨⟨_,_,z8,.inr ⟨_,_,rfl⟩⟩,b8 _ _ D.pz (b5 _ _ D.pz D.po D.pi D.pj hp),⟨x,y,b8 _ _ D.oz o5⟩,i5.at fun m e=>b8 _ m D.iz e,j5.at fun m e=>b8 _ m D.jz e,l1.at fun m e=>b8 _ m D.az (b5 _ m D.az D.ao D.ai D.aj e),l2.at fun m e=>b8 _ m D.bz (b5 _ m D.bz D.bo D.bi D.bj e)⟩ ?_ (by rw [sz];exact Nat.le_refl _) fun c m n1 n2 n3 n4 e=>b8 c m n1 (b5 c m n1 n2 n3 n4 e)
    exact s8.extBut _ _ (Nat.ne_of_gt lz) (s7.extBut _ _ (Nat.ne_of_gt lz) (Heap.get?_push_size _ rfl))
  | false =>
    simp only [Bool.false_eq_true,if_false]
    rw [←Array.forIn_toList]
    simp only [List.forIn_cons,List.forIn_nil]
    have b0:∀ c m,c≠z→s.heap.get? c=some m→g.get? c=some m:=fun c m n e=>sb.extBut _ _ n e
    refine wpAny_bind (wpAny_bind (wpAny_bind (wpAny_holding ?_)))
    show wpAny _ _ (Builtin.SmallTypes.nextOf (.ref i) >>= _) _ _ _
    refine wpAny_bind (Nm (s:={ s with heap:=g }) (h1.at fun m e=>b0 _ m D.iz e) (l1.at fun m e=>b0 _ m D.az e) hx fun g2 i2 s2=>wpAny_pure (wpAny_pure ?_))
    have b2:∀ c m,c≠z→c≠i→s.heap.get? c=some m→g2.get? c=some m:=fun c m n1 n2 e=>s2.extBut _ _ n2 (b0 _ _ n1 e)
    refine wpAny_bind (wpAny_bind (wpAny_holding ?_))
    show wpAny _ _ (Builtin.SmallTypes.nextOf (.ref j) >>= _) _ _ _
    refine wpAny_bind (Nm (s:={ s with heap:=g2 }) (h2.at fun m e=>b2 _ m D.jz D.ij.symm e) (l2.at fun m e=>b2 _ m D.bz D.bi e) hy fun g4 j4 s4=>wpAny_pure (wpAny_pure (wpAny_pure ?_)))
    have b4:∀ c m,c≠z→c≠i→c≠j→s.heap.get? c=some m→g4.get? c=some m:=fun c m n1 n2 n3 e=>s4.extBut _ _ n3 (b2 _ _ n1 n2 e)
    have z4:HY g4 z p o u v':=s4.extBut _ _ D.jz.symm (s2.extBut _ _ D.iz.symm hz')
    have i4:g4.IsTupleIter i a (k+1):=i2.at fun m e=>s4.extBut _ _ D.ij e
    have sz:g4.objs.size=s.heap.objs.size:=by rw [s4.1,s2.1,sb.1]
    have up:∀ {c m},g4.get? c=some m→(g4.push { cls:=.type "tuple",data:=.seq #[x,y] }).get? c=some m:=fun e=>Heap.get?_push_of_some _ e
    refine wpAny_bind (wpAny_newTuple (wpAny_pure ⟨_,rfl,?_⟩) (show 2≤sizeLine by decide))
    exact q _ g4.objs.size ⟨⟨_,_,up z4,hu⟩,up (b4 _ _ D.pz D.pi D.pj hp),⟨x0,y0,up (b4 _ _ D.oz D.oi D.oj ho)⟩,i4.at fun m e=>up e,j4.at fun m e=>up e,l1.at fun m e=>up (b4 _ m D.az D.ai D.aj e),l2.at fun m e=>up (b4 _ m D.bz D.bi D.bj e)⟩ (Heap.get?_push_size _ rfl) (by rw [sz];exact Nat.le_refl _) fun c m n1 n2 n3 n4 e=>up (b4 c m n1 n3 n4 e)
theorem Aa5 {z p o i j a b:Addr} {k:Nat} {xs ys:Array Value} {Q:Fin→Shared→Prop} (hh:A.handled=none) (D:NZ z p o i j a b) (Z:JT s.heap z p o i j a b k xs ys) (hx:xs[k]? = none)
    (q:∀ g e,(∀ c m,c≠z→c≠o→c≠i→c≠j→s.heap.get? c=some m→g.get? c=some m)→(∃ m,g.get? e=some m∧m.cls=.type "StopIteration")→E (.ref e) { s with heap:=g }) :
    wpAny (model P w) A (Builtin.«zip.__next__» ⟨[.ref z],[]⟩) Q E s:=by
  obtain ⟨⟨u,v,hz,hu⟩,hp,⟨x0,y0,ho⟩,h1,h2,l1,l2⟩:=Z
  show wpAny _ _ (field (.ref z) 2 >>= _) _ _ _
  refine wpAny_bind (wpAny_field hz rfl (x:=.bool false) rfl ?_)
  show wpAny _ _ (field (.ref z) 3 >>= _) _ _ _
  refine wpAny_bind (wpAny_field hz rfl (x:=.ref p) rfl (wpAny_bind (wpAny_seqItems hp rfl ?_)))
  show wpAny _ _ (Builtin.SmallTypes.ownedTupleIsFree (.ref z) >>= _) _ _ _
  refine wpAny_bind (wpAny_mono (W0 hz hu) (fun r s' ⟨g,v',e,hz',sb⟩=>?_) fun _ _ z=>z)
  subst e
  cases r with
  | true =>
    simp only [if_true]
    refine wpAny_bind (wpAny_rule (wpAny_bind (wpAny_field hz' rfl (x:=.ref o) rfl ?_)))
    refine wpAny_bind (wpAny_setField_rec hz' (by simp) fun g1 z1 s1=>?_)
    replace z1:HY g1 z p o .ellipsis v':=z1
    refine wpAny_bind ?_
    simp only [List.zipIdx_cons,List.zipIdx_nil,List.forIn_cons,List.forIn_nil]
    have b1:∀ c m,c≠z→s.heap.get? c=some m→g1.get? c=some m:=fun c m n e=>s1.extBut _ _ n (sb.extBut _ _ n e)
    refine wpAny_bind (wpAny_bind (wpAny_onRaise ?_))
    show wpAny _ _ (Builtin.SmallTypes.nextOf (.ref i) >>= _) _ _ _
    refine wpAny_bind (Y4 (s:={ s with heap:=g1 }) hh (h1.at fun m e=>b1 _ m D.iz e) (l1.at fun m e=>b1 _ m D.az e) hx fun g2 e s2 ⟨m,he,hc⟩=>?_)
    have z2:HY g2 z p o .ellipsis v':=s2 _ _ D.iz.symm z1
    have ne:e≠z:=fun x=>by subst x;rw [z2] at he;cases he;simp at hc
    exact wpAny_setField_rec z2 (by simp) fun g3 _ s3=>q g3 e (fun c m n1 _ n3 _ e=>s3.extBut _ _ n1 (s2 _ _ n3 (b1 _ _ n1 e))) ⟨m,s3.extBut _ _ ne he,hc⟩
  | false =>
    simp only [Bool.false_eq_true,if_false]
    rw [←Array.forIn_toList]
    simp only [List.forIn_cons,List.forIn_nil]
    refine wpAny_bind (wpAny_bind (wpAny_bind (wpAny_holding ?_)))
    show wpAny _ _ (Builtin.SmallTypes.nextOf (.ref i) >>= _) _ _ _
    exact wpAny_bind (Y4 (s:={ s with heap:=g }) hh (h1.at fun m e=>sb.extBut _ m D.iz e) (l1.at fun m e=>sb.extBut _ m D.az e) hx fun g2 e s2 he=>q g2 e (fun c m n1 _ n3 _ e=>s2 _ _ n3 (sb.extBut _ _ n1 e)) he)
theorem Aay {z p o i j a b:Addr} {k:Nat} {xs ys:Array Value} {x y:Value} {Q:Option Value→Shared→Prop} (D:NZ z p o i j a b) (Z:JT s.heap z p o i j a b k xs ys) (hx:xs[k]? = some x) (hy:ys[k]? = some y)
    (q:∀ g T,JT g z p o i j a b (k+1) xs ys→IsPair g T x y→s.heap.objs.size≤T→(∀ c m,c≠z→c≠o→c≠i→c≠j→s.heap.get? c=some m→g.get? c=some m)→Q (some (.ref T)) { s with heap:=g }) :
    wpAny (model P w) A (pyNext (.ref z)) Q E s:=by
  obtain ⟨u,v,hz,_⟩:=Z.zip
  have ty:s.TypeIs (.ref z) "zip":=⟨_,hz,rfl⟩
  unfold pyNext
  exact wpAny_bind (wpAny_attempt (wpAny_callSpecial?_slot (name:=Str.ofString "__next__") ty F.slot_zip_next (wpAny_call_entry F.slot_zip_next ty F.entry_zip_next (Y8 D Z hx hy fun g T e1 e2 e3 e4=>wpAny_pure (q g T e1 e2 e3 e4)) (F.args_zip_next_1 _))))
theorem YW {z p o i j a b:Addr} {k:Nat} {xs ys:Array Value} {Q:Option Value→Shared→Prop} (hh:A.handled=none) (D:NZ z p o i j a b) (Z:JT s.heap z p o i j a b k xs ys) (hx:xs[k]? = none)
    (q:∀ g,(∀ c m,c≠z→c≠o→c≠i→c≠j→s.heap.get? c=some m→g.get? c=some m)→Q none { s with heap:=g }):wpAny (model P w) A (pyNext (.ref z)) Q E s:=by
  obtain ⟨u,v,hz,_⟩:=Z.zip
  have ty:s.TypeIs (.ref z) "zip":=⟨_,hz,rfl⟩
  unfold pyNext
  refine wpAny_bind (wpAny_attempt (wpAny_callSpecial?_slot (name:=Str.ofString "__next__") ty F.slot_zip_next (wpAny_call_entry F.slot_zip_next ty F.entry_zip_next (Aa5 hh D Z hx fun g e hk ⟨m,he,hc⟩=>?_) (F.args_zip_next_1 _))))
  exact wpAny_bind (wpAny_isInstance (T:="StopIteration") (b:=true) ⟨m,he,hc⟩ isSubtype_stop (wpAny_pure (q _ hk)))
theorem Uw {z p o:Addr} {u v:Value} {Q:Value→Shared→Prop} (hz:HY s.heap z p o u v) (q:Q (.ref z) s):wpAny (model P w) A (pyIter (.ref z)) Q E s:=by
  have ty:s.TypeIs (.ref z) "zip":=⟨_,hz,rfl⟩
  refine wpAny_pyIter_slot ty F.slot_zip_iter (wpAny_call_entry F.slot_zip_iter ty F.entry_zip_iter ?_ (F.args_zip_iter_1 _))
  show wpAny _ _ (ret (.ref z)) _ _ _
  exact wpAny_pure ⟨_,rfl,"zip",_,ty,F.slot_zip_next.lookup,q⟩
noncomputable abbrev zA (h:Heap) (a:Addr):Heap:=h.push { cls:=.type "tuple_iterator",data:=.fields #[.ref a,.int 0 0] }
noncomputable abbrev zB (h:Heap) (a b:Addr):Heap:=(zA h a).push { cls:=.type "tuple_iterator",data:=.fields #[.ref b,.int 0 0] }
noncomputable abbrev zC (h:Heap) (a b:Addr):Heap:=(zB h a b).push { cls:=.type "tuple",data:=.seq #[.ref h.objs.size,.ref (zA h a).objs.size] }
noncomputable abbrev zD (h:Heap) (a b:Addr):Heap:=(zC h a b).push { cls:=.type "tuple",data:=.seq #[.none,.none] }
noncomputable abbrev zE (h:Heap) (a b:Addr):Heap:=(zD h a b).push { cls:=.type "zip",data:=.fields #[.none,.bool false,.bool false,.ref (zB h a b).objs.size,.ref (zC h a b).objs.size] }
theorem Aa2 (a b:Addr) (xs ys:Array Value):Meets (Builtin.«zip.__new__» ⟨[.type "zip",.ref a,.ref b],[]⟩) (fun _ R s=>s.heap.IsTuple a xs∧s.heap.IsTuple b ys∧R (.ok (.ret (.ref (zD s.heap a b).objs.size))) { s with heap:=zE s.heap a b }) :=
  .of_wp fun P w A R s h=>by
    obtain ⟨hp,gs,dr,tk,os⟩:=s;obtain ⟨t1,t2,h⟩:=h
    have sz:=sub_zip
    have m1:Heap.IsTuple (Shared.heap ⟨hp,gs,dr,tk,os⟩) a xs:=t1
    have m2:Heap.IsTuple (Shared.heap ⟨hp.push { cls:=.type "tuple_iterator",data:=.fields #[.ref a,.int 0 0] },gs,dr,tk,os⟩) b ys:=Heap.IsTuple.push t2 _
    wp_walk using wpAny_pyIter_tuple m1,wpAny_pyIter_tuple m2
    exact ⟨_,rfl,h⟩
theorem AfG {n a b:Nat} (la:a < n) (lb:b < n):NZ (n+4) (n+2) (n+3) n (n+1) a b where
  pz:=fun e=>absurd (show (n+2:Nat)=n+4 from e) (by omega)
  oz:=fun e=>absurd (show (n+3:Nat)=n+4 from e) (by omega)
  iz:=fun e=>absurd (show (n:Nat)=n+4 from e) (by omega)
  jz:=fun e=>absurd (show (n+1:Nat)=n+4 from e) (by omega)
  po:=fun e=>absurd (show (n+2:Nat)=n+3 from e) (by omega)
  pi:=fun e=>absurd (show (n+2:Nat)=n from e) (by omega)
  pj:=fun e=>absurd (show (n+2:Nat)=n+1 from e) (by omega)
  oi:=fun e=>absurd (show (n+3:Nat)=n from e) (by omega)
  oj:=fun e=>absurd (show (n+3:Nat)=n+1 from e) (by omega)
  ij:=fun e=>absurd (show (n:Nat)=n+1 from e) (by omega)
  az:=fun e=>absurd (show (a:Nat)=n+4 from e) (by omega)
  ao:=fun e=>absurd (show (a:Nat)=n+3 from e) (by omega)
  ai:=fun e=>absurd (show (a:Nat)=n from e) (by omega)
  aj:=fun e=>absurd (show (a:Nat)=n+1 from e) (by omega)
  bz:=fun e=>absurd (show (b:Nat)=n+4 from e) (by omega)
  bo:=fun e=>absurd (show (b:Nat)=n+3 from e) (by omega)
  bi:=fun e=>absurd (show (b:Nat)=n from e) (by omega)
  bj:=fun e=>absurd (show (b:Nat)=n+1 from e) (by omega)
theorem Aab {a b:Addr} {xs ys:Array Value} {Q:Value→Shared→Prop} (t1:s.heap.IsTuple a xs) (t2:s.heap.IsTuple b ys)
    (q:∀ g z p o i j,NZ z p o i j a b→JT g z p o i j a b 0 xs ys→(∀ c∈[z,p,o,i,j],s.heap.objs.size≤c)→(∀ c m,s.heap.get? c=some m→g.get? c=some m)→Q (.ref z) { s with heap:=g }) :
    wpAny (model P w) A (call (.type "zip") [.ref a,.ref b]) Q E s:=by
  refine callType_new F.called_zip (by decide) (F.typeCall_zip_2 _ _) (F.newCall_zip_2 _ _) (fun obj=>F.args_object_init_3 obj _ _) F.entry_zip_new (Aa2 a b xs ys) ⟨t1,t2,?_⟩
  have n1:(zA s.heap a).objs.size=s.heap.objs.size+1:=Heap.size_push ..
  have n2:(zB s.heap a b).objs.size=s.heap.objs.size+2:=by rw [Heap.size_push,n1]
  have n3:(zC s.heap a b).objs.size=s.heap.objs.size+3:=by rw [Heap.size_push,n2]
  have n4:(zD s.heap a b).objs.size=s.heap.objs.size+4:=by rw [Heap.size_push,n3]
  have g5:(zE s.heap a b).get? (zD s.heap a b).objs.size=some _:=Heap.get?_push_size _ rfl
  have g4:(zE s.heap a b).get? (zC s.heap a b).objs.size=some _:=Heap.get?_push_of_some _ (Heap.get?_push_size _ rfl)
  have g3:(zE s.heap a b).get? (zB s.heap a b).objs.size=some _:=Heap.get?_push_of_some _ (Heap.get?_push_of_some _ (Heap.get?_push_size _ rfl))
  have g2:(zE s.heap a b).get? (zA s.heap a).objs.size=some _:=Heap.get?_push_of_some _ (Heap.get?_push_of_some _ (Heap.get?_push_of_some _ (Heap.get?_push_size _ rfl)))
  have g1:(zE s.heap a b).get? s.heap.objs.size=some _:=Heap.get?_push_of_some _ (Heap.get?_push_of_some _ (Heap.get?_push_of_some _ (Heap.get?_push_of_some _ (Heap.get?_push_size _ rfl))))
  have up:∀ c m,s.heap.get? c=some m→(zE s.heap a b).get? c=some m:=fun c m e=>Heap.get?_push_of_some _ (Heap.get?_push_of_some _ (Heap.get?_push_of_some _ (Heap.get?_push_of_some _ (Heap.get?_push_of_some _ e))))
  have la:a < s.heap.objs.size:=by obtain ⟨_,e,_⟩:=t1;exact Heap.lt_size e
  have lb:b < s.heap.objs.size:=by obtain ⟨_,e,_⟩:=t2;exact Heap.lt_size e
  show _∧_
  refine ⟨⟨_,g5,rfl⟩,q _ _ (zB s.heap a b).objs.size (zC s.heap a b).objs.size s.heap.objs.size (zA s.heap a).objs.size ?_ ⟨⟨_,_,g5,.inl rfl⟩,g3,⟨_,_,g4⟩,⟨_,g1,rfl,rfl⟩,⟨_,g2,rfl,rfl⟩,t1.at fun m e=>up _ m e,t2.at fun m e=>up _ m e⟩ ?_ up⟩
  · rw [n1,n2,n3,n4]
    exact AfG la lb
  · intro c hc
    simp only [List.mem_cons,List.not_mem_nil,or_false] at hc
    rw [n1,n2,n3,n4] at hc
    rcases hc with rfl | rfl | rfl | rfl | rfl
    · exact Nat.le_add_right ..
    · exact Nat.le_add_right ..
    · exact Nat.le_add_right ..
    · exact Nat.le_refl _
    · exact Nat.le_add_right ..
end
noncomputable def Itz (K:PySem.W.Frag) (a b:Addr):It :=
  ⟨fun i H=>∃ xs ys x y,SqT K H a xs∧SqT K H b ys∧xs[i]? = some x∧ys[i]? = some y,
   fun i H v H'=>∃ T x y,v=.ref T∧H T=none∧H'=upd H T (.tup [x,y])∧(∀ xs,SqT K H a xs→xs[i]? = some x)∧∀ ys,SqT K H b ys→ys[i]? = some y,
   fun i H=>∃ xs ys,SqT K H a xs∧SqT K H b ys∧xs.length≤i⟩
section
variable {X:Cx} {tg:Expr} {pins:List (Addr × Obj)} {σ:St} {H:Hp} {s:Shared} {g:Heap}
theorem Inv.turnLay {ch:List Addr} {T:Addr} {o:HO} (I:Inv X pins σ H s) (k:∀ b u,b∉ch→s.heap.get? b=some u→g.get? b=some u) (hch:∀ b∈ch,KC X pins H b) (hT:s.heap.objs.size≤T)
    (new:Hh X.prog X.w (upd H T o) g T o):Inv X pins σ (upd H T o) { s with heap:=g }:=by
  have nT:H T=none:=I.hok.fresh hT
  have nit:∀ b u,H b=some u→b∉ch:=fun b u e z=>by rw [(hch b z).1] at e;cases e
  have lt:∀ b u,s.heap.get? b=some u→b≠T:=fun b u e=>Nat.ne_of_lt (Nat.lt_of_lt_of_le (Heap.lt_size e) hT)
  refine I.step (g':=s.gens) (d':=s.drawn) (t':=s.toks) (ch:=ch) (fun b hb=>?_) (fun b u _ _ hc e _=>k b u hc e) (fun b u _ _ hc e _=>⟨u.slots,k b u hc e⟩) (fun b u _ e n=>by rw [Bg (lt b u e)];exact n)
    (fun b u hc e=>⟨u,k b u hc e⟩) (fun b xs e=>by rw [Bg (BK e nT)];exact e) (fun b u xs e=>by rw [Bg (BK e nT)];exact e) (fun b ps e=>⟨#[],by rw [Bg (BK e nT),e];simp⟩) (fun m hm=>?_) (fun b u e=>?_) I.bare
  · obtain ⟨_,f1,_,f3,f4,f5⟩:=hch b hb
    exact ⟨f3,f1,f4,f5⟩
  · obtain ⟨u,es,ep,hu,r⟩:=hm
    exact ⟨u,es,ep,k _ u (fun z=>(hch _ z).2.1 rfl) hu,r⟩
  · by_cases z:b=T
    · subst z
      rw [BP] at e;cases e
      exact new
    · rw [Bg z] at e
      refine (I.hok b u e).stay (fun c v hc q=>k c v ?_ q) (fun c q=>by rw [Bg (BK q nT)];exact q) fun c xs q=>by rw [Bg (BK q nT)];exact q
      rcases hc with z | z
      · rw [z];exact nit b u e
      · exact nit c _ z
theorem Inv.turnAll {ch:List Addr} (I:Inv X pins σ H s) (k:∀ b u,b∉ch→s.heap.get? b=some u→g.get? b=some u) (hch:∀ b∈ch,KC X pins H b):Inv X pins σ H { s with heap:=g }:=by
  have nit:∀ b u,H b=some u→b∉ch:=fun b u e z=>by rw [(hch b z).1] at e;cases e
  refine I.step (g':=s.gens) (d':=s.drawn) (t':=s.toks) (ch:=ch) (fun b hb=>?_) (fun b u _ _ hc e _=>k b u hc e) (fun b u _ _ hc e _=>⟨u.slots,k b u hc e⟩) (fun b u _ e n=>n)
    (fun b u hc e=>⟨u,k b u hc e⟩) (fun b xs e=>e) (fun b u xs e=>e) (fun b ps e=>⟨#[],by rw [e];simp⟩) (fun m hm=>?_) (fun b u e=>?_) I.bare
  · obtain ⟨_,f1,_,f3,f4,f5⟩:=hch b hb
    exact ⟨f3,f1,f4,f5⟩
  · obtain ⟨u,es,ep,hu,r⟩:=hm
    exact ⟨u,es,ep,k _ u (fun z=>(hch _ z).2.1 rfl) hu,r⟩
  · refine (I.hok b u e).stay (fun c v hc q=>k c v ?_ q) (fun c q=>q) fun c xs q=>q
    rcases hc with z | z
    · rw [z];exact nit b u e
    · exact nit c _ z
structure W7 (z p o i j a b:Addr) (k:Nat) (h:Heap):Prop where
  zip:∃ u v,HY h z p o u v∧Ad4 u
  its:IsPair h p (.ref i) (.ref j)
  row:∃ x y,IsPair h o x y
  i1:h.IsTupleIter i a k
  i2:h.IsTupleIter j b k
theorem W7.on {h:Heap} {z p o i j a b:Addr} {k:Nat} {xs ys:Array Value} (Z:W7 z p o i j a b k h) (t1:h.IsTuple a xs) (t2:h.IsTuple b ys):JT h z p o i j a b k xs ys:=⟨Z.zip,Z.its,Z.row,Z.i1,Z.i2,t1,t2⟩
theorem JT.tn {h:Heap} {z p o i j a b:Addr} {k:Nat} {xs ys:Array Value} (Z:JT h z p o i j a b k xs ys):W7 z p o i j a b k h:=⟨Z.zip,Z.its,Z.row,Z.i1,Z.i2⟩
theorem Z5 {P:Program} {w:World} {K:PySem.W.Frag} {x:Str} {px:Pos} {z p o i j a b:Addr} (D:NZ z p o i j a b):Turn P w K (.Name x px) (Itz K a b) [z,p,o,i,j] z (W7 z p o i j a b) where
  mem:=by simp
  obj:=fun n h Z c hc=>by
    obtain ⟨⟨u,v,e1,_⟩,e2,⟨x,y,e3⟩,⟨m4,e4,_,d4⟩,⟨m5,e5,_,d5⟩⟩:=Z
    simp only [List.mem_cons,List.not_mem_nil,or_false] at hc
    rcases hc with rfl | rfl | rfl | rfl | rfl
    · exact ⟨_,e1,fun v q=>by cases (show Data.fields _=Data.cell v from q)⟩
    · exact ⟨_,e2,fun v q=>by cases (show Data.seq _ _=Data.cell v from q)⟩
    · exact ⟨_,e3,fun v q=>by cases (show Data.seq _ _=Data.cell v from q)⟩
    · exact ⟨m4,e4,fun v q=>by rw [d4] at q;cases q⟩
    · exact ⟨m5,e5,fun v q=>by rw [d5] at q;cases q⟩
  keep:=fun n h h' Z k=>by
    obtain ⟨⟨u,v,e1,l⟩,e2,⟨x,y,e3⟩,h4,h5⟩:=Z
    exact ⟨⟨u,v,k z (by simp) _ e1,l⟩,k p (by simp) _ e2,⟨x,y,k o (by simp) _ e3⟩,h4.at fun m e=>k i (by simp) m e,h5.at fun m e=>k j (by simp) m e⟩
  item:=by
    intro X hP hw hK hc n pins s σ H E I hf Z hg
    subst hP hw hK
    obtain ⟨xs,ys,x,y,q1,q2,hx,hy⟩:=hg
    obtain ⟨us,r1,p1,_⟩:=I.tuple q1
    obtain ⟨vs,r2,p2,_⟩:=I.tuple q2
    obtain ⟨u,hu,ru⟩:=r1.get hx
    obtain ⟨v,hv,rv⟩:=r2.get hy
    refine Aay D (Z.on (show s.heap.IsTuple a us.toArray from p1) (show s.heap.IsTuple b vs.toArray from p2)) (x:=u) (y:=v) (by simpa using hu) (by simpa using hv) fun g T Z' hT lT kk=>?_
    have nT:H T=none:=I.hok.fresh lT
    have I1:Inv X pins σ (upd H T (.tup [x,y])) { s with heap:=g }:=I.turnLay (ch:=[z,p,o,i,j]) (fun c m nc e=>by
      simp only [List.mem_cons,List.not_mem_nil,or_false,not_or] at nc
      exact kk c m nc.1 nc.2.2.1 nc.2.2.2.1 nc.2.2.2.2 e) hf lT ⟨by show 2≤sizeLine;decide,[u,v],.cons ru (.cons rv .nil),⟨_,hT,rfl,0,rfl⟩⟩
    refine ⟨_,rfl,?_⟩
    show wpAny (model X.prog X.w) X.A (pure ()) _ _ _
    refine wpAny_pure ⟨.ref T,_,I1,rfl,⟨T,x,y,rfl,nT,rfl,fun xs' h'=>by rw [I.tuple_inj h' q1];exact hx,fun ys' h'=>by rw [I.tuple_inj h' q2];exact hy⟩,Z'.tn,fun c hc=>?_⟩
    have e:c≠T:=fun z=>by
      obtain ⟨m,e,_⟩:=(by
        obtain ⟨⟨u,v,e1,_⟩,e2,⟨x,y,e3⟩,⟨m4,e4,_⟩,⟨m5,e5,_⟩⟩:=Z
        simp only [List.mem_cons,List.not_mem_nil,or_false] at hc
        rcases hc with rfl | rfl | rfl | rfl | rfl
        · exact ⟨_,e1,trivial⟩
        · exact ⟨_,e2,trivial⟩
        · exact ⟨_,e3,trivial⟩
        · exact ⟨_,e4,trivial⟩
        · exact ⟨_,e5,trivial⟩:∃ m,s.heap.get? c=some m∧True)
      exact absurd (Heap.lt_size e) (Nat.not_lt.mpr (by rw [z];exact lT))
    rw [Bg e]
    exact (hf c hc).1
  done:=by
    intro X hP hw hK hc n pins s σ H E I hf Z hg
    subst hP hw hK
    obtain ⟨xs,ys,q1,q2,hx⟩:=hg
    obtain ⟨us,r1,p1,_⟩:=I.tuple q1
    obtain ⟨vs,r2,p2,_⟩:=I.tuple q2
    have hl:=r1.length
    exact YW (I.ok.hd hc) D (Z.on (show s.heap.IsTuple a us.toArray from p1) (show s.heap.IsTuple b vs.toArray from p2)) (by simp;omega) fun g kk=>⟨rfl,I.turnAll (ch:=[z,p,o,i,j]) (fun c m nc e=>by
      simp only [List.mem_cons,List.not_mem_nil,or_false,not_or] at nc
      exact kk c m nc.1 nc.2.2.1 nc.2.2.2.1 nc.2.2.2.2 e) hf⟩
  self:=fun _ _ _ _ _ Z h=>by
    obtain ⟨u,v,e,_⟩:=Z.zip
    exact Uw e h
end
end L2
namespace L2
open PySem PySem.Spec PyProof.Rows PySem.SeqAt
section
variable {X:Cx} {tg:Expr}
noncomputable def AkI (K:PySem.W.Frag) (ta:TA):TI:=fun σ H R=>ta σ H fun vs H1=>∃ a b,vs=[.ref a,.ref b]∧(∃ xs,SqT K H1 a xs)∧(∃ ys,SqT K H1 b ys)∧R (Itz K a b) H1
theorem Afu {x:Str} {px:Pos} {a b:Expr} {ta:TA} {p pos:Pos} (hg:Gl X "zip") (hm:X.mg "zip"=none) (ha:PA X [a,b] ta) (hs:starEach [a,b] X.env=[(false,eval a X.env),(false,eval b X.env)]:=by rfl) (hs2:starEach [b] X.env=[(false,eval b X.env)]:=by rfl) :
    PI X (.Name x px) (.Call (.Name "zip" p) [a,b] [] pos) (AkI X.K ta):=by
  intro pins s σ H R I h
  refine Call_ (Mv I hg hm (u:=.type "zip") rfl (PyProof.Rows.callWith_type1 (thn (ha pos pins s σ H _ I h) fun us s1 ⟨vs,H1,I1,r1,q1⟩=>?_) (by rw [hs,hs2]) (by rw [hs2];rfl)))
  obtain ⟨c,d,e,⟨xs,hx⟩,⟨ys,hy⟩,q⟩:=q1
  subst e
  cases r1 with
  | cons r rr =>
    cases rr with
    | cons r' rr =>
      cases rr
      cases r;cases r'
      obtain ⟨us,_,p1,_⟩:=I1.tuple hx
      obtain ⟨ws,_,p2,_⟩:=I1.tuple hy
      refine Aab (show s1.heap.IsTuple c us.toArray from p1) (show s1.heap.IsTuple d ws.toArray from p2) fun g z pp o i j D Z new kk=>?_
      obtain ⟨u,v,e,_⟩:=Z.zip
      refine Uw e ⟨z,[z,pp,o,i,j],_,_,H1,rfl,I1.kept (t':=s1.toks) kk,Z5 D,Z.tn,fun b hb=>?_,q⟩
      exact I1.fpOk (new b hb) (I1.hok.fresh (new b hb))
noncomputable def ItN (K:PySem.W.Frag) (M:Hp) (J:It) (items:List Dt):Prop:=∀ H,Same M H →
  (∀ (k:Nat) d,items[k]? = some d→J.go k H∧∀ x H',J.yld k H x H'→Same H H'∧∀ G:List Addr,(∀ a∈G,H a≠none)→Same M (mask G H)→Rp K (mask G H') d x)∧J.stop items.length H
noncomputable def lIN (K:PySem.W.Frag) (ti:DTI):TI:=fun σ H R=>∃ B F O ρ,Rep K B F O H σ ρ∧ti ρ fun items=>∀ J H',Same H H'→ItN K (mask (F ++ O) H') J items→R J H'
structure DIN (X:Cx) (tg iter:Expr) (ti:DTI):Prop where
  mono:∀ {ρ Q Q'},(∀ d,Q d→Q' d)→ti ρ Q→ti ρ Q'
  pi:PI X tg iter (lIN X.K ti)
theorem Yg {K:PySem.W.Frag} {sl:List Nat} {ti:DTI} {dt:DTT} {de:DTE} (mi:∀ {ρ Q Q'},(∀ d,Q d→Q' d)→ti ρ Q→ti ρ Q') (mt:∀ {ρ Q Q'},(∀ d,Q d→Q' d)→dt ρ Q→dt ρ Q') (me:∀ {ρ Q Q'},(∀ d,Q d→Q' d)→de ρ Q→de ρ Q')
    (σ:St) (H:Hp) (Q:VK) (h:lE K (JX sl ti dt de) σ H Q):Ww sl (lIN K ti) (lT K dt) (lE K de) σ H Q:=by
  obtain ⟨B,F,O,ρ,R,h⟩:=h
  refine ⟨B,F,O,ρ,R,mi (fun items ⟨h1,h2,W,w0,st,fin⟩ J H1 s1 it=>?_) h⟩
  have R1:=R.same s1
  obtain ⟨vs,ds,ev,ed,rs⟩:=Jg R1 h2
  refine ⟨vs,ev,fun D hD=>?_⟩
  have nD:D∉F ++ O:=fun z=>R1.th D z hD
  refine ⟨fun i m acc H2=>m+i=items.length∧H2 D=some (.lst acc)∧acc.length≤i∧Same H1 H2∧∃ as,RpL K (mask (D :: (F ++ O)) H2) as acc∧W i as,⟨items.length,by omega,BP,Nat.le_refl _,Same.upd hD,[],RpL.nil,w0⟩,?_⟩
  rintro i m acc H2 ⟨hm,e2,hl,s2,as,ra,w⟩
  have sb:Same (mask (F ++ O) H1) H2:=fun a o e=>s2 a o (Cu e).2
  have sD:Same (mask (F ++ O) H1) (mask (D :: (F ++ O)) H2):=fun a o e=>by
    obtain ⟨q,e⟩:=Cu e
    rw [Bf fun z=>by
      rcases List.mem_cons.mp z with z | z
      · rw [z,hD] at e;cases e
      · exact q z]
    exact s2 a o e
  have th2:∀ a∈D :: (F ++ O),H2 a≠none:=fun a ha q=>by
    rcases List.mem_cons.mp ha with z | z
    · rw [z,e2] at q;cases q
    · have:=R1.th a z
      cases q':H1 a with
      | none=>exact this q'
      | some o=>rw [s2 a o q'] at q;cases q
  obtain ⟨go,stop⟩:=it H2 sb
  by_cases hlt:i < items.length
  · refine .inr ⟨(go i items[i] (by simp [hlt])).1,fun z H3 y=>?_⟩
    obtain ⟨s3,r⟩:=(go i items[i] (by simp [hlt])).2 z H3 y
    have r:=r (D :: (F ++ O)) th2 sD
    have e3:H3 D=some (.lst acc):=s3 _ _ e2
    have th:∀ a∈D :: (F ++ O),H3 a≠none:=fun a ha q=>by
      have:=th2 a ha
      cases q':H2 a with
      | none=>exact this q'
      | some o=>rw [s3 a o q'] at q;cases q
    have R3:=Rm th r ((rs.mono sD).mono s3.mask)
    have ei:some (En.is items[i]) :: ds.map (fun d=>some (En.is d))=inner sl ρ items[i]:=by unfold inner;rw [ed]
    rw [ei] at R3
    refine ⟨_,_,_,_,R3,mt (fun b q H4 s4=>?_) (st i _ as (by simp [hlt]) w)⟩
    cases b with
    | false =>
      refine ⟨m - 1,by omega,by omega,s4 _ _ e3,by omega,(s2.trans s3).trans s4,as,(ra.mono s3.mask).mono s4.mask,q⟩
    | true =>
      refine ⟨_,_,_,_,R3.same s4,me (fun e q v5 H5 s5 r5=>?_) q⟩
      have e5:H5 D=some (.lst acc):=s5 _ _ (s4 _ _ e3)
      have hz:acc.length < sizeLine:=by omega
      have s6:Same (mask (D :: (F ++ O)) H5) (mask (D :: (F ++ O)) (upd H5 D (.lst (acc ++ [v5])))):=fun a o q=>by
        obtain ⟨n,q⟩:=Cu q
        rw [Bf n,Bg fun z=>n (by rw [z];exact List.mem_cons_self)];exact q
      have em:mask (D :: (F ++ O) ++ []) H5=mask (D :: (F ++ O)) H5:=by rw [List.append_nil]
      rw [em] at r5
      refine ⟨e5,hz,m - 1,by omega,by omega,BP,by simp;omega,fun a o q=>?_,as ++ [e],((((ra.mono s3.mask).mono s4.mask).mono s5.mask).append (RpL.cons r5 RpL.nil)).mono s6,q⟩
      rw [Bg (BK q hD)]
      exact s5 _ _ (s4 _ _ (s3 _ _ (s2 a o q)))
  · have e:i=items.length:=by omega
    subst e
    refine .inl ⟨stop,fin as (by rw [←ra.len];exact hl) w (.ref D) H2 (s1.trans s2) (K8 ⟨D,acc,rfl,(by rw [Bf nD];exact e2),ra.mono (G7 fun a h=>List.mem_cons_of_mem _ h)⟩)⟩
end
section
variable {X:Cx} {elt iter:Expr} {x:Str} {N:List Str} {sl:List Nat} {scope:Scope} {px pos:Pos}
theorem Aan {ti:DTI} {de:DTE} {y:Str} {py spos:Pos} (i:Nat) (hN:X.N.Nodup) (S:DX X scope x N sl) (hc:X.calm=true) (hi:DIN X (.Name x px) iter ti) (he:∀ cl C s₀ H₀ ex,DE (Bk X scope (x :: N) cl C s₀ H₀ ex) elt de)
    (hyi:X.N[i]? = some y:=by rfl) (hy:X.env.scope.names.lookup y=some .local:=by rfl) (hsw:swapsWith (.ListComp elt [⟨.Name x px,iter,[],0⟩] scope pos) (some (.Name y py)) spos.line X.env=pure true:=by rfl) (hs:∀ x,foldedSetIterable iter X.env x=pure x:=by intro _;rfl) :
    DS X (.Assign [.Name y py] (.ListComp elt [⟨.Name x px,iter,[],0⟩] scope pos) spos) (W4 i sl ti KD de) where
  mono:=fun hd h=>JD (ti:=ti) hi.mono (fun d q=>hd.nx _ q) h
  ps:=(Wt (tt:=lT X.K KD) (te:=lE X.K de) S hc hN hyi hy hi.pi (fun cl C s₀ H₀ ex=>Ry.pts) (fun cl C s₀ H₀ ex=>(he cl C s₀ H₀ ex).pe) hsw hs).imp fun D σ H ⟨B,F,O,ρ,R,h⟩ =>
    Yg (ti:=ti) (dt:=KD) (de:=de) hi.mono (fun hq h=>hq _ h) (he [] 0 X.s₀ X.H₀ []).mono σ H _ ⟨B,F,O,ρ,R,JD (ti:=ti) hi.mono (fun d q v H' s r=>q O _ H' ((R.same s).set i r)) h⟩
noncomputable def Ac0 (tl:DTA):DTI:=fun ρ Q=>tl ρ fun ds=>∃ xs ys,ds=[.tup xs,.tup ys]∧xs.length=ys.length∧Q ((xs.zip ys).map fun p=>.tup [p.1,p.2])
theorem Ae7 {a b:Expr} {p:Pos} {tl:DTA} (hg:Gl X "zip") (hm:X.mg "zip"=none) (ha:DA X [a,b] tl) (hs:starEach [a,b] X.env=[(false,eval a X.env),(false,eval b X.env)]:=by rfl) (hs2:starEach [b] X.env=[(false,eval b X.env)]:=by rfl) :
    DIN X (.Name x px) (.Call (.Name "zip" p) [a,b] [] pos) (Ac0 tl) where
  mono:=fun hq h=>ha.mono (fun ds ⟨xs,ys,e,l,h⟩=>⟨xs,ys,e,l,hq _ h⟩) h
  pi:=(Afu hg hm ha.pa hs hs2).imp fun σ H R ⟨B,F,O,ρ,RR,h⟩=>⟨B,F,O,ρ,RR,ha.mono (fun ds ⟨xs,ys,e,l,q⟩ vs H1 s1 r1=>by
    subst e
    obtain ⟨v1,w1,rfl,ra,r1⟩:=Aw.mp r1
    obtain ⟨v2,w2,rfl,rb,r1⟩:=Aw.mp r1
    obtain rfl:=BR.mp r1
    obtain ⟨c,us,rfl,hs1,l1⟩:=Dn.mp ra
    obtain ⟨d,ws,rfl,hs2,l2⟩:=Dn.mp rb
    refine ⟨c,d,rfl,⟨us,Bv.seqT hs1⟩,⟨ws,Bv.seqT hs2⟩,q _ H1 s1 fun H2 s2=>⟨fun k dd e=>?_,us,ws,s2.seqT hs1,s2.seqT hs2,?_⟩⟩
    · rw [List.getElem?_map] at e
      cases e':(xs.zip ys)[k]? with
      | none=>rw [e'] at e;cases e
      | some pr =>
        rw [e'] at e;cases e
        obtain ⟨e1,e2⟩:=List.getElem?_zip_eq_some.mp e'
        obtain ⟨u,hu,ru⟩:=l1.get e1
        obtain ⟨v,hv,rv⟩:=l2.get e2
        refine ⟨⟨us,ws,u,v,s2.seqT hs1,s2.seqT hs2,hu,hv⟩,?_⟩
        rintro _ H3 ⟨T,y1,y2,rfl,nT,rfl,f1,f2⟩
        have g1:=f1 us (s2.seqT hs1)
        have g2:=f2 ws (s2.seqT hs2)
        rw [hu] at g1;cases g1
        rw [hv] at g2;cases g2
        refine ⟨Same.upd nT,fun G hG sM=>?_⟩
        have nG:T∉G:=fun z=>hG T z nT
        have sm:Same (mask G H2) (mask G (upd H2 T (.tup [u,v]))):=(Same.upd nT).mask
        exact Dn.mpr ⟨T,[u,v],rfl,.inl (.inl (by rw [Bf nG,BP])),RpL.cons ((ru.mono sM).mono sm) (RpL.cons ((rv.mono sM).mono sm) RpL.nil)⟩
    · rw [List.length_map,List.length_zip,l1.len]
      omega) h⟩
noncomputable def Xi (tl:DTA):DTE:=fun ρ Q=>tl ρ fun ds=>∃ ks,ds=[.lst ks]∧Q (.tup ks)
theorem Rj {a:Expr} {tl:DTA} {p:Pos} (hm:X.mg "tuple"=none) (ha:DA X [a] tl) (hg:Gl X "tuple":=by rfl) (he:starEach [a] X.env=(false,eval a X.env) :: starEach [] X.env:=by rfl) (hpl:(backTo pos (starEach [] X.env)).any (·.1)=false:=by rfl) :
    DE X (.Call (.Name "tuple" p) [a] [] pos) (Xi tl) where
  mono:=fun hq h=>ha.mono (fun ds ⟨ks,e,q⟩=>⟨ks,e,hq _ q⟩) h
  pe:=(Xn Qx hg hm rfl ha.pa (he:=he) (hpl:=hpl)).imp fun σ H Q ⟨B,F,O,ρ,R,h⟩=>⟨B,F,O,ρ,R,ha.mono (fun ds ⟨ks,e,q⟩ vs H1 s1 r1=>by
    subst e
    obtain ⟨v1,w1,rfl,ra,r1⟩:=Aw.mp r1
    obtain rfl:=BR.mp r1
    obtain ⟨c,us,rfl,hs,hl⟩:=Gh ra
    refine ⟨c,us,rfl,.inl ⟨Bv.seq hs,fun l hn=>?_⟩⟩
    have nl:l∉F ++ O:=fun z=>(R.same s1).th l z hn
    exact q _ _ (s1.trans (Same.upd hn)) (Dn.mpr ⟨l,us,rfl,.inl (.inl (Lb nl)),hl.mono (Same.upd hn).mask⟩)) h⟩
end
end L2
namespace L2
open PySem PySem.Spec PyProof.Rows
section
variable {prog:Program} {w:World} {A:Around}
theorem RK {E:Value→Shared→Prop} {s:Shared} {x y:Value} {Q:Value→Shared→Prop}
    (h:wpAny (model prog w) A.in1 (pyIter (.ref s.heap.objs.size)) (fun it s2=>∃ I fp wr n P St bt,it=.ref I∧Walks prog w A.in1 I fp wr n P St∧St 0 s2.heap∧(∀ b∈fp,b < s2.heap.objs.size)∧0 < n ∧
      (∀ h1:Heap,(∀ b o,s2.heap.get? b=some o→h1.get? b=some o)→Sx prog w A.in1 wr s2.heap.objs.size h1 P bt) ∧
      ∀ v h' tk,P (argBest bt (n - 1)) v→(∀ b o,b∉wr→s2.heap.get? b=some o→h'.get? b=some o)→Q v { s2 with heap:=h',toks:=tk }) E { s with heap:=s.heap.push { cls:=.type "tuple",data:=.seq #[x,y] } }) :
    wpAny (model prog w) A (call (.builtin "min") [x,y]) Q E s:=by
  refine call_function_tree F.kind_min F.plain_min F.entry_min (F.args_min2 _ _) ?_;show wpAny _ A.in1 (Builtin.Builtins.bindParams "min" ["key","default"] 0 ⟨[],[]⟩ >>= _) _ _ s
  refine wpAny_bind (wpAny_of_eq (show Builtin.Builtins.bindParams "min" ["key","default"] 0 ⟨[],[]⟩=pure [none,none] from rfl) ?_);show wpAny _ A.in1 (newTuple [x,y] >>= _) _ _ s
  refine wpAny_bind (wpAny_newObj_type ?_);refine wpAny_bind (wpAny_mono h (fun it s2 h2=>?_) fun _ _ z=>z);obtain ⟨I,fp,wr,n,P,St,bt,rfl,W,st,low,n0,less,fin⟩:=h2
  refine wpAny_bind (wpAny_newObj_type ?_);rw [Rw]
  have off:s2.heap.objs.size∉fp:=fun z=>Nat.lt_irrefl _ (low _ z)
  refine wpAny_pure ⟨plainId_quiet F.plain_min_loop _,MN W (less _ fun b o e=>Heap.get?_push_of_some _ e) off n0 (W.frame _ _ _ st fun b _ o e=>Heap.get?_push_of_some _ e) (Heap.get?_push_size _ rfl) fun v h' tk hv k=>?_⟩
  exact fin v h' tk hv fun b o nb e=>k b o nb (Nat.ne_of_lt (Heap.lt_size e)) (Heap.get?_push_of_some _ e)
end
variable {X:Cx}
noncomputable def AdP (K:PySem.W.Frag):List V→Hp→VK→Prop:=fun xs H Q=>∃ p q ns ms,xs=[.ref p,.ref q]∧SqT K H p (ns.map V.int)∧SqT K H q (ms.map V.int)∧Q (if HT.lexLt ms ns=true then .ref q else .ref p) H
theorem Vw (hc:X.calm=true) (hu:X.A.in1.units < cLine):Ju X (.builtin "min") (AdP X.K):=by
  intro pins s σ H xs us Q I r h
  obtain ⟨p,q,ns,ms,rfl,hp,hq,k⟩:=h
  obtain ⟨u,u',rfl,r1,r2⟩:=vals2 r
  cases r1;cases r2
  obtain ⟨i1,v1,t1,_⟩:=I.tuple hp
  obtain ⟨i2,v2,t2,_⟩:=I.tuple hq
  have n1:=intsAre_of v1
  have n2:=intsAre_of v2
  have T0:(s.heap.push { cls:=.type "tuple",data:=.seq #[.ref p,.ref q] }).IsTuple s.heap.objs.size #[.ref p,.ref q]:=⟨_,Heap.get?_push_size _ rfl,rfl,0,rfl⟩
  have z1:(s.heap.push { cls:=.type "tuple",data:=.seq #[.ref p,.ref q] }).objs.size=s.heap.objs.size+1:=Heap.size_push ..
  refine RK (wpAny_pyIter_tuple (s:={ s with heap:=s.heap.push { cls:=.type "tuple",data:=.seq #[.ref p,.ref q] } }) T0 ?_)
  refine ⟨_,[_,s.heap.objs.size],[_],2,fun i v=>(#[Value.ref p,Value.ref q]:Array Value)[i]? = some v,_,fun i j=>HT.lexLt (if i=0 then ns else ms) (if j=0 then ns else ms),rfl,Walks.tuple (A:=X.A.in1) (I.ok.hd hc) _ s.heap.objs.size (by show s.heap.objs.size≠_;rw [z1];exact Nat.ne_of_lt (Nat.lt_succ_self _)) #[Value.ref p,Value.ref q],⟨⟨_,Heap.get?_push_size _ rfl,rfl,rfl⟩,T0.push _⟩,?_,by decide,?_,?_⟩
  · intro b hb
    refine Nat.lt_of_lt_of_eq ?_ ((Heap.size_push ..).trans (congrArg (· + 1) z1)).symm
    rcases List.mem_cons.mp hb with hb | hb
    · rw [hb.trans z1];exact Nat.lt_succ_self _
    · rw [List.mem_singleton.mp hb];exact Nat.lt_succ_of_lt (Nat.lt_succ_self _)
  · intro h1 k1 i j x y s' Q' E' kept hx hy q'
    have go:∀ a o,s.heap.get? a=some o→s'.heap.get? a=some o:=fun a o eo=>by
      have la:=Heap.lt_size eo
      refine kept a o (fun z=>?_) (fun z=>?_) (k1 a o (Heap.get?_push_of_some _ (Heap.get?_push_of_some _ eo)))
      · have e2:a=s.heap.objs.size+1:=(List.mem_singleton.mp z).trans z1
        rw [e2] at la
        exact Nat.lt_irrefl _ (Nat.lt_of_succ_lt la)
      · have e2:a=s.heap.objs.size+1+1:=z.trans ((Heap.size_push ..).trans (congrArg (· + 1) z1))
        rw [e2] at la
        exact Nat.lt_irrefl _ (Nat.lt_of_succ_lt (Nat.lt_of_succ_lt la))
    have fact:∀ (i:Nat) (x:Value),(#[Value.ref p,Value.ref q]:Array Value)[i]? = some x→∃ a its2,x=.ref a∧IsTup s'.heap a its2∧IntsAre its2.toList (if i=0 then ns else ms):=fun i x hx=>by
      match i,hx with
      | 0,hx =>
        cases hx
        obtain ⟨o,eo,rest⟩:=t1
        exact ⟨p,i1.toArray,rfl,⟨o,go p o eo,rest⟩,by simpa using n1⟩
      | 1,hx =>
        cases hx
        obtain ⟨o,eo,rest⟩:=t2
        exact ⟨q,i2.toArray,rfl,⟨o,go q o eo,rest⟩,by simpa using n2⟩
      | i+2,hx=>simp at hx
    obtain ⟨a,j1,rfl,t1',n1'⟩:=fact i x hx
    obtain ⟨b,j2,rfl,t2',n2'⟩:=fact j y hy
    exact HT.Kw t1' t2' n1' n2' hu q'
  · intro v h' tk hv kk
    have e:argBest (fun i j=>HT.lexLt (if i=0 then ns else ms) (if j=0 then ns else ms)) (2 - 1)=if HT.lexLt ms ns=true then 1 else 0:=by
      show (if HT.lexLt (if 1=0 then ns else ms) (if argBest _ 0=0 then ns else ms)=true then 1 else argBest _ 0)=_
      rfl
    rw [e] at hv
    have I1:Inv X pins σ H { s with heap:=h',toks:=tk }:=I.kept fun b o eo=>kk b o (fun z=>by
      have e2:b=s.heap.objs.size+1:=(List.mem_singleton.mp z).trans z1
      have e3:=Heap.lt_size eo
      rw [e2] at e3
      exact Nat.lt_irrefl _ (Nat.lt_of_succ_lt e3)) (Heap.get?_push_of_some _ (Heap.get?_push_of_some _ eo))
    by_cases hl:HT.lexLt ms ns=true
    · rw [if_pos hl] at hv k
      cases hv
      exact ⟨.ref q,H,I1,rfl,k⟩
    · rw [if_neg hl] at hv k
      cases hv
      exact ⟨.ref p,H,I1,rfl,k⟩
noncomputable def Yr:DL:=fun ds Q=>∃ ns ms:List Int,ds=[Lr ns,Lr ms]∧Q (Lr (if HT.lexLt ms ns=true then ms else ns))
theorem Zi {K:PySem.W.Frag}:Tt K (AdP K) Yr where
  mono:=fun hq ⟨ns,ms,e,h⟩=>⟨ns,ms,e,hq _ h⟩
  ok:=fun O H ds xs Q _ r ⟨ns,ms,e,h⟩=>by
    subst e
    obtain ⟨x,r',rfl,ra,r3⟩:=Aw.mp r
    obtain ⟨y,r',rfl,rb,r3⟩:=Aw.mp r3
    obtain rfl:=BR.mp r3
    obtain ⟨a,us,rfl,ha,hla⟩:=Dn.mp ra
    obtain ⟨b,vs,rfl,hb,hlb⟩:=Dn.mp rb
    obtain rfl:=Nr hla
    obtain rfl:=Nr hlb
    refine ⟨a,b,ns,ms,rfl,(Bv (O:=O) (H:=H)).seqT ha,(Bv (O:=O) (H:=H)).seqT hb,?_⟩
    by_cases hl:HT.lexLt ms ns=true
    · rw [if_pos hl] at h ⊢
      exact h _ H (Same.refl H) rb
    · rw [if_neg hl] at h ⊢
      exact h _ H (Same.refl H) ra
theorem Ab5 {a b:Expr} {tl:DTA} {p pos:Pos} (hm:X.mg "min"=none) (hu:X.A.in1.units < cLine) (ha:DA X [a,b] tl) (hc:X.calm=true:=by rfl) (hg:Gl X "min":=by rfl) (hv:bootBuiltins "min"=some (.builtin "min"):=by rfl) (he:starEach [a,b] X.env=(false,eval a X.env) :: starEach [b] X.env:=by rfl)
    (hpl:(backTo pos (starEach [b] X.env)).any (·.1)=false:=by rfl):DE X (.Call (.Name "min" p) [a,b] [] pos) (dCB Yr tl):=QF (Vw hc hu) Zi hg hm hv ha (he:=he) (hpl:=hpl)
end L2
namespace L2
open PySem PySem.Spec PyProof.Rows
variable {X:Cx}
noncomputable def AhR (K:PySem.W.Frag):List V→Hp→VK→Prop:=fun xs H Q=>∃ p ns,xs=[.ref p]∧SqL K H p (List.map V.int ns)∧Q (.int ns.sum) H
theorem Xx (hc:X.calm=true):Ju X (.builtin "sum") (AhR X.K):=by
  intro pins s σ H xs us Q I r h
  obtain ⟨p,ns,rfl,hl,q⟩:=h
  obtain ⟨u,rfl,r1⟩:=vals1 r
  cases r1
  obtain ⟨its,rv,pl,_⟩:=I.list hl
  have n1:IntsAre its ns:=intsAre_of rv
  obtain ⟨ys,hy⟩:=n1.allInts.items
  have hn:numsOf its.toArray.toList=ns:=by rw [show its.toArray.toList=its from rfl,n1.numsOf]
  have li:=pl.isList
  rw [hy] at li hn
  rw [nums_intItems] at hn
  have lt:p < s.heap.objs.size:=by obtain ⟨_,e,_⟩:=li;exact Heap.lt_size e
  have W:=(Walks.list (prog:=X.prog) (w:=X.w) (A:=X.A.in1) (I.ok.hd hc) s.heap.objs.size p (Nat.ne_of_lt lt) (intItems ys)).toS
  have hsz:(intItems ys).size=ys.size:=by simp [intItems]
  rw [hsz] at W
  refine call_sum_walkAnyS (wpAny_pyIter_list li ?_)
  refine ⟨s.heap.objs.size,_,_,_,_,_,_,numAt ys,rfl,W,⟨⟨_,Heap.get?_push_size _ rfl,rfl,rfl⟩,li.push _⟩,fun b hb=>?_,fun i v hP=>intItems_at hP,fun s' t' hm=>?_⟩
  · show b < (s.heap.push _).objs.size
    rw [Heap.size_push]
    rcases List.mem_cons.mp hb with rfl | hb
    · exact Nat.lt_succ_self _
    · have e:b=p:=by simpa using hb
      rw [e]
      exact Nat.lt_succ_of_lt lt
  · obtain ⟨h',g',d',tk',os'⟩:=s'
    have e1:g'=s.gens:=hm.gens
    have e2:d'=s.drawn:=hm.drawn
    have e3:os'=s.os:=hm.os
    subst e1 e2 e3
    have I1:Inv X pins σ H { s with heap:=h',toks:=tk' }:=I.kept fun b o e=>hm.heap b o (fun hb=>absurd (Heap.lt_size e) ((List.mem_singleton.mp hb) ▸ Nat.lt_irrefl _)) (Heap.get?_push_of_some _ e)
    rw [preSum_eq,List.take_of_length_le (by simp),hn]
    exact ⟨.int ns.sum,H,I1,⟨_,rfl⟩,q⟩
noncomputable def Ae3:DL:=fun ds Q=>∃ ns:List Int,ds=[.lst (ns.map Dt.int)]∧Q (.int ns.sum)
theorem Ab8 {K:PySem.W.Frag}:Tt K (AhR K) Ae3 where
  mono:=fun hq ⟨ns,e,h⟩=>⟨ns,e,hq _ h⟩
  ok:=fun O H ds xs Q _ r ⟨ns,e,h⟩=>by
    subst e
    obtain ⟨x,r',rfl,ra,r3⟩:=Aw.mp r
    obtain rfl:=BR.mp r3
    obtain ⟨a,us,rfl,ha,hla⟩:=Gh ra
    obtain rfl:=Nr hla
    exact ⟨a,ns,rfl,(Bv (O:=O) (H:=H)).seq ha,h _ H (Same.refl H) (Bp.mpr rfl)⟩
theorem AaH {a:Expr} {tl:DTA} {p pos:Pos} (hm:X.mg "sum"=none) (ha:DA X [a] tl) (hc:X.calm=true:=by rfl) (hg:Gl X "sum":=by rfl) (hv:bootBuiltins "sum"=some (.builtin "sum"):=by rfl) (he:starEach [a] X.env=(false,eval a X.env) :: starEach [] X.env:=by rfl)
    (hpl:(backTo pos (starEach [] X.env)).any (·.1)=false:=by rfl):DE X (.Call (.Name "sum" p) [a] [] pos) (dCB Ae3 tl):=QF (Xx hc) Ab8 hg hm hv ha (he:=he) (hpl:=hpl)
end L2
namespace My
open PySem L2
noncomputable abbrev S7:DSp:=AcY
noncomputable abbrev I4:=Int × Int × Int × Int
noncomputable abbrev I2:=Int × Int
noncomputable abbrev t4 (p:I4):Dt:=T4 p.1 p.2.1 p.2.2.1 p.2.2.2
noncomputable abbrev t2 (p:I2):Dt:=T2 p.1 p.2
noncomputable def B4 (n:Nat) (p:I4):Prop:=Bt n p.1∧Bt n p.2.1∧Bt n p.2.2.1∧Bt n p.2.2.2
noncomputable def B2 (n:Nat) (p:I2):Prop:=Bt n p.1∧Bt n p.2
noncomputable def det (p:I4):Int:=p.1*p.2.2.2 - p.2.1*p.2.2.1
noncomputable def Ho (t:I4) (p:I2):I2:=(t.1*p.1+t.2.1*p.2,t.2.2.1*p.1+t.2.2.2*p.2)
noncomputable def Ar (a b:I4):I4:=(a.1*b.1+a.2.1*b.2.2.1,a.1*b.2.1+a.2.1*b.2.2.2,a.2.2.1*b.1+a.2.2.2*b.2.2.1,a.2.2.1*b.2.1+a.2.2.2*b.2.2.2)
noncomputable def Av (t:I4):I4:=(t.2.2.2,-t.2.1,-t.2.2.1,t.1)
theorem B4.le {n m:Nat} {t:I4} (h:B4 n t) (l:n≤m):B4 m t:=⟨h.1.le l,h.2.1.le l,h.2.2.1.le l,h.2.2.2.le l⟩
theorem B2.le {n m:Nat} {t:I2} (h:B2 n t) (l:n≤m):B2 m t:=⟨h.1.le l,h.2.le l⟩
theorem B4.back {n:Nat} {t:I4} (h:B4 n t):B4 n (Av t):=⟨h.2.2.2,h.2.1.neg,h.2.2.1.neg,h.1⟩
theorem B2.led {n m:Nat} {t:I4} {p:I2} (h:B4 n t) (q:B2 m p):B2 (n+m+1) (Ho t p) :=
  ⟨((h.1.mul q.1).add (h.2.1.mul q.2)).le (by omega),((h.2.2.1.mul q.1).add (h.2.2.2.mul q.2)).le (by omega)⟩
theorem B4.then {n m:Nat} {t u:I4} (h:B4 n t) (q:B4 m u):B4 (n+m+1) (Ar t u) :=
  ⟨((h.1.mul q.1).add (h.2.1.mul q.2.2.1)).le (by omega),((h.1.mul q.2.1).add (h.2.1.mul q.2.2.2)).le (by omega),((h.2.2.1.mul q.1).add (h.2.2.2.mul q.2.2.1)).le (by omega),((h.2.2.1.mul q.2.1).add (h.2.2.2.mul q.2.2.2)).le (by omega)⟩
theorem Et {t:I4}:det (Av t)=det t:=by obtain ⟨a,b,c,d⟩:=t;simp only [det,Av];grind
theorem Cm {t u:I4}:det (Ar t u)=det t*det u:=by obtain ⟨a,b,c,d⟩:=t;obtain ⟨e,f,g,h⟩:=u;simp only [det,Ar];grind
theorem JH {t:I4} (h:det t=1):Ar t (Av t)=(1,0,0,1):=by
  obtain ⟨a,b,c,d⟩:=t
  simp only [det,Ar,Av,Prod.mk.injEq] at *
  refine ⟨?_,?_,?_,?_⟩ <;> grind
theorem QB {t:I4} (h:det t=1):Ar (Av t) t=(1,0,0,1):=by
  obtain ⟨a,b,c,d⟩:=t
  simp only [det,Ar,Av,Prod.mk.injEq] at *
  refine ⟨?_,?_,?_,?_⟩ <;> grind
theorem Ahd {s t:I2}:Dt.eq (t2 s) (t2 t)=decide (s=t):=by
  obtain ⟨a,b⟩:=s
  obtain ⟨e,f⟩:=t
  simp only [WR,VN,V3,M6,Prod.mk.injEq,Bool.and_true]
  simp only [Bool.decide_and]
noncomputable abbrev I3:=Int × Int × Int
noncomputable abbrev t3 (p:I3):Dt:=T3 p.1 p.2.1 p.2.2
noncomputable def B3 (n:Nat) (p:I3):Prop:=Bt n p.1∧Bt n p.2.1∧Bt n p.2.2
theorem B3.le {n m:Nat} {t:I3} (h:B3 n t) (l:n≤m):B3 m t:=⟨h.1.le l,h.2.1.le l,h.2.2.le l⟩
noncomputable def meas (f:I3):Int:=f.2.1*f.2.1 - 4*f.1*f.2.2
noncomputable def val (f:I3) (p:I2):Int:=f.1*p.1*p.1+f.2.1*p.1*p.2+f.2.2*p.2*p.2
noncomputable def mid (f:I3) (l r:I2):Int:=2*f.1*l.1*r.1+f.2.1*(l.1*r.2+r.1*l.2)+2*f.2.2*l.2*r.2
noncomputable def mov (f:I3) (t:I4):I3:=(val f (t.1,t.2.2.1),mid f (t.1,t.2.2.1) (t.2.1,t.2.2.2),val f (t.2.1,t.2.2.2))
theorem Ajf {f:I3} {t:I4} {p:I2}:val (mov f t) p=val f (Ho t p):=by
  obtain ⟨a,b,c⟩:=f;obtain ⟨e,g,h,i⟩:=t;obtain ⟨x,y⟩:=p
  simp only [val,mov,mid,Ho];grind
theorem Bs {f:I3} {t:I4} (h:det t=1):meas (mov f t)=meas f:=by
  obtain ⟨a,b,c⟩:=f;obtain ⟨e,g,i,j⟩:=t
  simp only [det] at h
  have e1:meas (mov (a,b,c) (e,g,i,j))=(e*j - g*i)*(e*j - g*i)*meas (a,b,c):=by simp only [meas,mov,val,mid];grind
  rw [e1,h];simp
theorem Bj {f:I3} {t u:I4}:mov (mov f t) u=mov f (Ar t u):=by
  obtain ⟨a,b,c⟩:=f;obtain ⟨e,g,i,j⟩:=t;obtain ⟨k,l,m,n⟩:=u
  simp only [mov,val,mid,Ar,Prod.mk.injEq]
  refine ⟨?_,?_,?_⟩ <;> grind
theorem Dp {f:I3}:mov f (1,0,0,1)=f:=by
  obtain ⟨a,b,c⟩:=f
  simp only [mov,val,mid,Prod.mk.injEq]
  refine ⟨?_,?_,?_⟩ <;> grind
theorem Ahk {s t:I3}:Dt.eq (t3 s) (t3 t)=decide (s=t):=by
  obtain ⟨a,b,c⟩:=s
  obtain ⟨e,f,g⟩:=t
  simp only [WR,VN,V3,M6,Prod.mk.injEq,Bool.and_true]
  simp only [Bool.decide_and]
theorem B3.mov {f:I3} {t:I4} {n m:Nat} (hf:B3 n f) (ht:B4 m t):B3 (n+m+m+5) (mov f t):=by
  obtain ⟨a,b,c⟩:=f;obtain ⟨e,g,i,j⟩:=t
  obtain ⟨ha,hb,hc⟩:=hf
  obtain ⟨he,hg,hi,hj⟩:=ht
  have h2:Bt 2 2:=Bt.of_abs (by decide)
  refine ⟨?_,?_,?_⟩
  · exact ((((ha.mul he).mul he).add ((hb.mul he).mul hi)).add ((hc.mul hi).mul hi)).le (by omega)
  · exact (((((h2.mul ha).mul he).mul hg).add (hb.mul ((he.mul hj).add (hg.mul hi)))).add (((h2.mul hc).mul hi).mul hj)).le (by omega)
  · exact ((((ha.mul hg).mul hg).add ((hb.mul hg).mul hj)).add ((hc.mul hj).mul hj)).le (by omega)
noncomputable def Sq (n r:Int):Prop:=0≤r∧r*r≤n∧n < (r+1)*(r+1)
theorem Sq.uniq {n r s:Int} (a:Sq n r) (b:Sq n s):r=s:=by
  obtain ⟨a0,a1,a2⟩:=a
  obtain ⟨b0,b1,b2⟩:=b
  rcases Int.lt_trichotomy r s with h | h | h
  · have:=Int.mul_le_mul (show r+1≤s by omega) (show r+1≤s by omega) (by omega) b0
    omega
  · exact h
  · have:=Int.mul_le_mul (show s+1≤r by omega) (show s+1≤r by omega) (by omega) a0
    omega
theorem Rk {n g:Int} (hn:0≤n) (hg:0 < g):n < ((g+n / g) / 2+1)*((g+n / g) / 2+1):=by
  have h1:n < g*(n / g)+g:=Int.lt_mul_ediv_self_add hg
  have h0:0≤n / g:=Int.ediv_nonneg hn (by omega)
  generalize n / g=q at *
  have hb:g+q≤2*((g+q) / 2)+1:=by omega
  have hb0:0≤(g+q) / 2:=by omega
  generalize (g+q) / 2=b at *
  have z1:0≤(g - q - 1)*(g - q - 1):=by
    rcases Int.le_total 0 (g - q - 1) with h | h
    · exact Int.mul_nonneg h h
    · exact Int.mul_nonneg_of_nonpos_of_nonpos h h
  have z2:(g+q+1)*(g+q+1)=(g - q - 1)*(g - q - 1)+4*(g*q+g):=by grind
  have z3:(g+q+1)*(g+q+1)≤(2*(b+1))*(2*(b+1)):=Int.mul_le_mul (by omega) (by omega) (by omega) (by omega)
  have z4:(2*(b+1))*(2*(b+1))=4*((b+1)*(b+1)):=by grind
  omega
theorem Vo {n g:Int} (hg:0 < g) (h:g≤(g+n / g) / 2):g*g≤n:=by
  have h1:g*(n / g)≤n:=Int.mul_ediv_self_le (by omega)
  have h2:g≤n / g:=by omega
  have:=Int.mul_le_mul_of_nonneg_left h2 (show 0≤g by omega)
  omega
theorem T5 {n g:Int} (hg:0 < g) (h:n < g*g):(g+n / g) / 2 < g:=by
  have h2:n / g < g:=Int.ediv_lt_of_lt_mul hg (by rw [Int.mul_comm] at h;exact h)
  omega
theorem Vq {n g:Int} (hn:1≤n) (hg:0 < g):0 < (g+n / g) / 2:=by
  have h0:0≤n / g:=Int.ediv_nonneg (by omega) (by omega)
  rcases Int.lt_or_le g 2 with h | h
  · have:g=1:=by omega
    subst this
    rw [Int.ediv_one];omega
  · omega
theorem Ua {n:Int} (hn:0≤n):n < (1*2 ^ ((((Builtin.Int.intBits n:Nat):Int)+1).fdiv 2).toNat+1)*(1*2 ^ ((((Builtin.Int.intBits n:Nat):Int)+1).fdiv 2).toNat+1):=by
  have h1:n.natAbs < 2 ^ Builtin.Int.intBits n:=intBits_le_iff.mp (Nat.le_refl _)
  generalize Builtin.Int.intBits n=b at *
  have e:((((b:Nat):Int)+1).fdiv 2).toNat=(b+1) / 2:=by
    rw [Int.fdiv_eq_ediv_of_nonneg _ (by decide)];omega
  rw [e]
  generalize hk:(b+1) / 2=k
  have h2:2 ^ b≤2 ^ k*2 ^ k:=by rw [←Nat.pow_add];exact Nat.pow_le_pow_right (by decide) (by omega)
  have h3:n < ((2 ^ k*2 ^ k:Nat):Int):=by omega
  have h4:((2 ^ k*2 ^ k:Nat):Int)=(2 ^ k:Int)*2 ^ k:=by push_cast;rfl
  rw [h4] at h3
  have h5:(0:Int)≤2 ^ k:=Int.pow_nonneg (by decide)
  generalize (2 ^ k:Int)=z at *
  have:(1*z+1)*(1*z+1)=z*z+2*z+1:=by grind
  omega
theorem MP {n:Int} (h:Bt 4000 n):Vz 1 ((((Builtin.Int.intBits n:Nat):Int)+1).fdiv 2)∧Bt 2001 (1*2 ^ ((((Builtin.Int.intBits n:Nat):Int)+1).fdiv 2).toNat)∧0 < (1*2 ^ ((((Builtin.Int.intBits n:Nat):Int)+1).fdiv 2).toNat:Int):=by
  have hb:Builtin.Int.intBits n≤4000:=intBits_le_iff.mpr h
  generalize Builtin.Int.intBits n=b at *
  rw [Int.fdiv_eq_ediv_of_nonneg _ (by decide)]
  refine ⟨⟨by omega,by omega,by decide⟩,?_,?_⟩
  · have e:(((b:Int)+1) / 2).toNat≤2000:=by omega
    generalize (((b:Int)+1) / 2).toNat=k at *
    unfold Bt
    rw [Int.one_mul,Int.natAbs_pow]
    exact Nat.pow_lt_pow_right (by decide) (by omega)
  · rw [Int.one_mul]
    exact Int.pow_pos (by decide)
theorem Td {n g:Int} (hg:0 < g):(g+n.fdiv g).fdiv 2=(g+n / g) / 2:=by
  rw [Int.fdiv_eq_ediv_of_nonneg _ (by decide),Int.fdiv_eq_ediv_of_nonneg _ (by omega)]
noncomputable def JQ (n:Int):Prop:=∃ r:Int,r*r=n
theorem AaB {n r:Int} (h:Sq n r):JQ n↔r*r=n:=by
  refine ⟨fun ⟨s,e⟩=>?_,fun e=>⟨r,e⟩⟩
  have hs:Sq n (s.natAbs:Int):=by
    have e2:(s.natAbs:Int)*(s.natAbs:Int)=n:=(Int.natAbs_mul_self' s).trans e
    refine ⟨by omega,by omega,?_⟩
    have:((s.natAbs:Int)+1)*((s.natAbs:Int)+1)=(s.natAbs:Int)*(s.natAbs:Int)+2*(s.natAbs:Int)+1:=by grind
    omega
  rw [h.uniq hs]
  exact (Int.natAbs_mul_self' s).trans e
theorem Pz {n:Int} (h:n < 0):¬ JQ n:=fun ⟨r,e⟩=>by
  have:0≤r*r:=by
    rcases Int.le_total 0 r with h | h
    · exact Int.mul_nonneg h h
    · exact Int.mul_nonneg_of_nonpos_of_nonpos h h
  omega
noncomputable abbrev Nu:DSp:=spec (fun n:Int=>[.int n]) (fun n=>0≤n∧Bt 4000 n) fun n d=>∃ r,d=.int r∧Sq n r∧Bt 2001 r
noncomputable abbrev K6:DSp:=spec (fun n:Int=>[.int n]) (fun n=>Bt 4000 n) fun n d=>∃ b:Bool,d=.bl b∧(b=true↔JQ n)
theorem Dw (a b:Int):a.fmod b=a - b*a.fdiv b:=Int.fmod_def a b
theorem Ih {a b:Int} (h:b≠0):(a.fmod b).natAbs < b.natAbs:=by
  rcases Int.lt_or_lt_of_ne h with h | h
  · have e:a.fmod b=-((-a).fmod (-b)):=by rw [Dw,Dw,Int.neg_fdiv_neg];grind
    have h1:=Int.fmod_nonneg_of_pos (-a) (show 0 < -b by omega)
    have h2:=Int.fmod_lt_of_pos (-a) (show 0 < -b by omega)
    omega
  · have h1:=Int.fmod_nonneg_of_pos a h
    have h2:=Int.fmod_lt_of_pos a h
    omega
theorem KQ (a b:Int):Int.gcd b (a.fmod b)=Int.gcd a b:=by
  rw [Dw]
  have:a - b*a.fdiv b=a+b*(-(a.fdiv b)):=by grind
  rw [this,Int.gcd_comm]
  first
    | rw [Int.gcd_add_mul_left_left]
    | simp
theorem Km {n:Nat} {a b:Int} (ha:Bt n a) (hb:Bt n b):Bt n ((Int.gcd a b:Nat):Int):=by
  unfold Bt at *
  rw [Int.natAbs_natCast]
  by_cases h:a=0
  · subst h;rw [Int.gcd_zero_left];exact hb
  · have:=Int.gcd_le_natAbs_left b h
    omega
noncomputable def g3 (f:I3):Nat:=Int.gcd ((Int.gcd f.1 f.2.1:Nat):Int) f.2.2
theorem Abb {f:I3} (h:g3 f=0):f=(0,0,0):=by
  obtain ⟨a,b,c⟩:=f
  have h1:=Int.gcd_eq_zero_iff.mp h
  have h2:=Int.gcd_eq_zero_iff.mp (show Int.gcd a b=0 by have:=h1.1;simp only at this;omega)
  have h3:c=0:=h1.2
  rw [h2.1,h2.2,h3]
theorem ZJ (f:I3):(g3 f:Int)∣f.1∧(g3 f:Int)∣f.2.1∧(g3 f:Int)∣f.2.2:=by
  have h1:(g3 f:Int)∣((Int.gcd f.1 f.2.1:Nat):Int):=Int.gcd_dvd_left _ _
  exact ⟨Int.dvd_trans h1 (Int.gcd_dvd_left _ _),Int.dvd_trans h1 (Int.gcd_dvd_right _ _),Int.gcd_dvd_right _ _⟩
inductive YK (f:I3):Dt→Prop
  | flat:JQ (meas f)→YK f (.str "flat")
  | saddle:¬ JQ (meas f)→0 < meas f→YK f (.str "saddle")
  | bowl:¬ JQ (meas f)→¬ 0 < meas f→0 < f.1→YK f (.str "bowl")
  | dome:¬ JQ (meas f)→¬ 0 < meas f→¬ 0 < f.1→YK f (.str "dome")
noncomputable def Pt (x y:Int):Prop:=¬ (x=0∧y=0)
structure Ck (f:I3):Prop where
  pos:0 < f.1
  lo:-f.1≤f.2.1
  hi:f.2.1≤f.1
  ac:f.1≤f.2.2
  edge:f.2.1=-f.1∨f.1=f.2.2→0≤f.2.1
theorem sq_pos {x:Int} (h:x≠0):1≤x*x:=by
  rcases Int.lt_or_lt_of_ne h with h | h
  · have:=Int.mul_le_mul_of_nonneg_left (show 1≤-x by omega) (show 0≤-x by omega)
    have e:(-x)*(-x)=x*x:=by grind
    omega
  · have:=Int.mul_le_mul_of_nonneg_left (show 1≤x by omega) (show 0≤x by omega)
    omega
theorem WX {a b c x y:Int} (ha:0 < a) (h1:-a≤b) (h2:b≤a) (hc:a≤c) (hx:x≠0) (hy:y≠0):c≤val (a,b,c) (x,y):=by
  have key:∀ X Y B:Int,1≤X→1≤Y→0≤B→B≤a→a+c - B≤a*(X*X) - B*(X*Y)+c*(Y*Y):=fun X Y B hX hY hB0 hB=>by
    have sX:1≤X*X:=sq_pos (by omega)
    have sY:1≤Y*Y:=sq_pos (by omega)
    rcases Int.le_total Y X with h | h
    · have z1:X*Y≤X*X:=Int.mul_le_mul_of_nonneg_left h (by omega)
      have z2:B*(X*Y)≤B*(X*X):=Int.mul_le_mul_of_nonneg_left z1 hB0
      have z3:(a - B)*1≤(a - B)*(X*X):=Int.mul_le_mul_of_nonneg_left sX (by omega)
      have z4:c*1≤c*(Y*Y):=Int.mul_le_mul_of_nonneg_left sY (by omega)
      have z5:(a - B)*(X*X)=a*(X*X) - B*(X*X):=by grind
      omega
    · have z1:X*Y≤Y*Y:=Int.mul_le_mul_of_nonneg_right h (by omega)
      have z2:B*(X*Y)≤B*(Y*Y):=Int.mul_le_mul_of_nonneg_left z1 hB0
      have z3:(c - B)*1≤(c - B)*(Y*Y):=Int.mul_le_mul_of_nonneg_left sY (by omega)
      have z4:a*1≤a*(X*X):=Int.mul_le_mul_of_nonneg_left sX (by omega)
      have z5:(c - B)*(Y*Y)=c*(Y*Y) - B*(Y*Y):=by grind
      omega
  have hX:1≤(x.natAbs:Int):=by omega
  have hY:1≤(y.natAbs:Int):=by omega
  have k:=key x.natAbs y.natAbs b.natAbs hX hY (by omega) (by omega)
  have e1:(x.natAbs:Int)*x.natAbs=x*x:=Int.natAbs_mul_self' x
  have e2:(y.natAbs:Int)*y.natAbs=y*y:=Int.natAbs_mul_self' y
  have e3:-((b.natAbs:Int)*((x.natAbs:Int)*y.natAbs))≤b*(x*y):=by
    have:((b.natAbs:Int)*((x.natAbs:Int)*y.natAbs))=((b*(x*y)).natAbs:Int):=by rw [Int.natAbs_mul,Int.natAbs_mul];push_cast;rfl
    rw [this];omega
  rw [e1,e2] at k
  have e4:val (a,b,c) (x,y)=a*(x*x)+b*(x*y)+c*(y*y):=by simp only [val];grind
  rw [e4]
  omega
theorem Kr {a b c x:Int}:val (a,b,c) (x,0)=a*(x*x):=by simp only [val];grind
theorem Vp {a b c y:Int}:val (a,b,c) (0,y)=c*(y*y):=by simp only [val];grind
theorem Ck.min {f:I3} (L:Ck f) {x y:Int} (h:Pt x y):f.1≤val f (x,y):=by
  obtain ⟨a,b,c⟩:=f
  obtain ⟨h0,h1,h2,h3,_⟩:=L
  simp only at h0 h1 h2 h3 ⊢
  by_cases hy:y=0
  · subst hy
    have hx:x≠0:=fun z=>h ⟨z,rfl⟩
    rw [Kr]
    have:=Int.mul_le_mul_of_nonneg_left (sq_pos hx) (show 0≤a by omega)
    omega
  · by_cases hx:x=0
    · subst hx
      rw [Vp]
      have:=Int.mul_le_mul_of_nonneg_left (sq_pos hy) (show 0≤c by omega)
      omega
    · have:=WX h0 h1 h2 h3 hx hy
      omega
theorem Ck.low {f:I3} (L:Ck f) {x y:Int} (h:val f (x,y) < f.2.2):y=0:=by
  obtain ⟨a,b,c⟩:=f
  obtain ⟨h0,h1,h2,h3,_⟩:=L
  simp only at h0 h1 h2 h3 h ⊢
  by_cases hy:y=0
  · exact hy
  · exfalso
    by_cases hx:x=0
    · subst hx
      rw [Vp] at h
      have:=Int.mul_le_mul_of_nonneg_left (sq_pos hy) (show 0≤c by omega)
      omega
    · have:=WX h0 h1 h2 h3 hx hy
      omega
theorem Aao {t:I4} (h:det t=1):Pt t.1 t.2.2.1:=fun ⟨h1,h2⟩=>by
  obtain ⟨p,q,r,s⟩:=t
  simp only [det] at h h1 h2
  rw [h1,h2] at h
  simp at h
theorem Cd {f:I3} {t:I4} (h:det t=1):mov (mov f t) (Av t)=f:=by rw [Bj,JH h,Dp]
theorem Yp {x:Int} (h:x*x=1):x=1∨x=-1:=by
  rcases Int.lt_or_le x 0 with z | z
  · have:(-x)*(-x)=1:=by grind
    rcases Int.lt_or_le (-x) 2 with w | w
    · exact .inr (by omega)
    · have:=Int.mul_le_mul w w (by decide) (by omega)
      omega
  · rcases Int.lt_or_le x 2 with w | w
    · rcases Int.lt_or_le x 1 with v | v
      · have:x=0:=by omega
        rw [this] at h;simp at h
      · exact .inl (by omega)
    · have:=Int.mul_le_mul w w (by decide) z
      omega
theorem Ck.fix {f:I3} {t:I4} (L:Ck f) (M:Ck (mov f t)) (h:det t=1) (ha:(mov f t).1=f.1) (hc:f.1 < f.2.2):t=(1,0,0,1)∨t=(-1,0,0,-1):=by
  obtain ⟨a,b,c⟩:=f
  obtain ⟨p,q,r,s⟩:=t
  have e1:(mov (a,b,c) (p,q,r,s)).1=val (a,b,c) (p,r):=rfl
  have hr:r=0:=L.low (x:=p) (by rw [←e1,ha];exact hc)
  subst hr
  rw [e1,Kr] at ha
  have h0:0 < a:=L.pos
  simp only at ha
  have hpp:p*p=1:=by
    have:a*(p*p)=a*1:=by rw [ha];omega
    exact Int.eq_of_mul_eq_mul_left (by omega) this
  have hps:p*s=1:=by simp only [det] at h;omega
  have hb:(mov (a,b,c) (p,q,0,s)).2.1=2*(a*(p*q))+b:=by
    show 2*a*p*q+b*(p*s+q*0)+2*c*0*s=_
    rw [hps];grind
  have m1:-a≤2*(a*(p*q))+b:=by
    have:=M.lo
    rw [hb,e1,Kr,hpp] at this
    omega
  have m2:2*(a*(p*q))+b≤a:=by
    have:=M.hi
    rw [hb,e1,Kr,hpp] at this
    omega
  have m3:2*(a*(p*q))+b=-a→0≤2*(a*(p*q))+b:=fun z=>by
    have:=M.edge (.inl (by rw [hb,e1,Kr,hpp];omega))
    rw [hb] at this
    exact this
  have l1:-a≤b:=L.lo
  have l2:b≤a:=L.hi
  have l3:b=-a→0≤b:=fun z=>L.edge (.inl z)
  have hq:p*q=0:=by
    generalize p*q=k at *
    rcases Int.lt_trichotomy k 0 with z | z | z
    · have:=Int.mul_le_mul_of_nonneg_left (show k≤-1 by omega) (show 0≤a by omega)
      omega
    · exact z
    · have:=Int.mul_le_mul_of_nonneg_left (show 1≤k by omega) (show 0≤a by omega)
      omega
  rcases Yp hpp with rfl | rfl
  · have h1:q=0:=by omega
    have h2:s=1:=by omega
    rw [h1,h2];exact .inl rfl
  · have h1:q=0:=by omega
    have h2:s=-1:=by omega
    rw [h1,h2];exact .inr rfl
theorem Ck.one {f:I3} {t:I4} (L:Ck f) (M:Ck (mov f t)) (h:det t=1):mov f t=f:=by
  have d1:f.1≤(mov f t).1:=by
    have e1:(mov f t).1=val f (t.1,t.2.2.1):=rfl
    rw [e1];exact L.min (Aao h)
  have hk:det (Av t)=1:=Et.trans h
  have d2:(mov f t).1≤f.1:=by
    have:=M.min (Aao hk)
    have e1:(mov (mov f t) (Av t)).1=val (mov f t) ((Av t).1,(Av t).2.2.1):=rfl
    rw [←e1,Cd h] at this
    exact this
  have ha:(mov f t).1=f.1:=by omega
  have hm:=Bs (f:=f) h
  by_cases hc:f.1 < f.2.2
  · rcases L.fix M h ha hc with e | e
    · rw [e,Dp]
    · rw [e]
      obtain ⟨a,b,c⟩:=f
      simp only [mov,val,mid,Prod.mk.injEq]
      refine ⟨?_,?_,?_⟩ <;> grind
  · by_cases hc':(mov f t).1 < (mov f t).2.2
    · exfalso
      have L':Ck (mov (mov f t) (Av t)):=by rw [Cd h];exact L
      have ha':(mov (mov f t) (Av t)).1=(mov f t).1:=by rw [Cd h];exact ha.symm
      rcases M.fix L' hk ha' hc' with e | e
      · have:f=mov f t:=by
          have z:=Cd (f:=f) h
          rw [e,Dp] at z
          exact z.symm
        rw [←this] at hc'
        exact hc hc'
      · have:f=mov f t:=by
          have z:=Cd (f:=f) h
          rw [e] at z
          have z2:mov (mov f t) (-1,0,0,-1)=mov f t:=by
            obtain ⟨a,b,c⟩:=mov f t
            simp only [mov,val,mid,Prod.mk.injEq]
            refine ⟨?_,?_,?_⟩ <;> grind
          rw [z2] at z
          exact z.symm
        rw [←this] at hc'
        exact hc hc'
    · have l3:=L.ac
      have m3:=M.ac
      have l5:=L.edge (.inr (by omega))
      have m5:=M.edge (.inr (by omega))
      have l0:=L.pos
      have e2:f.2.2=f.1:=by omega
      have e3:(mov f t).2.2=f.1:=by omega
      generalize mov f t=g at *
      obtain ⟨a,b,c⟩:=f
      obtain ⟨a',b',c'⟩:=g
      simp only at *
      subst ha e2 e3
      simp only [meas] at hm
      have hbb:b'*b'=b*b:=by omega
      have:b'=b:=by
        rcases Int.lt_trichotomy b' b with z | z | z
        · have z1:b'*b'≤b'*b:=Int.mul_le_mul_of_nonneg_left (by omega) m5
          have z2:b'*b < b*b:=Int.mul_lt_mul_of_pos_right z (by omega)
          omega
        · exact z
        · have z1:b*b≤b*b':=Int.mul_le_mul_of_nonneg_left (by omega) l5
          have z2:b*b' < b'*b':=Int.mul_lt_mul_of_pos_right z (by omega)
          omega
      rw [this]
theorem Aaw (ns:List Int) (lo hi:Option Int):∃ cs:List Int,cutD (ns.map Dt.int) lo hi=cs.map Dt.int∧cs.length≤ns.length:=by
  refine ⟨(ns.drop (HT.sIx (ns.map Dt.int).length 0 lo)).take (HT.sIx (ns.map Dt.int).length (ns.map Dt.int).length hi - HT.sIx (ns.map Dt.int).length 0 lo),by unfold cutD;rw [List.map_take,List.map_drop],?_⟩
  rw [List.length_take,List.length_drop];omega
theorem Ew (x:Int) {m:Int} (h:0 < m):0≤x.fmod m∧x.fmod m < m:=⟨Int.fmod_nonneg_of_pos x h,Int.fmod_lt_of_pos x h⟩
theorem Acw {zs:List Int} {k:Int} {P:Int→Prop} (h0:0≤k) (h1:k < zs.length) (hP:∀ z∈zs,P z):∃ z,ixD k (.lst (zs.map Dt.int))=some (.int z)∧P z:=by
  refine ⟨_,RN h0 h1,hP _ ?_⟩
  have:k.toNat < zs.length:=by omega
  simp [this]
theorem sq_nonneg (x:Int):0≤x*x:=by
  rcases Int.le_total 0 x with h | h
  · exact Int.mul_nonneg h h
  · exact Int.mul_nonneg_of_nonpos_of_nonpos h h
end My
namespace My
open PySem L2
noncomputable def Bo (f:I3):Prop:=0 < f.1∧meas f < 0
noncomputable def stands (f:I3):Bool:=decide (-f.1≤f.2.1∧f.2.1≤f.1∧f.1≤f.2.2) && (decide (0≤f.2.1) || (decide (f.2.1≠-f.1) && decide (f.1≠f.2.2)))
theorem Bq {f:I3} (h:0 < f.1) (s:stands f=true):Ck f:=by
  simp only [stands,Bool.and_eq_true,Bool.or_eq_true,decide_eq_true_eq] at s
  obtain ⟨⟨h1,h2,h3⟩,h4⟩:=s
  exact ⟨h,h1,h2,h3,fun z=>by rcases h4 with h4 | ⟨h4,h5⟩;exact h4;rcases z with z | z;exact absurd z h4;exact absurd z h5⟩
theorem Ck.bowl {f:I3} (L:Ck f):Bo f:=by
  obtain ⟨a,b,c⟩:=f
  refine ⟨L.pos,?_⟩
  have h0:0 < a:=L.pos
  have h1:-a≤b:=L.lo
  have h2:b≤a:=L.hi
  have h3:a≤c:=L.ac
  have h4:b*b≤a*a:=by
    have e1:(b.natAbs:Int)*b.natAbs=b*b:=Int.natAbs_mul_self' b
    have:=Int.mul_le_mul (show (b.natAbs:Int)≤a by omega) (show (b.natAbs:Int)≤a by omega) (by omega) (by omega)
    omega
  have h5:a*a≤a*c:=Int.mul_le_mul_of_nonneg_left h3 (by omega)
  have h6:1≤a*a:=sq_pos (by omega)
  show b*b - 4*a*c < 0
  have e:4*a*c=4*(a*c):=by grind
  omega
theorem Ck.bt {f:I3} {n:Nat} (L:Ck f) (h:Bt n (meas f)):B3 n f:=by
  obtain ⟨a,b,c⟩:=f
  have h0:0 < a:=L.pos
  have h1:-a≤b:=L.lo
  have h2:b≤a:=L.hi
  have h3:a≤c:=L.ac
  have h4:b*b≤a*a:=by
    have e1:(b.natAbs:Int)*b.natAbs=b*b:=Int.natAbs_mul_self' b
    have:=Int.mul_le_mul (show (b.natAbs:Int)≤a by omega) (show (b.natAbs:Int)≤a by omega) (by omega) (by omega)
    omega
  have h5:a*a≤a*c:=Int.mul_le_mul_of_nonneg_left h3 (by omega)
  have h6:1*c≤a*c:=Int.mul_le_mul_of_nonneg_right (by omega) (by omega)
  have hm:meas (a,b,c)=b*b - 4*(a*c):=by simp only [meas];grind
  have hc:Bt n c:=by unfold Bt at *;rw [hm] at h;omega
  refine ⟨?_,?_,hc⟩
  · show Bt n a
    unfold Bt at *;omega
  · show Bt n b
    unfold Bt at *;omega
noncomputable def oft (f:I3):Int:=(f.1 - f.2.1).fdiv (2*f.1)
noncomputable def Dy (f:I3):I4:=if oft f≠0 then (1,oft f,0,1) else (0,-1,1,0)
theorem QK {f:I3}:det (Dy f)=1:=by
  unfold Dy
  split <;> simp [det]
theorem Tq {a b c k:Int}:mov (a,b,c) (1,k,0,1)=(a,b+2*a*k,a*k*k+b*k+c):=by
  simp only [mov,val,mid,Prod.mk.injEq]
  refine ⟨?_,?_,?_⟩ <;> grind
theorem Uv {a b c:Int}:mov (a,b,c) (0,-1,1,0)=(c,-b,a):=by
  simp only [mov,val,mid,Prod.mk.injEq]
  refine ⟨?_,?_,?_⟩ <;> grind
theorem JC {a b:Int} (h:0 < a):-a < b+2*a*((a - b).fdiv (2*a))∧b+2*a*((a - b).fdiv (2*a))≤a:=by
  rw [Int.fdiv_eq_ediv_of_nonneg _ (by omega)]
  have h1:=Int.lt_mul_ediv_self_add (x:=a - b) (show 0 < 2*a by omega)
  have h2:=Int.mul_ediv_self_le (x:=a - b) (k:=2*a) (by omega)
  omega
theorem U7 {a b:Int} (h:0 < a) (z:(a - b).fdiv (2*a)=0):-a < b∧b≤a:=by
  have:=JC (b:=b) h
  rw [z] at this
  omega
noncomputable def msr (f:I3):Nat:=4*f.1.toNat+(if -f.1 < f.2.1∧f.2.1≤f.1 then 0 else 2)+(if f.2.1 < 0 then 1 else 0)
theorem Mu {f:I3} (h:Bo f):0 < f.2.2:=by
  obtain ⟨a,b,c⟩:=f
  obtain ⟨h0,h1⟩:=h
  simp only [meas] at h0 h1 ⊢
  rcases Int.lt_or_le 0 c with h | h
  · exact h
  · exfalso
    have h2:0≤b*b:=sq_nonneg b
    have h3:a*c≤a*0:=Int.mul_le_mul_of_nonneg_left h (by omega)
    have e:4*a*c=4*(a*c):=by grind
    omega
theorem KN {f:I3} {t:I4} (h:Bo f) (d:det t=1):Bo (mov f t):=by
  have hm:=Bs (f:=f) d
  refine ⟨?_,by rw [hm];exact h.2⟩
  obtain ⟨a,b,c⟩:=f
  obtain ⟨p,q,r,s⟩:=t
  obtain ⟨h0,h1⟩:=h
  show 0 < val (a,b,c) (p,r)
  simp only [meas] at h0 h1
  have e:4*(a*val (a,b,c) (p,r))=(2*a*p+b*r)*(2*a*p+b*r) - (b*b - 4*a*c)*(r*r):=by simp only [val];grind
  have z1:=sq_nonneg (2*a*p+b*r)
  have z2:0≤(4*a*c - b*b)*(r*r):=Int.mul_nonneg (by omega) (sq_nonneg r)
  have e2:(4*a*c - b*b)*(r*r)=-((b*b - 4*a*c)*(r*r)):=by grind
  rcases Int.lt_or_le 0 (val (a,b,c) (p,r)) with h | h
  · exact h
  · exfalso
    have z3:a*val (a,b,c) (p,r)≤a*0:=Int.mul_le_mul_of_nonneg_left h (by omega)
    have hr:r*r=0:=by
      by_cases hr:r=0
      · rw [hr];rfl
      · exfalso
        have:=Int.mul_le_mul (show 1≤4*a*c - b*b by omega) (sq_pos hr) (by omega) (by omega)
        omega
    have hr0:r=0:=by
      by_cases hr0:r=0
      · exact hr0
      · have:=sq_pos hr0;omega
    subst hr0
    have hp:p≠0:=fun hp=>by subst hp;simp [det] at d
    have hp1:=sq_pos hp
    have e3:val (a,b,c) (p,0)=a*(p*p):=Kr
    rw [e3] at h
    have:=Int.mul_le_mul_of_nonneg_left hp1 (show 0≤a by omega)
    omega
theorem Xm {f:I3} (h:Bo f) (s:stands f=false):msr (mov f (Dy f)) < msr f:=by
  obtain ⟨a,b,c⟩:=f
  have ha:0 < a:=h.1
  have hc:0 < c:=Mu h
  unfold Dy
  by_cases ho:oft (a,b,c)=0
  · rw [if_neg (by simpa using ho),Uv]
    have ⟨h1,h2⟩:-a < b∧b≤a:=U7 ha ho
    have hs:c < a∨(a=c∧b < 0):=by
      simp only [stands,Bool.and_eq_false_iff,Bool.or_eq_false_iff,decide_eq_false_iff_not] at s
      omega
    unfold msr
    simp only
    rw [if_pos (show -a < b∧b≤a from ⟨h1,h2⟩)]
    rcases hs with hs | ⟨hs,hb⟩
    · split <;> split <;> split <;> omega
    · subst hs
      rw [if_pos (show -a < -b∧-b≤a by omega),if_pos hb,if_neg (by omega)]
      omega
  · rw [if_pos ho,Tq]
    have ⟨h1,h2⟩:=JC (b:=b) ha
    have hn:¬ (-a < b∧b≤a):=fun z=>ho (by
      show (a - b).fdiv (2*a)=0
      rw [Int.fdiv_eq_ediv_of_nonneg _ (by omega)]
      exact Int.ediv_eq_zero_of_lt (by omega) (by omega))
    unfold msr
    simp only
    show 4*a.toNat+(if -a < b+2*a*((a - b).fdiv (2*a))∧b+2*a*((a - b).fdiv (2*a))≤a then 0 else 2)+(if b+2*a*((a - b).fdiv (2*a)) < 0 then 1 else 0) < _
    rw [if_pos ⟨h1,h2⟩,if_neg hn]
    split <;> split <;> omega
theorem ZK {f:I3} {n:Nat} (h:Bo f) (s:stands f=false) (b1:Bt n f.1) (b2:Bt n f.2.1):Bt n (mov f (Dy f)).1∧Bt n (mov f (Dy f)).2.1:=by
  obtain ⟨a,b,c⟩:=f
  have ha:0 < a:=h.1
  have hc:0 < c:=Mu h
  have b1:Bt n a:=b1
  have b2:Bt n b:=b2
  unfold Dy
  by_cases ho:oft (a,b,c)=0
  · rw [if_neg (by simpa using ho),Uv]
    have ⟨h1,h2⟩:-a < b∧b≤a:=U7 ha ho
    have hs:c≤a:=by
      simp only [stands,Bool.and_eq_false_iff,Bool.or_eq_false_iff,decide_eq_false_iff_not] at s
      omega
    refine ⟨?_,b2.neg⟩
    show Bt n c
    unfold Bt at *;omega
  · rw [if_pos ho,Tq]
    have ⟨h1,h2⟩:=JC (b:=b) ha
    refine ⟨b1,?_⟩
    show Bt n (b+2*a*((a - b).fdiv (2*a)))
    unfold Bt at *;omega
theorem Wy {f:I3} {n m:Nat} (h:Bo f) (b1:Bt n f.1) (b2:Bt n f.2.1) (hm:Bt m (meas f)):B3 (n+n+m+1) f:=by
  obtain ⟨a,b,c⟩:=f
  have ha:0 < a:=h.1
  have hc:0 < c:=Mu h
  refine ⟨b1.le (by omega),b2.le (by omega),?_⟩
  have z:=(b2.mul b2).sub hm
  have e:b*b - meas (a,b,c)=4*(a*c):=by simp only [meas];grind
  have z1:1*c≤a*c:=Int.mul_le_mul_of_nonneg_right (by omega) (by omega)
  have z':Bt (max (n+n) m+1) (4*(a*c)):=by rw [←e];exact z
  have z2:Bt (max (n+n) m+1) c:=by unfold Bt at *;omega
  exact z2.le (by omega)
theorem Adh {n:Nat} {x:Int} (h:x*x < 2 ^ (2*n)):Bt n x:=by
  unfold Bt
  rcases Nat.lt_or_ge x.natAbs (2 ^ n) with z | z
  · exact z
  · exfalso
    have:=Nat.mul_le_mul z z
    rw [←Nat.pow_add,show n+n=2*n by omega] at this
    have e1:(x.natAbs:Int)*x.natAbs=x*x:=Int.natAbs_mul_self' x
    have:((2 ^ (2*n):Nat):Int)≤(x.natAbs:Int)*x.natAbs:=by exact_mod_cast this
    rw [e1] at this
    push_cast at this
    omega
theorem TY {f:I3} {n m k:Nat} {x y:Int} (h:Bo f) (hb:B3 n f) (hv:Bt m (val f (x,y))) (hk:n+m+2≤2*k):B2 k (x,y):=by
  obtain ⟨a,b,c⟩:=f
  have ha:0 < a:=h.1
  have hc:0 < c:=Mu h
  have hm:b*b - 4*a*c < 0:=h.2
  obtain ⟨h1,h2,h3⟩:=hb
  have h4:Bt 3 4:=Bt.of_abs (by decide)
  have e1:4*(a*val (a,b,c) (x,y))=(2*a*x+b*y)*(2*a*x+b*y)+(4*a*c - b*b)*(y*y):=by simp only [val];grind
  have e2:4*(c*val (a,b,c) (x,y))=(2*c*y+b*x)*(2*c*y+b*x)+(4*a*c - b*b)*(x*x):=by simp only [val];grind
  have k1:y*y≤4*(a*val (a,b,c) (x,y)):=by
    have z1:=sq_nonneg (2*a*x+b*y)
    have z2:=Int.mul_le_mul_of_nonneg_right (show 1≤4*a*c - b*b by omega) (sq_nonneg y)
    omega
  have k2:x*x≤4*(c*val (a,b,c) (x,y)):=by
    have z1:=sq_nonneg (2*c*y+b*x)
    have z2:=Int.mul_le_mul_of_nonneg_right (show 1≤4*a*c - b*b by omega) (sq_nonneg x)
    omega
  have up:∀ {z w:Int},Bt n z→w≤4*(z*val (a,b,c) (x,y))→w < 2 ^ (2*k):=fun {z w} hz hw=>by
    have h5:=hz.mul hv
    have h6:Bt (n+m) (z*val (a,b,c) (x,y)):=h5
    have h7:(4:Int)*2 ^ (n+m)≤2 ^ (2*k):=by
      have:(4:Int)*2 ^ (n+m)=2 ^ (n+m+2):=by rw [show n+m+2=(n+m)+1+1 from rfl,Int.pow_succ,Int.pow_succ];omega
      rw [this]
      have:=Nat.pow_le_pow_right (show 0 < 2 by decide) hk
      exact_mod_cast this
    unfold Bt at h6
    have h8:z*val (a,b,c) (x,y) < 2 ^ (n+m):=by
      have:((z*val (a,b,c) (x,y)).natAbs:Int) < ((2 ^ (n+m):Nat):Int):=by exact_mod_cast h6
      push_cast at this
      omega
    omega
  exact ⟨Adh (up h3 k2),Adh (up h1 k1)⟩
theorem Abx {f:I3} {t:I4} {n m k:Nat} (h:Bo f) (hb:B3 n f) (hg:B3 m (mov f t)) (hk:n+m+2≤2*k):B4 k t:=by
  have p1:=TY (x:=t.1) (y:=t.2.2.1) h hb hg.1 hk
  have p2:=TY (x:=t.2.1) (y:=t.2.2.2) h hb hg.2.2 hk
  exact ⟨p1.1,p2.1,p1.2,p2.2⟩
theorem O7 {f:I3} (h:oft f=0):Dy f=(0,-1,1,0):=by unfold Dy;rw [if_neg (by simpa using h)]
theorem N6 {f:I3} (h:¬ oft f=0):Dy f=(1,oft f,0,1):=by unfold Dy;rw [if_pos h]
theorem Aac {f:I3} {n:Nat} (h:0 < f.1) (b1:Bt n f.1) (b2:Bt n f.2.1):B4 (n+1) (Dy f):=by
  obtain ⟨a,b,c⟩:=f
  have h:0 < a:=h
  have b1:Bt n a:=b1
  have b2:Bt n b:=b2
  have one:Bt (n+1) 1:=Bt.one.le (by omega)
  by_cases ho:oft (a,b,c)=0
  · rw [O7 ho]
    exact ⟨Bt.zero.le (by omega),one.neg,one,Bt.zero.le (by omega)⟩
  · rw [N6 ho]
    refine ⟨one,?_,Bt.zero.le (by omega),one⟩
    have ⟨h1,h2⟩:=JC (b:=b) h
    show Bt (n+1) ((a - b).fdiv (2*a))
    generalize (a - b).fdiv (2*a)=k at *
    have e:2*a*k=2*(a*k):=by grind
    have z:(k.natAbs:Int)≤((a*k).natAbs:Int):=by
      rw [Int.natAbs_mul]
      have:=Nat.mul_le_mul_right k.natAbs (show 1≤a.natAbs by omega)
      omega
    unfold Bt at *
    rw [Nat.pow_succ]
    omega
end My
namespace My
open PySem L2
structure Sad (f:I3):Prop where
  no:¬ JQ (meas f)
  pos:0 < meas f
  most:meas f≤4000
noncomputable def Level (f:I3) (far:Int):Prop:=(0 < f.2.1∧f.2.1≤far)∧far - f.2.1 < 2*(if f.1 < 0 then -f.1 else f.1)∧2*(if f.1 < 0 then -f.1 else f.1)≤far+f.2.1
instance {f:I3} {far:Int}:Decidable (Level f far):=by unfold Level;infer_instance
theorem Sad.mov {f:I3} {t:I4} (h:Sad f) (d:det t=1):Sad (mov f t):=by
  have e:=Bs (f:=f) d
  exact ⟨by rw [e];exact h.no,by rw [e];exact h.pos,by rw [e];exact h.most⟩
end My
namespace My
open PySem L2
noncomputable abbrev ab (x:Int):Int:=if x < 0 then -x else x
theorem Ax (x:Int):(0≤x∧ab x=x)∨(x < 0∧ab x=-x):=by
  rcases Int.lt_or_le x 0 with h | h
  · exact .inr ⟨h,if_pos h⟩
  · exact .inl ⟨h,if_neg (by omega)⟩
theorem BX (x:Int):0≤ab x:=by rcases Ax x with ⟨h,e⟩ | ⟨h,e⟩ <;> omega
theorem Wj {n:Nat} {x:Int} (h:Bt n x):Bt n (ab x):=by
  rcases Ax x with ⟨_,e⟩ | ⟨_,e⟩ <;> rw [e]
  · exact h
  · exact h.neg
theorem Wz {n:Nat} {x y:Int} (h:Bt n y) (l:ab x≤ab y):Bt n x:=by
  unfold Bt at *
  rcases Ax x with ⟨_,e⟩ | ⟨_,e⟩ <;> rcases Ax y with ⟨_,e'⟩ | ⟨_,e'⟩ <;> omega
theorem Q5 {n:Nat} {x k:Int} (l:ab x≤k) (hk:k < 2 ^ n):Bt n x:=by
  rcases Ax x with ⟨_,e⟩ | ⟨_,e⟩ <;> exact Bt.of (by omega) (by omega)
noncomputable def dB (f:I3) (top:Int):Int:=top - (top+f.2.1).fmod (2*ab f.2.2)
noncomputable def kB (f:I3) (top:Int):Int:=(f.2.1+dB f top).fdiv (2*f.2.2)
noncomputable def Cg (f:I3) (top:Int):I4:=(0,-1,1,kB f top)
theorem Cq {f:I3} {top:Int}:det (Cg f top)=1:=by simp [det,Cg]
theorem Jh {f:I3} {top:Int} (h:f.2.2≠0):top - 2*ab f.2.2 < dB f top∧dB f top≤top:=by
  have hc:0 < 2*ab f.2.2:=by rcases Ax f.2.2 with ⟨_,e⟩ | ⟨_,e⟩ <;> omega
  have:=Ew (top+f.2.1) hc
  unfold dB
  omega
theorem Hu {f:I3} {top:Int} (h:f.2.2≠0):2*f.2.2*kB f top=f.2.1+dB f top:=by
  unfold kB dB
  have e:=Int.fmod_def (top+f.2.1) (2*ab f.2.2)
  generalize (top+f.2.1).fdiv (2*ab f.2.2)=q at *
  have e1:f.2.1+(top - (top+f.2.1).fmod (2*ab f.2.2))=2*ab f.2.2*q:=by omega
  rw [e1]
  rcases Ax f.2.2 with ⟨_,e2⟩ | ⟨_,e2⟩
  · rw [e2,Int.mul_fdiv_cancel_left _ (by omega)]
  · have e3:2*ab f.2.2*q=2*f.2.2*(-q):=by rw [e2];grind
    rw [e3,Int.mul_fdiv_cancel_left _ (by omega)]
theorem K1 {f:I3} {top:Int} (h:f.2.2≠0):∃ e,mov f (Cg f top)=(f.2.2,dB f top,e):=by
  have hk:=Hu (top:=top) h
  obtain ⟨a,b,c⟩:=f
  refine ⟨(mov (a,b,c) (Cg (a,b,c) top)).2.2,?_⟩
  have e1:(mov (a,b,c) (Cg (a,b,c) top)).1=c:=by simp only [mov,val,Cg];grind
  have e2:(mov (a,b,c) (Cg (a,b,c) top)).2.1=dB (a,b,c) top:=by
    simp only [mov,mid,Cg]
    simp only at hk
    generalize kB (a,b,c) top=k at *
    have:2*a*0 * -1+b*(0*k + -1*1)+2*c*1*k=2*c*k - b:=by grind
    omega
  ext1
  · exact e1
  · ext1
    · exact e2
    · rfl
theorem Vl {D far:Int} (r:Sq D far) (n:¬ JQ D):far*far < D:=by
  rcases Int.lt_or_le (far*far) D with h | h
  · exact h
  · exact absurd ⟨far,by have:=r.2.1;omega⟩ n
theorem N8 {D far:Int} (r:Sq D far) (m:D≤4000):far≤63:=by
  rcases Int.lt_or_le far 64 with h | h
  · omega
  · have:=Int.mul_le_mul h h (by decide) r.1
    have:=r.2.1
    omega
theorem Gy {f:I3} (S:Sad f):f.2.2≠0:=fun h=>S.no ⟨f.2.1,by
  obtain ⟨a,b,c⟩:=f
  simp only at h
  subst h
  simp only [meas]
  omega⟩
theorem Wi {f:I3} (S:Sad f):f.1≠0:=fun h=>S.no ⟨f.2.1,by
  obtain ⟨a,b,c⟩:=f
  simp only at h
  subst h
  simp only [meas]
  omega⟩
theorem Nz (x y:Int):ab x*ab y=ab (x*y):=by
  rcases Ax x with ⟨h1,e1⟩ | ⟨h1,e1⟩ <;> rcases Ax y with ⟨h2,e2⟩ | ⟨h2,e2⟩ <;> rw [e1,e2]
  · have:=Int.mul_nonneg h1 h2
    exact (if_neg (by omega)).symm
  · have:=Int.mul_nonneg h1 (show 0≤-y by omega)
    have e:x * -y=-(x*y):=by grind
    by_cases h:x*y < 0
    · rw [ab,if_pos h,e]
    · rw [ab,if_neg h];omega
  · have:=Int.mul_nonneg (show 0≤-x by omega) h2
    have e:-x*y=-(x*y):=by grind
    by_cases h:x*y < 0
    · rw [ab,if_pos h,e]
    · rw [ab,if_neg h];omega
  · have:=Int.mul_nonneg (show 0≤-x by omega) (show 0≤-y by omega)
    have e:-x * -y=x*y:=by grind
    rw [ab,if_neg (by omega),e]
theorem Js {x k:Int} (h:ab x≤k):x*x≤k*k:=by
  have e:x*x=ab x*ab x:=by
    rcases Ax x with ⟨_,e⟩ | ⟨_,e⟩ <;> rw [e]
    grind
  rw [e]
  have:=BX x
  exact Int.mul_le_mul h h this (by omega)
theorem last_eq {c d e D:Int} (h:meas (c,d,e)=D):4*(ab c*ab e)=ab (d*d - D):=by
  have:d*d - D=4*(c*e):=by rw [←h];simp only [meas];grind
  rw [this,Nz]
  rcases Ax (c*e) with ⟨h1,e1⟩ | ⟨h1,e1⟩
  · rw [e1,ab,if_neg (by omega)]
  · rw [e1,ab,if_pos (by omega)];omega
theorem Abo {c d e D far:Int} (r:Sq D far) (D0:0 < D) (h:meas (c,d,e)=D) (hc:far < ab c) (h1:-ab c < d) (h2:d≤ab c):4*ab e≤ab c:=by
  have k:=last_eq h
  have hd:d*d≤ab c*ab c:=by
    refine Js ?_
    rcases Ax d with ⟨_,e1⟩ | ⟨_,e1⟩ <;> omega
  have hD:D≤ab c*ab c:=by
    have:=Int.mul_le_mul (show far+1≤ab c by omega) (show far+1≤ab c by omega) (by have:=r.1;omega) (BX c)
    have:=r.2.2
    omega
  have h0:=sq_nonneg d
  have:ab (d*d - D)≤ab c*ab c:=by
    rcases Ax (d*d - D) with ⟨_,e1⟩ | ⟨_,e1⟩ <;> omega
  have hc0:0 < ab c:=by have:=r.1;omega
  rcases Int.lt_or_le (ab c) (4*ab e) with z | z
  · exfalso
    have:=Int.mul_lt_mul_of_pos_left z hc0
    have e2:ab c*(4*ab e)=4*(ab c*ab e):=by grind
    omega
  · exact z
theorem Aat {c d e D far:Int} (r:Sq D far) (n:¬ JQ D) (h:meas (c,d,e)=D) (hc:ab c≤far) (hc2:far < 2*ab c) (h1:far - 2*ab c < d) (h2:d≤far):2*ab e≤far:=by
  have k:=last_eq h
  have hf:=Vl r n
  have hd:d*d≤far*far:=by
    refine Js ?_
    rcases Ax d with ⟨_,e1⟩ | ⟨_,e1⟩ <;> omega
  have h0:=sq_nonneg d
  have hD:=r.2.2
  have:ab (d*d - D) < (far+1)*(far+1):=by
    rcases Ax (d*d - D) with ⟨_,e1⟩ | ⟨_,e1⟩ <;> omega
  rcases Int.lt_or_le far (2*ab e) with z | z
  · exfalso
    have:=Int.mul_le_mul (show far+1≤2*ab c by omega) (show far+1≤2*ab e by omega) (by have:=r.1;omega) (by have:=BX c;omega)
    have e2:2*ab c*(2*ab e)=4*(ab c*ab e):=by grind
    omega
  · exact z
theorem Xk {c d e far:Int} (hc:2*ab c≤far) (h1:far - 2*ab c < d) (h2:d≤far):Level (c,d,e) far:=by
  refine ⟨⟨?_,h2⟩,?_,?_⟩
  · show 0 < d;omega
  · show far - d < 2*ab c;omega
  · show 2*ab c≤far+d;omega
theorem Vn {c d e D far:Int} (r:Sq D far) (hm:D≤4000) (D0:0 < D) (h:meas (c,d,e)=D) (c0:c≠0) (hd:ab d≤far):ab e≤1000:=by
  have k:=last_eq h
  have h2:d*d≤far*far:=Js hd
  have h0:=sq_nonneg d
  have h3:=r.2.1
  have:ab (d*d - D)≤4000:=by
    rcases Ax (d*d - D) with ⟨_,e1⟩ | ⟨_,e1⟩ <;> omega
  have hc:1≤ab c:=by rcases Ax c with ⟨_,e1⟩ | ⟨_,e1⟩ <;> omega
  have:=Int.mul_le_mul_of_nonneg_right hc (BX e)
  omega
theorem Ij {f:I3} {far:Int} (r:Sq (meas f) far) (n:¬ JQ (meas f)) (L:Level f far):far - f.2.1 < 2*ab f.2.2∧2*ab f.2.2≤far+f.2.1:=by
  obtain ⟨a,b,c⟩:=f
  obtain ⟨⟨l1,l2⟩,l3,l4⟩:=L
  have l1:0 < b:=l1
  have l2:b≤far:=l2
  have l3:far - b < 2*ab a:=l3
  have l4:2*ab a≤far+b:=l4
  show far - b < 2*ab c∧2*ab c≤far+b
  have hf:=Vl r n
  have hD:=r.2.2
  have k:4*(ab a*ab c)=ab (b*b - meas (a,b,c)):=last_eq (c:=a) (d:=b) (e:=c) rfl
  generalize meas (a,b,c)=D at *
  have hb:b*b≤far*far:=Int.mul_le_mul l2 l2 (by omega) (by omega)
  have k2:(2*ab a)*(2*ab c)=D - b*b:=by
    have e1:(2*ab a)*(2*ab c)=4*(ab a*ab c):=by grind
    rcases Ax (b*b - D) with ⟨_,e⟩ | ⟨_,e⟩ <;> omega
  generalize 2*ab a=A at *
  have hC0:0≤2*ab c:=by have:=BX c;omega
  generalize 2*ab c=C at *
  constructor
  · rcases Int.lt_or_le (far - b) C with z | z
    · exact z
    · exfalso
      have z1:A*C≤(far+b)*(far - b):=Int.mul_le_mul l4 z hC0 (by omega)
      have e1:(far+b)*(far - b)=far*far - b*b:=by grind
      omega
  · rcases Int.lt_or_le (far+b) C with z | z
    · exfalso
      have z1:(far - b+1)*(far+b+1)≤A*C:=Int.mul_le_mul (by omega) (by omega) (by omega) (by omega)
      have e1:(far - b+1)*(far+b+1)=(far+1)*(far+1) - b*b:=by grind
      omega
    · exact z
theorem Vc {f:I3} {far:Int} (S:Sad f) (r:Sq (meas f) far) (L:Level f far):Level (mov f (Cg f far)) far:=by
  have hc:=Gy S
  obtain ⟨e,he⟩:=K1 (top:=far) hc
  rw [he]
  have ⟨d1,d2⟩:=Jh (top:=far) hc
  have ⟨c1,c2⟩:=Ij r S.no L
  obtain ⟨⟨l1,l2⟩,_,_⟩:=L
  have hk:=Hu (top:=far) hc
  have d3:far - 2*ab f.2.2 < dB f far:=d1
  by_cases hC:2*ab f.2.2≤far
  · exact Xk hC d1 d2
  ·
    have hd:dB f far=2*ab f.2.2 - f.2.1:=by
      have e1:f.2.1+dB f far=2*(f.2.2*kB f far):=by rw [←hk];grind
      have hx:ab (f.2.2*kB f far)=ab f.2.2*ab (kB f far):=(Nz _ _).symm
      have hpos:0 < f.2.2*kB f far:=by omega
      have hx2:f.2.2*kB f far=ab f.2.2*ab (kB f far):=by rw [←hx,ab,if_neg (by omega)]
      have hk0:0 < ab (kB f far):=by
        rcases Int.lt_or_le 0 (ab (kB f far)) with z | z
        · exact z
        · have:ab (kB f far)=0:=by have:=BX (kB f far);omega
          rw [this] at hx2
          omega
      have hk1:ab (kB f far)=1:=by
        rcases Int.lt_or_le (ab (kB f far)) 2 with z | z
        · omega
        · exfalso
          have:=Int.mul_le_mul_of_nonneg_left z (BX f.2.2)
          omega
      rw [hk1] at hx2
      omega
    refine ⟨⟨?_,d2⟩,?_,?_⟩
    · show 0 < dB f far;omega
    · show far - dB f far < 2*ab f.2.2;omega
    · show 2*ab f.2.2≤far+dB f far;omega
theorem Ls {f:I3} {far:Int} (S:Sad f) (r:Sq (meas f) far) (L:Level f far):B3 7 f:=by
  have ⟨c1,c2⟩:=Ij r S.no L
  have h6:=N8 r S.most
  obtain ⟨⟨l1,l2⟩,l3,l4⟩:=L
  have l4:2*ab f.1≤far+f.2.1:=l4
  exact ⟨Q5 (k:=63) (by omega) (by decide),Bt.of (by omega) (by omega),Q5 (k:=63) (by omega) (by decide)⟩
end My
namespace My
open PySem L2
noncomputable abbrev bl (x:Int):Nat:=Builtin.Int.intBits x
theorem Xg {x:Int}:Bt (bl x) x:=intBits_le_iff.mp (Nat.le_refl _)
theorem Wl {n:Nat} {x:Int} (h:Bt n x):bl x≤n:=intBits_le_iff.mpr h
theorem VG {x:Int} (h:x≠0):1≤bl x:=by
  rcases Nat.lt_or_ge 0 (bl x) with z | z
  · exact z
  · have:=Xg (x:=x)
    unfold Bt at this
    rw [show bl x=0 by omega] at this
    omega
theorem Zz {x:Int} (h:x≠0):2 ^ (bl x - 1)≤x.natAbs:=by
  rcases Nat.lt_or_ge x.natAbs (2 ^ (bl x - 1)) with z | z
  · have:=Wl (n:=bl x - 1) z
    have:=VG h
    omega
  · exact z
theorem Xz {x y:Int} (h:4*ab x≤ab y) (hy:y≠0):bl x+2≤bl y∨x=0:=by
  by_cases hx:x=0
  · exact .inr hx
  · refine .inl ?_
    have h1:=Zz hx
    have h2:=Xg (x:=y)
    unfold Bt at h2
    have p:=VG hx
    rcases Nat.lt_or_ge (bl y) (bl x+2) with z | z
    · exfalso
      have h3:2 ^ bl y≤2 ^ (bl x - 1+2):=Nat.pow_le_pow_right (by decide) (by omega)
      rw [Nat.pow_add] at h3
      have h4:4*x.natAbs≤y.natAbs:=by
        rcases Ax x with ⟨_,e⟩ | ⟨_,e⟩ <;> rcases Ax y with ⟨_,e'⟩ | ⟨_,e'⟩ <;> omega
      omega
    · exact z
theorem Ug {b c d k:Int} {x:Nat} (hc:c≠0) (hb:Bt x b) (hx:bl c≤x) (hd:ab d≤ab c) (hk:2*c*k=b+d):Bt (x+1 - bl c) k:=by
  have h1:=Zz hc
  have h2:=Xg (x:=c)
  have hp:=VG hc
  unfold Bt at *
  have e1:2*(c.natAbs*k.natAbs)=(b+d).natAbs:=by
    rw [←hk,Int.mul_assoc,Int.natAbs_mul,Int.natAbs_mul];rfl
  have e2:(b+d).natAbs < 2 ^ x+2 ^ bl c:=by
    rcases Ax d with ⟨_,e⟩ | ⟨_,e⟩ <;> rcases Ax c with ⟨_,e'⟩ | ⟨_,e'⟩ <;> omega
  have e3:2 ^ bl c≤2 ^ x:=Nat.pow_le_pow_right (by decide) hx
  rcases Nat.lt_or_ge k.natAbs (2 ^ (x+1 - bl c)) with z | z
  · exact z
  · exfalso
    have:=Nat.mul_le_mul h1 z
    rw [←Nat.pow_add,show bl c - 1+(x+1 - bl c)=x by omega] at this
    omega
theorem PK {f:I3} {top:Int} {m:Nat} (h:Bt m (kB f top)) (hm:1≤m):B4 m (Cg f top):=⟨Bt.zero.le (by omega),(Bt.one.le hm).neg,Bt.one.le hm,h⟩
noncomputable def Ng (n:Nat) (far:Int) (f0:I3) (t:I4):Prop :=
  det t=1∧B3 n (mov f0 t) ∧
  (if far < ab (mov f0 t).2.2 then ∃ β x,B4 β t∧Bt x (mov f0 t).2.1∧bl (mov f0 t).2.2≤x∧β+x+bl (mov f0 t).2.2≤2*n+1
   else if Level (mov f0 t) far then B4 (5*n+30) t else if far < 2*ab (mov f0 t).2.2 then B4 (3*n+10) t else B4 (4*n+20) t)
noncomputable def eM (far:Int) (f:I3):Nat:=if far < ab f.2.2 then (ab f.2.2).toNat+3 else if Level f far then 0 else if far < 2*ab f.2.2 then 2 else 1
theorem Ng.b4 {n:Nat} {far:Int} {f0:I3} {t:I4} (h:Ng n far f0 t):B4 (5*n+30) t:=by
  obtain ⟨_,_,h⟩:=h
  split at h
  · obtain ⟨β,x,hb,_,_,_⟩:=h
    exact hb.le (by omega)
  · split at h
    · exact h
    · split at h
      · exact h.le (by omega)
      · exact h.le (by omega)
theorem Ng.start {n:Nat} {far:Int} {f:I3} (hn:1≤n) (hf:B3 n f):Ng n far f (1,0,0,1):=by
  have one:B4 1 (1,0,0,1):=⟨Bt.one,Bt.zero.le (by omega),Bt.zero.le (by omega),Bt.one⟩
  unfold Ng
  rw [Dp]
  refine ⟨rfl,hf,?_⟩
  split
  · exact ⟨1,n,one,hf.2.1,Wl hf.2.2,by have:=Wl hf.2.2;omega⟩
  · split
    · exact one.le (by omega)
    · split
      · exact one.le (by omega)
      · exact one.le (by omega)
theorem Rq {n:Nat} {far:Int} {f0:I3} {t:I4} (hn:12≤n) (S:Sad f0) (r:Sq (meas f0) far) (I:Ng n far f0 t) (nl:¬ Level (mov f0 t) far) :
    Ng n far f0 (Ar t (Cg (mov f0 t) (if far > ab (mov f0 t).2.2 then far else ab (mov f0 t).2.2))) ∧
    eM far (mov f0 (Ar t (Cg (mov f0 t) (if far > ab (mov f0 t).2.2 then far else ab (mov f0 t).2.2)))) < eM far (mov f0 t) ∧
    B4 (n+3) (Cg (mov f0 t) (if far > ab (mov f0 t).2.2 then far else ab (mov f0 t).2.2)):=by
  have hb4:=I.b4
  obtain ⟨hd,hb,hI⟩:=I
  have Sf:=S.mov hd
  have hm:=Bs (f:=f0) hd
  have rf:Sq (meas (mov f0 t)) far:=by rw [hm];exact r
  have f63:=N8 rf Sf.most
  have far0:=r.1
  simp only [Ng,←Bj]
  rw [Cm,hd,Cq]
  generalize hf:mov f0 t=f at *
  have hc:=Gy Sf
  have c1:1≤ab f.2.2:=by rcases Ax f.2.2 with ⟨_,e1⟩ | ⟨_,e1⟩ <;> omega
  by_cases h1:far < ab f.2.2
  ·
    rw [if_pos h1] at hI
    obtain ⟨β,x,hβ,hx,hlx,hsum⟩:=hI
    rw [if_neg (show ¬ far > ab f.2.2 by omega)]
    have ⟨d1,d2⟩:=Jh (top:=ab f.2.2) hc
    have hk:=Hu (top:=ab f.2.2) hc
    obtain ⟨e,he⟩:=K1 (top:=ab f.2.2) hc
    have hme:meas (f.2.2,dB f (ab f.2.2),e)=meas f:=by rw [←he,Bs Cq]
    have hdc:ab (dB f (ab f.2.2))≤ab f.2.2:=by rcases Ax (dB f (ab f.2.2)) with ⟨_,e1⟩ | ⟨_,e1⟩ <;> omega
    have h4:=Abo rf Sf.pos hme h1 (by omega) d2
    have kbt:=Ug hc hx hlx hdc hk
    have k1:1≤x+1 - bl f.2.2:=by omega
    have hbeh:=PK kbt k1
    have hxn:bl f.2.2≤n:=Wl hb.2.2
    have hS':=Sf.mov (t:=Cg f (ab f.2.2)) Cq
    rw [he] at hS'
    have he0:e≠0:=Gy hS'
    have hfour:=(Xz h4 hc).resolve_right he0
    have hβ':=B4.then hβ hbeh
    rw [he]
    refine ⟨⟨rfl,⟨hb.2.2,Wz hb.2.2 hdc,Wz hb.2.2 (show ab e≤ab f.2.2 by have:=BX e;omega)⟩,?_⟩,?_,?_⟩
    · show if far < ab e then _ else _
      split
      · refine ⟨_,bl f.2.2,hβ',?_,?_,?_⟩
        · exact Wz Xg hdc
        · show bl e≤bl f.2.2;omega
        · show _+bl f.2.2+bl e≤_;omega
      · split
        · exact hβ'.le (by omega)
        · split
          · exact hβ'.le (by omega)
          · exact hβ'.le (by omega)
    · unfold eM
      rw [if_pos h1]
      show (if far < ab e then (ab e).toNat+3 else _) < _
      split
      · have:=BX e;omega
      · split
        · omega
        · split <;> omega
    ·
      have:Bt (n+1 - bl f.2.2) (kB f (ab f.2.2)):=Ug hc hb.2.1 hxn hdc hk
      exact (PK this (by omega)).le (by omega)
  · rw [if_neg h1,if_neg nl] at hI
    have etop:(if far > ab f.2.2 then far else ab f.2.2)=far:=by split <;> omega
    rw [etop]
    have ⟨d1,d2⟩:=Jh (top:=far) hc
    have hk:=Hu (top:=far) hc
    obtain ⟨e,he⟩:=K1 (top:=far) hc
    have hme:meas (f.2.2,dB f far,e)=meas f:=by rw [←he,Bs Cq]
    have hdf:ab (dB f far)≤far:=by rcases Ax (dB f far) with ⟨_,e1⟩ | ⟨_,e1⟩ <;> omega
    have hel:=Vn rf Sf.most Sf.pos hme hc hdf
    have kb:Bt (n+2) (kB f far):=by
      have e1:2*(ab f.2.2*ab (kB f far))=ab (f.2.1+dB f far):=by
        rw [←hk,Nz]
        have:2*f.2.2*kB f far=2*(f.2.2*kB f far):=by grind
        rw [this]
        rcases Ax (f.2.2*kB f far) with ⟨h1,e1⟩ | ⟨h1,e1⟩
        · rw [e1,ab,if_neg (by omega)]
        · rw [e1,ab,if_pos (by omega)];omega
      have e2:=Int.mul_le_mul_of_nonneg_right c1 (BX (kB f far))
      have e3:Bt (n+1) (f.2.1+dB f far):=by
        have:=(hb.2.1).add (show Bt 7 (dB f far) from Q5 (k:=63) (by omega) (by decide))
        exact this.le (by omega)
      refine Bt.le (n:=n+1) (Wz e3 ?_) (by omega)
      have:=BX (kB f far)
      omega
    have hbeh:=PK kb (by omega)
    rw [he]
    have hB:B3 n (f.2.2,dB f far,e):=⟨hb.2.2,Bt.le (n:=7) (Q5 (k:=63) (show ab (dB f far)≤63 by omega) (by decide)) (by omega),Bt.le (n:=12) (Q5 (x:=e) hel (by decide)) (by omega)⟩
    by_cases h2:far < 2*ab f.2.2
    · rw [if_pos h2] at hI
      have hβ':=B4.then hI hbeh
      have hh:=Aat rf Sf.no hme (by omega) h2 (by omega) d2
      have h3:¬ far < ab e:=by have:=BX e;omega
      refine ⟨⟨rfl,hB,?_⟩,?_,hbeh.le (by omega)⟩
      · show if far < ab e then _ else _
        rw [if_neg h3]
        split
        · exact hβ'.le (by omega)
        · rw [if_neg (show ¬ far < 2*ab (f.2.2,dB f far,e).2.2 by show ¬ far < 2*ab e;omega)]
          exact hβ'.le (by omega)
      · unfold eM
        rw [if_neg h1,if_neg nl,if_pos h2]
        show (if far < ab e then _ else _) < 2
        rw [if_neg h3]
        split
        · omega
        · rw [if_neg (show ¬ far < 2*ab (f.2.2,dB f far,e).2.2 by show ¬ far < 2*ab e;omega)]
          omega
    · rw [if_neg h2] at hI
      have hβ':=B4.then hI hbeh
      have hL:Level (f.2.2,dB f far,e) far:=Xk (by omega) d1 d2
      have h3:¬ far < ab e:=by
        have:=(Ij (f:=(f.2.2,dB f far,e)) (by rw [hme];exact rf) (by rw [hme];exact Sf.no) hL).2
        simp only at this
        omega
      refine ⟨⟨rfl,hB,?_⟩,?_,hbeh.le (by omega)⟩
      · show if far < ab e then _ else _
        rw [if_neg h3,if_pos hL]
        exact hβ'.le (by omega)
      · unfold eM
        rw [if_neg h1,if_neg nl,if_neg h2]
        show (if far < ab e then _ else _) < 1
        rw [if_neg h3,if_pos hL]
        omega
end My
namespace My
open PySem L2
noncomputable def Riv (f:I3):Prop:=(0 < f.1∧f.2.2 < 0)∧¬ JQ (meas f)
noncomputable abbrev tR:I4:=(1,1,0,1)
noncomputable abbrev tL:I4:=(1,0,1,1)
noncomputable def sm (f:I3):Int:=f.1+f.2.1+f.2.2
theorem ZL {a b c:Int}:mov (a,b,c) tR=(a,b+2*a,a+b+c):=by
  simp only [mov,val,mid,Prod.mk.injEq]
  refine ⟨?_,?_,?_⟩ <;> grind
theorem Zu {a b c:Int}:mov (a,b,c) tL=(a+b+c,b+2*c,c):=by
  simp only [mov,val,mid,Prod.mk.injEq]
  refine ⟨?_,?_,?_⟩ <;> grind
theorem Adn {f:I3} (n:¬ JQ (meas f)):sm f≠0:=fun h=>n ⟨f.1 - f.2.2,by
  obtain ⟨a,b,c⟩:=f
  simp only [sm,meas] at *
  have:b=-(a+c):=by omega
  subst this
  grind⟩
noncomputable def stT (f:I3):I4:=if sm f < 0 then tR else tL
noncomputable def nx (f:I3):I3:=mov f (stT f)
theorem Aee {f:I3}:det (stT f)=1:=by unfold stT;split <;> rfl
theorem Riv.next {f:I3} (h:Riv f):Riv (nx f):=by
  have hm:=Bs (f:=f) (Aee (f:=f))
  refine ⟨?_,by unfold nx;rw [hm];exact h.2⟩
  have hs:=Adn h.2
  obtain ⟨a,b,c⟩:=f
  obtain ⟨⟨h1,h2⟩,_⟩:=h
  by_cases h:sm (a,b,c) < 0
  · have e:nx (a,b,c)=(a,b+2*a,a+b+c):=by unfold nx;rw [show stT (a,b,c)=tR from if_pos h];exact ZL
    rw [e];exact ⟨h1,h⟩
  · have e:nx (a,b,c)=(a+b+c,b+2*c,c):=by unfold nx;rw [show stT (a,b,c)=tL from if_neg h];exact Zu
    rw [e]
    refine ⟨?_,h2⟩
    simp only [sm] at h hs ⊢
    omega
structure NN (t:I4):Prop where
  p:1≤t.1
  q:0≤t.2.1
  r:0≤t.2.2.1
  s:1≤t.2.2.2
  d:det t=1
noncomputable def sz (t:I4):Nat:=(t.1+t.2.1+t.2.2.1+t.2.2.2).toNat
theorem NN.split {t:I4} (h:NN t):t=(1,0,0,1)∨(∃ u,NN u∧t=Ar tR u∧sz u < sz t)∨(∃ u,NN u∧t=Ar tL u∧sz u < sz t):=by
  obtain ⟨p,q,r,s⟩:=t
  obtain ⟨hp,hq,hr,hs,hd⟩:=h
  simp only [det] at *
  by_cases c1:r≤p∧s≤q
  · refine .inr (.inl ⟨(p - r,q - s,r,s),⟨?_,by simp only;omega,hr,hs,?_⟩,?_,?_⟩)
    · show 1≤p - r
      have e:(p - r)*s - (q - s)*r=1:=by grind
      have z:=Int.mul_nonneg (show 0≤q - s by omega) hr
      rcases Int.lt_or_le (p - r) 1 with w | w
      · have:(p - r)*s≤0*s:=Int.mul_le_mul_of_nonneg_right (by omega) (by omega)
        omega
      · exact w
    · show (p - r)*s - (q - s)*r=1
      grind
    · simp only [Ar,Prod.mk.injEq]
      refine ⟨?_,?_,?_,?_⟩ <;> omega
    · simp only [sz];omega
  · by_cases c2:p≤r∧q≤s
    · refine .inr (.inr ⟨(p,q,r - p,s - q),⟨hp,hq,by simp only;omega,?_,?_⟩,?_,?_⟩)
      · show 1≤s - q
        have e:p*(s - q) - q*(r - p)=1:=by grind
        have z:=Int.mul_nonneg hq (show 0≤r - p by omega)
        rcases Int.lt_or_le (s - q) 1 with w | w
        · have:p*(s - q)≤p*0:=Int.mul_le_mul_of_nonneg_left (by omega) (by omega)
          omega
        · exact w
      · show p*(s - q) - q*(r - p)=1
        grind
      · simp only [Ar,Prod.mk.injEq]
        refine ⟨?_,?_,?_,?_⟩ <;> omega
      · simp only [sz];omega
    · rcases Int.lt_or_le r p with w | w
      ·
        have w2:q < s:=by omega
        have z:=Int.mul_le_mul (show r+1≤p by omega) (show q+1≤s by omega) (by omega) (by omega)
        have e:(r+1)*(q+1)=r*q+r+q+1:=by grind
        have e2:r*q=q*r:=Int.mul_comm r q
        have r0:r=0:=by omega
        have q0:q=0:=by omega
        subst r0 q0
        left
        have hps:p*s=1:=by omega
        have p1:p=1:=by
          rcases Int.lt_or_le p 2 with v | v
          · omega
          · have:=Int.mul_le_mul v hs (by decide) (by omega)
            omega
        subst p1
        have:s=1:=by omega
        rw [this]
      ·
        have w2:s < q:=by omega
        have w3:p < r:=by
          rcases Int.lt_or_le p r with v | v
          · exact v
          · have:p=r:=by omega
            subst this
            exfalso
            have e:p*s - q*p=p*(s - q):=by grind
            have:=Int.mul_le_mul_of_nonneg_left (show s - q≤-1 by omega) (show 0≤p by omega)
            omega
        exfalso
        have z:=Int.mul_le_mul (show p≤r - 1 by omega) (show s≤q - 1 by omega) (by omega) (by omega)
        have e:(r - 1)*(q - 1)=q*r - r - q+1:=by grind
        omega
noncomputable def wd:Nat→I3→I4
  | 0,_=>(1,0,0,1)
  | n+1,f=>Ar (stT f) (wd n (nx f))
noncomputable def nxs:Nat→I3→I3
  | 0,f=>f
  | n+1,f=>nxs n (nx f)
theorem HJ {t:I4}:Ar (1,0,0,1) t=t:=by
  obtain ⟨p,q,r,s⟩:=t
  simp only [Ar,Prod.mk.injEq]
  refine ⟨?_,?_,?_,?_⟩ <;> omega
theorem GK {t:I4}:Ar t (1,0,0,1)=t:=by
  obtain ⟨p,q,r,s⟩:=t
  simp only [Ar,Prod.mk.injEq]
  refine ⟨?_,?_,?_,?_⟩ <;> omega
theorem then_assoc {t u v:I4}:Ar (Ar t u) v=Ar t (Ar u v):=by
  obtain ⟨a,b,c,d⟩:=t;obtain ⟨e,f,g,h⟩:=u;obtain ⟨i,j,k,l⟩:=v
  simp only [Ar,Prod.mk.injEq]
  refine ⟨?_,?_,?_,?_⟩ <;> grind
theorem Kf:∀ (n:Nat) (f:I3),mov f (wd n f)=nxs n f
  | 0,f=>Dp
  | n+1,f=>by rw [wd,←Bj];exact Kf n (nx f)
theorem Ws {a b c x y:Int} (ha:0 < a) (hb:0 < b) (hc:0 < c) (hx:0≤x) (hy:0≤y):0≤val (a,b,c) (x,y):=by
  have e:val (a,b,c) (x,y)=a*(x*x)+b*(x*y)+c*(y*y):=by simp only [val];grind
  have h1:=Int.mul_nonneg (show 0≤a by omega) (Int.mul_nonneg hx hx)
  have h2:=Int.mul_nonneg (show 0≤b by omega) (Int.mul_nonneg hx hy)
  have h3:=Int.mul_nonneg (show 0≤c by omega) (Int.mul_nonneg hy hy)
  omega
theorem neg_val {a b c x y:Int} (ha:a < 0) (hb:b < 0) (hc:c < 0) (hx:0≤x) (hy:0≤y):val (a,b,c) (x,y)≤0:=by
  have:=Ws (a:=-a) (b:=-b) (c:=-c) (by omega) (by omega) (by omega) hx hy
  have e:val (-a,-b,-c) (x,y)=-val (a,b,c) (x,y):=by simp only [val];grind
  omega
theorem along:∀ (m:Nat) (f:I3) (t:I4),sz t≤m→Riv f→NN t→Riv (mov f t)→∃ n,t=wd n f:=by
  intro m
  induction m with
  | zero =>
    intro f t hs _ hN _
    exfalso
    have:=hN.p;have:=hN.q;have:=hN.r;have:=hN.s
    unfold sz at hs
    omega
  | succ m ih =>
    intro f t hs hf hN hg
    rcases hN.split with e | ⟨u,hu,e,hl⟩ | ⟨u,hu,e,hl⟩
    · exact ⟨0,e⟩
    · have hsm:sm f < 0:=by
        have hne:=Adn hf.2
        rcases Int.lt_or_le (sm f) 0 with z | z
        · exact z
        · exfalso
          rw [e,←Bj] at hg
          obtain ⟨a,b,c⟩:=f
          obtain ⟨p,q,r,s⟩:=u
          rw [ZL] at hg
          have h1:(mov (a,b+2*a,a+b+c) (p,q,r,s)).2.2 < 0:=hg.1.2
          have h2:0 < a:=hf.1.1
          have h3:c < 0:=hf.1.2
          simp only [sm] at hne z
          have h4:0≤val (a,b+2*a,a+b+c) (q,s):=Ws h2 (by omega) (by omega) hu.q (by have:=hu.s;simp only at this;omega)
          have h5:(mov (a,b+2*a,a+b+c) (p,q,r,s)).2.2=val (a,b+2*a,a+b+c) (q,s):=rfl
          omega
      have hst:stT f=tR:=by unfold stT;rw [if_pos hsm]
      have hnx:nx f=mov f tR:=by unfold nx;rw [hst]
      have hr:=hf.next
      obtain ⟨n,en⟩:=ih (nx f) u (by omega) hr hu (by rw [hnx,Bj,←e];exact hg)
      exact ⟨n+1,by rw [wd,hst,←en];exact e⟩
    · have hsm:¬ sm f < 0:=by
        intro z
        rw [e,←Bj] at hg
        obtain ⟨a,b,c⟩:=f
        obtain ⟨p,q,r,s⟩:=u
        rw [Zu] at hg
        have h1:0 < (mov (a+b+c,b+2*c,c) (p,q,r,s)).1:=hg.1.1
        have h2:0 < a:=hf.1.1
        have h3:c < 0:=hf.1.2
        simp only [sm] at z
        have h4:val (a+b+c,b+2*c,c) (p,r)≤0:=neg_val (by omega) (by omega) h3 (by have:=hu.p;simp only at this;omega) hu.r
        have h5:(mov (a+b+c,b+2*c,c) (p,q,r,s)).1=val (a+b+c,b+2*c,c) (p,r):=rfl
        omega
      have hst:stT f=tL:=by unfold stT;rw [if_neg hsm]
      have hnx:nx f=mov f tL:=by unfold nx;rw [hst]
      have hr:=hf.next
      obtain ⟨n,en⟩:=ih (nx f) u (by omega) hr hu (by rw [hnx,Bj,←e];exact hg)
      exact ⟨n+1,by rw [wd,hst,←en];exact e⟩
noncomputable def G4 (t:I4):I4:=(-t.1,-t.2.1,-t.2.2.1,-t.2.2.2)
theorem Ny {f:I3} {t:I4}:mov f (G4 t)=mov f t:=by
  obtain ⟨a,b,c⟩:=f;obtain ⟨p,q,r,s⟩:=t
  simp only [mov,val,mid,G4,Prod.mk.injEq]
  refine ⟨?_,?_,?_⟩ <;> grind
theorem neg_neg {t:I4}:G4 (G4 t)=t:=by
  obtain ⟨p,q,r,s⟩:=t
  simp only [G4,Prod.mk.injEq]
  refine ⟨?_,?_,?_,?_⟩ <;> omega
theorem Acg {t:I4}:det (G4 t)=det t:=by
  obtain ⟨p,q,r,s⟩:=t
  simp only [det,G4];grind
theorem Tv {t:I4}:Av (G4 t)=G4 (Av t):=by
  obtain ⟨p,q,r,s⟩:=t
  simp only [Av,G4]
theorem signs {f:I3} {t:I4} (hf:Riv f) (hd:det t=1) (hg:Riv (mov f t)) (hp:0≤t.1):NN t∨NN (Av t):=by
  obtain ⟨a,b,c⟩:=f
  obtain ⟨p,q,r,s⟩:=t
  have ha:0 < a:=hf.1.1
  have hc:c < 0:=hf.1.2
  have hu:0 < val (a,b,c) (p,r):=hg.1.1
  have hv:val (a,b,c) (q,s) < 0:=hg.1.2
  have hp:0≤p:=hp
  have p0:p≠0:=fun e=>by
    subst e
    rw [Vp] at hu
    have:=Int.mul_nonneg (show 0≤-c by omega) (sq_nonneg r)
    have e:-c*(r*r)=-(c*(r*r)):=by grind
    omega
  have s0:s≠0:=fun e=>by
    subst e
    rw [Kr] at hv
    have:=Int.mul_nonneg (show 0≤a by omega) (sq_nonneg q)
    omega
  have hd':p*s - q*r=1:=hd
  have key:val (a,b,c) (p,r)*(q*s) - val (a,b,c) (q,s)*(p*r)=(p*s - q*r)*(a*(p*q) - c*(r*s)):=by simp only [val];grind
  have hs:0 < s:=by
    rcases Int.lt_or_le 0 s with z | z
    · exact z
    · exfalso
      have z:s≤-1:=by omega
      have h1:p*s≤1 * -1:=by
        have:=Int.mul_le_mul_of_nonneg_left z (show 0≤p by omega)
        omega
      have hqr:q*r≤-2:=by omega
      rw [hd',Int.one_mul] at key
      rcases Int.lt_or_le q 0 with hq | hq
      · have hr:0 < r:=by
          rcases Int.lt_or_le 0 r with w | w
          · exact w
          · have:=Int.mul_nonneg_of_nonpos_of_nonpos (show q≤0 by omega) w
            omega
        have k1:=Int.mul_pos hu (Int.mul_pos_of_neg_of_neg hq (show s < 0 by omega))
        have k2:=Int.mul_neg_of_neg_of_pos hv (Int.mul_pos (show 0 < p by omega) hr)
        have k3:=Int.mul_neg_of_pos_of_neg ha (Int.mul_neg_of_pos_of_neg (show 0 < p by omega) hq)
        have k4:=Int.mul_pos_of_neg_of_neg hc (Int.mul_neg_of_pos_of_neg hr (show s < 0 by omega))
        omega
      · have hq':0 < q:=by
          rcases Int.lt_or_le 0 q with w | w
          · exact w
          · have:q=0:=by omega
            subst this
            omega
        have hr:r < 0:=by
          rcases Int.lt_or_le r 0 with w | w
          · exact w
          · have:=Int.mul_nonneg hq w
            omega
        have k1:=Int.mul_neg_of_pos_of_neg hu (Int.mul_neg_of_pos_of_neg hq' (show s < 0 by omega))
        have k2:=Int.mul_pos_of_neg_of_neg hv (Int.mul_neg_of_pos_of_neg (show 0 < p by omega) hr)
        have k3:=Int.mul_pos ha (Int.mul_pos (show 0 < p by omega) hq')
        have k4:=Int.mul_neg_of_neg_of_pos hc (Int.mul_pos_of_neg_of_neg hr (show s < 0 by omega))
        omega
  have hps:=Int.mul_le_mul (show 1≤p by omega) (show 1≤s by omega) (by decide) (by omega)
  by_cases hq:0≤q∧0≤r
  · exact .inl ⟨by simp only;omega,hq.1,hq.2,by simp only;omega,hd⟩
  · right
    have hqr:q≤0∧r≤0:=by
      rcases Int.lt_trichotomy q 0 with w | w | w
      · refine ⟨by omega,?_⟩
        rcases Int.lt_or_le 0 r with v | v
        · have:=Int.mul_neg_of_neg_of_pos w v;omega
        · exact v
      · omega
      · exfalso
        have:r < 0:=by omega
        have:=Int.mul_neg_of_pos_of_neg w this
        omega
    exact ⟨by simp only [Av];omega,by simp only [Av];omega,by simp only [Av];omega,by simp only [Av];omega,Et.trans hd⟩
theorem AfC {f:I3} {t:I4} (hf:Riv f) (hd:det t=1) (hg:Riv (mov f t)) :
    (∃ n,t=wd n f∨t=G4 (wd n f))∨(∃ n,Av t=wd n (mov f t)∨Av t=G4 (wd n (mov f t))):=by
  have core:∀ t:I4,det t=1→Riv (mov f t)→0≤t.1→(∃ n,t=wd n f)∨(∃ n,Av t=wd n (mov f t)):=fun t hd hg hp=>by
    rcases signs hf hd hg hp with h | h
    · exact .inl (along _ f t (Nat.le_refl _) hf h hg)
    · exact .inr (along _ (mov f t) (Av t) (Nat.le_refl _) hg h (by rw [Cd hd];exact hf))
  rcases Int.le_total 0 t.1 with hp | hp
  · rcases core t hd hg hp with ⟨n,h⟩ | ⟨n,h⟩
    · exact .inl ⟨n,.inl h⟩
    · exact .inr ⟨n,.inl h⟩
  · rcases core (G4 t) (Acg.trans hd) (by rw [Ny];exact hg) (by show 0≤-t.1;omega) with ⟨n,h⟩ | ⟨n,h⟩
    · exact .inl ⟨n,.inr (by rw [←h,neg_neg])⟩
    · rw [Ny,Tv] at h
      exact .inr ⟨n,.inr (by rw [←h,neg_neg])⟩
end My
namespace My
open PySem L2
structure Lv (far:Int) (f:I3):Prop where
  S:Sad f
  r:Sq (meas f) far
  L:Level f far
noncomputable abbrev aft (far:Int) (f:I3):I3:=mov f (Cg f far)
theorem Lv.next {far:Int} {f:I3} (h:Lv far f):Lv far (aft far f) :=
  ⟨h.S.mov Cq,by rw [Bs Cq];exact h.r,Vc h.S h.r h.L⟩
theorem Lv.ac {far:Int} {f:I3} (h:Lv far f):f.1*f.2.2 < 0:=by
  have hf:=Vl h.r h.S.no
  obtain ⟨⟨l1,l2⟩,_,_⟩:=h.L
  obtain ⟨a,b,c⟩:=f
  have l1:0 < b:=l1
  have l2:b≤far:=l2
  have hb:b*b≤far*far:=Int.mul_le_mul l2 l2 (by omega) (by omega)
  have e:meas (a,b,c)=b*b - 4*(a*c):=by simp only [meas];grind
  show a*c < 0
  omega
theorem Lv.neg {far:Int} {f:I3} (h:Lv far f) (ha:0 < f.1):f.2.2 < 0:=by
  rcases Int.lt_or_le f.2.2 0 with z | z
  · exact z
  · have:=h.ac
    have:=Int.mul_nonneg (show 0≤f.1 by omega) z
    omega
theorem Lv.pos {far:Int} {f:I3} (h:Lv far f) (ha:f.1 < 0):0 < f.2.2:=by
  rcases Int.lt_or_le 0 f.2.2 with z | z
  · exact z
  · have:=h.ac
    have:=Int.mul_nonneg_of_nonpos_of_nonpos (show f.1≤0 by omega) z
    omega
theorem Gz {far:Int} {f:I3} (h:Lv far f):(aft far f).1=f.2.2∧(aft far f).2.1=dB f far∧(aft far f).2.2=f.1 - f.2.1*kB f far+f.2.2*(kB f far*kB f far):=by
  obtain ⟨e,he⟩:=K1 (top:=far) (Gy h.S)
  refine ⟨by show (mov f (Cg f far)).1=_;rw [he],by show (mov f (Cg f far)).2.1=_;rw [he],?_⟩
  show val f (-1,kB f far)=_
  simp only [val];grind
theorem Lv.riv {far:Int} {f:I3} (h:Lv far f) (ha:0 < f.1):Riv f:=⟨⟨ha,h.neg ha⟩,h.S.no⟩
theorem Wq {far:Int} {f g:I3} (hf:Lv far f) (hg:Lv far g) (hm:meas f=meas g) (h:aft far f=aft far g):f=g:=by
  have ⟨f1,f2,_⟩:=Gz hf
  have ⟨g1,g2,_⟩:=Gz hg
  have hc:f.2.2=g.2.2:=by rw [←f1,h,g1]
  have hd:dB f far=dB g far:=by rw [←f2,h,g2]
  have kf:=Hu (top:=far) (Gy hf.S)
  have kg:=Hu (top:=far) (Gy hg.S)
  have cf:=(Ij hf.r hf.S.no hf.L).1
  have cg:=(Ij hg.r hg.S.no hg.L).1
  have lf:=hf.L.1.2
  have lg:=hg.L.1.2
  have c0:=Gy hf.S
  obtain ⟨a,b,c⟩:=f
  obtain ⟨a',b',c'⟩:=g
  simp only at hc hd kf kg cf cg lf lg c0
  subst hc
  rw [←hd] at kg
  have hb:b=b':=by
    have e:b - b'=2*(c*(kB (a,b,c) far - kB (a',b',c) far)):=by
      have:2*(c*(kB (a,b,c) far - kB (a',b',c) far))=2*c*kB (a,b,c) far - 2*c*kB (a',b',c) far:=by grind
      omega
    generalize kB (a,b,c) far - kB (a',b',c) far=k at *
    have hx:ab (c*k)=ab c*ab k:=(Nz c k).symm
    have hk:ab k=0:=by
      rcases Int.lt_or_le (ab k) 1 with z | z
      · have:=BX k;omega
      · exfalso
        have:=Int.mul_le_mul_of_nonneg_left z (BX c)
        rcases Ax (c*k) with ⟨_,e1⟩ | ⟨_,e1⟩ <;> omega
    rw [hk] at hx
    have:c*k=0:=by rcases Ax (c*k) with ⟨_,e1⟩ | ⟨_,e1⟩ <;> omega
    omega
  subst hb
  have e1:4*c*a=4*c*a':=by
    simp only [meas] at hm
    have x1:4*a*c=4*c*a:=by grind
    have x2:4*a'*c=4*c*a':=by grind
    omega
  have:a=a':=Int.eq_of_mul_eq_mul_left (show 4*c≠0 by omega) e1
  rw [this]
theorem Ai8:∀ (k:Nat) (a b c:Int),(∀ j:Nat,1≤j→j≤k→0 < a+b*j+c*(j*j))→wd k (a,b,c)=(1,0,(k:Int),1)
  | 0,_,_,_,_=>rfl
  | k+1,a,b,c,h=>by
    have h1:=h 1 (by omega) (by omega)
    have hs:¬ sm (a,b,c) < 0:=by simp only [sm];simp at h1;omega
    have e:nx (a,b,c)=(a+b+c,b+2*c,c):=by unfold nx;rw [show stT (a,b,c)=tL from if_neg hs];exact Zu
    rw [wd,e,show stT (a,b,c)=tL from if_neg hs,Ai8 k _ _ _ fun j j1 jk=>?_]
    · simp only [Ar,Prod.mk.injEq]
      refine ⟨by omega,by omega,by push_cast;omega,by omega⟩
    · have:=h (j+1) (by omega) (by omega)
      have e2:a+b+c+(b+2*c)*(j:Int)+c*((j:Int)*j)=a+b*((j+1:Nat):Int)+c*(((j+1:Nat):Int)*((j+1:Nat):Int)):=by push_cast;grind
      rw [e2];exact this
theorem Aii:∀ (k:Nat) (a b c:Int),(∀ j:Nat,1≤j→j≤k→a*(j*j)+b*j+c < 0)→wd k (a,b,c)=(1,(k:Int),0,1)
  | 0,_,_,_,_=>rfl
  | k+1,a,b,c,h=>by
    have h1:=h 1 (by omega) (by omega)
    have hs:sm (a,b,c) < 0:=by simp only [sm];simp at h1;omega
    have e:nx (a,b,c)=(a,b+2*a,a+b+c):=by unfold nx;rw [show stT (a,b,c)=tR from if_pos hs];exact ZL
    rw [wd,e,show stT (a,b,c)=tR from if_pos hs,Aii k _ _ _ fun j j1 jk=>?_]
    · simp only [Ar,Prod.mk.injEq]
      refine ⟨by omega,by push_cast;omega,by omega,by omega⟩
    · have:=h (j+1) (by omega) (by omega)
      have e2:a*((j:Int)*j)+(b+2*a)*(j:Int)+(a+b+c)=a*(((j+1:Nat):Int)*((j+1:Nat):Int))+b*((j+1:Nat):Int)+c:=by push_cast;grind
      rw [e2];exact this
theorem Va:∀ (m n:Nat) (f:I3),wd (m+n) f=Ar (wd m f) (wd n (nxs m f))
  | 0,n,f=>by rw [Nat.zero_add];exact HJ.symm
  | m+1,n,f=>by
    rw [show m+1+n=(m+n)+1 by omega,wd,Va m n (nx f),wd,then_assoc];rfl
theorem S5:∀ (m n:Nat) (f:I3),nxs (m+n) f=nxs n (nxs m f)
  | 0,n,f=>by rw [Nat.zero_add];rfl
  | m+1,n,f=>by rw [show m+1+n=(m+n)+1 by omega];exact S5 m n (nx f)
theorem Ah2 {a b c k j:Int} (hc:c≤0) (h0:0 < a) (hk:0 < a+b*k+c*(k*k)) (j0:0≤j) (jk:j≤k) (k0:0 < k):0 < a+b*j+c*(j*j):=by
  have e:k*(a+b*j+c*(j*j))=(k - j)*a+j*(a+b*k+c*(k*k))+(-c)*(j*(k - j)*k):=by grind
  have h1:=Int.mul_nonneg (show 0≤k - j by omega) (show 0≤a by omega)
  have h2:=Int.mul_nonneg j0 (show 0≤a+b*k+c*(k*k) by omega)
  have h3:=Int.mul_nonneg (show 0≤-c by omega) (Int.mul_nonneg (Int.mul_nonneg j0 (show 0≤k - j by omega)) (show 0≤k by omega))
  have h4:0 < (k - j)*a+j*(a+b*k+c*(k*k)):=by
    by_cases z:j=k
    · subst z
      have:=Int.mul_pos k0 hk
      omega
    · have:=Int.mul_pos (show 0 < k - j by omega) h0
      omega
  rcases Int.lt_or_le 0 (a+b*j+c*(j*j)) with z | z
  · exact z
  · have:=Int.mul_le_mul_of_nonneg_left z (show 0≤k by omega)
    omega
theorem Lv.k_sign {far:Int} {f:I3} (h:Lv far f):(0 < f.1→kB f far < 0)∧(f.1 < 0→0 < kB f far):=by
  have hk:=Hu (top:=far) (Gy h.S)
  have hd:0 < dB f far:=by
    have:=h.next.L.1.1
    rw [(Gz h).2.1] at this
    exact this
  have hb:=h.L.1.1
  constructor
  · intro ha
    have hc:=h.neg ha
    rcases Int.lt_or_le (kB f far) 0 with z | z
    · exact z
    · have:=Int.mul_nonneg (show 0≤-(2*f.2.2) by omega) z
      have e:-(2*f.2.2)*kB f far=-(2*f.2.2*kB f far):=by grind
      omega
  · intro ha
    have hc:=h.pos ha
    rcases Int.lt_or_le 0 (kB f far) with z | z
    · exact z
    · have:=Int.mul_nonneg (show 0≤2*f.2.2 by omega) (show 0≤-kB f far by omega)
      have e:2*f.2.2 * -kB f far=-(2*f.2.2*kB f far):=by grind
      omega
theorem X5 {far:Int} {f:I3} (h:Lv far f) (ha:0 < f.1) :
    ∃ N:Nat,2≤N∧nxs N f=aft far (aft far f)∧wd N f=G4 (Ar (Cg f far) (Cg (aft far f) far))∧∀ j,0 < j→j < N→¬ Lv far (nxs j f):=by
  have h':=h.next
  have h'':=h'.next
  have hc:=h.neg ha
  have ⟨g1,g2,g3⟩:=Gz h
  have a':(aft far f).1 < 0:=by rw [g1];exact hc
  have he:=h'.pos a'
  have ⟨q1,q2,q3⟩:=Gz h'
  have a'':0 < (aft far (aft far f)).1:=by rw [q1];exact he
  have he'':=h''.neg a''
  have kn:=h.k_sign.1 ha
  have kp:=h'.k_sign.2 a'
  have hk1:=Hu (top:=far) (Gy h.S)
  have hk2:=Hu (top:=far) (Gy h'.S)
  have lb:=h.L.1.2
  have ld':=h''.L.1.2
  rw [q2] at ld'
  rw [g2] at hk2
  rw [q3,g1,g2] at he''
  rw [g3] at he
  have hbeh1:Cg f far=(0,-1,1,kB f far):=rfl
  have hbeh2:Cg (aft far f) far=(0,-1,1,kB (aft far f) far):=rfl
  rw [hbeh1,hbeh2]
  have e22:(aft far f).2.2=f.1 - f.2.1*kB f far+f.2.2*(kB f far*kB f far):=g3
  generalize hF:aft far (aft far f)=F at *
  generalize hd':dB (aft far f) far=d' at *
  generalize hk2':kB (aft far f) far=k2 at *
  have hform:nxs 0 f=f:=rfl
  generalize hg:aft far f=g at *
  generalize hd:dB f far=d at *
  generalize hk1':kB f far=k1 at *
  obtain ⟨a,b,c⟩:=f
  have ha:0 < a:=ha
  have hc:c < 0:=hc
  have lb:b≤far:=lb
  have he:0 < a - b*k1+c*(k1*k1):=he
  have hk1:2*c*k1=b+d:=hk1
  have he'':c - d*k2+g.2.2*(k2*k2) < 0:=he''
  have e22:g.2.2=a - b*k1+c*(k1*k1):=e22
  rw [e22] at he'' hk2
  obtain ⟨n1,hn1⟩:∃ n:Nat,-k1=n:=⟨(-k1).toNat,by omega⟩
  obtain ⟨n2,hn2⟩:∃ n:Nat,k2=n:=⟨k2.toNat,by omega⟩
  have hk1n:k1=-(n1:Int):=by omega
  have hw1:∀ i:Nat,i≤n1→wd i (a,b,c)=(1,0,(i:Int),1):=fun i hi=>Ai8 i a b c fun j j1 ji=>by
    refine Ah2 (k:=n1) (by omega) ha ?_ (by omega) (by omega) (by omega)
    have:a+b*(n1:Int)+c*((n1:Int)*n1)=a - b*k1+c*(k1*k1):=by rw [hk1n];grind
    omega
  have hF1:nxs n1 (a,b,c)=(a - b*k1+c*(k1*k1),-d,c):=by
    rw [←Kf,hw1 n1 (Nat.le_refl _)]
    have e1:-d=b+2*c*n1:=by
      have:2*c*(n1:Int)=-(2*c*k1):=by rw [hk1n];grind
      omega
    rw [e1,hk1n]
    simp only [mov,val,mid,Prod.mk.injEq]
    refine ⟨?_,?_,?_⟩ <;> grind
  generalize hee:a - b*k1+c*(k1*k1)=e at *
  have hw2:∀ i:Nat,i≤n2→wd i (e,-d,c)=(1,(i:Int),0,1):=fun i hi=>Aii i e (-d) c fun j j1 ji=>by
    have:=Ah2 (a:=-c) (b:=d) (c:=-e) (k:=n2) (j:=j) (by omega) (by omega) (by
      have:-c+d*(n2:Int) + -e*((n2:Int)*n2)=-(c - d*k2+e*(k2*k2)):=by rw [hn2];grind
      omega) (by omega) (by omega) (by omega)
    have e1:e*((j:Int)*j) + -d*j+c=-(-c+d*(j:Int) + -e*((j:Int)*j)):=by grind
    omega
  have hF2:∀ i:Nat,i≤n2→nxs (n1+i) (a,b,c)=(e,-d+2*e*i,e*((i:Int)*i) - d*i+c):=fun i hi=>by
    rw [S5,hF1,←Kf,hw2 i hi]
    simp only [mov,val,mid,Prod.mk.injEq]
    refine ⟨?_,?_,?_⟩ <;> grind
  have hwd:wd (n1+n2) (a,b,c)=G4 (Ar (0,-1,1,k1) (0,-1,1,k2)):=by
    rw [Va,hF1,hw1 n1 (Nat.le_refl _),hw2 n2 (Nat.le_refl _),hk1n,hn2]
    simp only [Ar,G4,Prod.mk.injEq]
    refine ⟨?_,?_,?_,?_⟩ <;> grind
  refine ⟨n1+n2,by omega,?_,hwd,?_⟩
  · rw [←Kf,hwd,Ny,←Bj,←hF,←hg]
    show mov (mov (a,b,c) (0,-1,1,k1)) (0,-1,1,k2)=_
    rw [←hk1',←hk2',←hg];rfl
  · intro j j0 jn hL
    rcases Nat.lt_or_ge n1 j with z | z
    · obtain ⟨i,rfl⟩:∃ i,j=n1+i:=⟨j - n1,by omega⟩
      rw [hF2 i (by omega)] at hL
      have l1:=hL.L.2.1
      have l1:far - (-d+2*e*i) < 2*ab e:=l1
      rw [show ab e=e from if_neg (by omega)] at l1
      have hi:(i:Int)≤n2 - 1:=by omega
      have:=Int.mul_le_mul_of_nonneg_left hi (show 0≤2*e by omega)
      have e1:2*e*((n2:Int) - 1)=2*e*k2 - 2*e:=by rw [hn2];grind
      omega
    · have hj:nxs j (a,b,c)=(a+b*j+c*((j:Int)*j),b+2*c*j,c):=by
        rw [←Kf,hw1 j z]
        simp only [mov,val,mid,Prod.mk.injEq]
        refine ⟨?_,?_,?_⟩ <;> grind
      rw [hj] at hL
      have l1:=(Ij hL.r hL.S.no hL.L).1
      have l1:far - (b+2*c*j) < 2*ab c:=l1
      rw [show ab c=-c from if_pos hc] at l1
      have:=Int.mul_le_mul_of_nonneg_left (show (1:Int)≤j by omega) (show 0≤-(2*c) by omega)
      have e1:-(2*c)*(j:Int)=-(2*c*j):=by grind
      omega
end My
namespace My
open PySem L2
noncomputable def Sg (t u:I4):Prop:=t=u∨t=G4 u
theorem UL {t u:I4}:Ar (G4 t) u=G4 (Ar t u):=by
  obtain ⟨a,b,c,d⟩:=t;obtain ⟨e,f,g,h⟩:=u
  simp only [Ar,G4,Prod.mk.injEq]
  refine ⟨?_,?_,?_,?_⟩ <;> grind
theorem Ui {t u:I4}:Ar t (G4 u)=G4 (Ar t u):=by
  obtain ⟨a,b,c,d⟩:=t;obtain ⟨e,f,g,h⟩:=u
  simp only [Ar,G4,Prod.mk.injEq]
  refine ⟨?_,?_,?_,?_⟩ <;> grind
theorem Gg {t:I4}:Av (Av t)=t:=by
  obtain ⟨a,b,c,d⟩:=t
  simp only [Av,Prod.mk.injEq]
  refine ⟨trivial,?_,?_,trivial⟩ <;> omega
theorem Ol {t u:I4}:Av (Ar t u)=Ar (Av u) (Av t):=by
  obtain ⟨a,b,c,d⟩:=t;obtain ⟨e,f,g,h⟩:=u
  simp only [Ar,Av,Prod.mk.injEq]
  refine ⟨?_,?_,?_,?_⟩ <;> grind
theorem Sg.refl {t:I4}:Sg t t:=.inl rfl
theorem Sg.trans {t u v:I4} (h:Sg t u) (k:Sg u v):Sg t v:=by
  rcases h with rfl | rfl <;> rcases k with rfl | rfl
  · exact .inl rfl
  · exact .inr rfl
  · exact .inr rfl
  · exact .inl neg_neg
theorem Sg.then {t u t' u':I4} (h:Sg t t') (k:Sg u u'):Sg (Ar t u) (Ar t' u'):=by
  rcases h with rfl | rfl <;> rcases k with rfl | rfl
  · exact .inl rfl
  · exact .inr Ui
  · exact .inr UL
  · exact .inl (by rw [UL,Ui,neg_neg])
theorem Sg.back {t u:I4} (h:Sg t u):Sg (Av t) (Av u):=by
  rcases h with rfl | rfl
  · exact .inl rfl
  · exact .inr Tv
theorem Sg.mov {f:I3} {t u:I4} (h:Sg t u):mov f t=mov f u:=by
  rcases h with rfl | rfl
  · rfl
  · exact Ny
noncomputable def rF (far:Int):Nat→I3→I3
  | 0,f=>f
  | n+1,f=>rF far n (aft far f)
noncomputable def rT (far:Int):Nat→I3→I4
  | 0,_=>(1,0,0,1)
  | n+1,f=>Ar (Cg f far) (rT far n (aft far f))
theorem Gu {far:Int}:∀ (n:Nat) (f:I3),mov f (rT far n f)=rF far n f
  | 0,_=>Dp
  | n+1,f=>by rw [rT,←Bj];exact Gu n (aft far f)
theorem Oo {far:Int}:∀ (n:Nat) (f:I3),det (rT far n f)=1
  | 0,_=>rfl
  | n+1,f=>by rw [rT,Cm,Cq,Oo n (aft far f)];rfl
theorem Fy {far:Int}:∀ (m n:Nat) (f:I3),rF far (m+n) f=rF far n (rF far m f)
  | 0,n,f=>by rw [Nat.zero_add];rfl
  | m+1,n,f=>by rw [show m+1+n=(m+n)+1 by omega];exact Fy m n (aft far f)
theorem Tf {far:Int}:∀ (m n:Nat) (f:I3),rT far (m+n) f=Ar (rT far m f) (rT far n (rF far m f))
  | 0,n,f=>by rw [Nat.zero_add];exact HJ.symm
  | m+1,n,f=>by rw [show m+1+n=(m+n)+1 by omega,rT,Tf m n (aft far f),rT,then_assoc];rfl
theorem RQ {far:Int} {n:Nat} {f:I3}:rF far (n+1) f=aft far (rF far n f):=by rw [Fy];rfl
theorem Xf {far:Int} {n:Nat} {f:I3}:rT far (n+1) f=Ar (rT far n f) (Cg (rF far n f) far):=by
  rw [Tf]
  show Ar _ (Ar _ (1,0,0,1))=_
  rw [GK]
theorem Lv.rF {far:Int}:∀ (n:Nat) {f:I3},Lv far f→Lv far (rF far n f)
  | 0,_,h=>h
  | n+1,_,h=>Lv.rF n h.next
theorem K5 {far:Int} (n:Nat) (f:I3):meas (rF far n f)=meas f:=by rw [←Gu,Bs (Oo n f)]
theorem WM {far:Int}:∀ (n:Nat) (f:I3),Lv far f→0 < f.1→Lv far (nxs n f)→∃ m,Sg (wd n f) (rT far m f):=by
  intro n
  induction n using Nat.strongRecOn with
  | ind n ih =>
    intro f hf ha hg
    by_cases h0:n=0
    · subst h0
      exact ⟨0,Sg.refl⟩
    · obtain ⟨N,hN,e1,e2,e3⟩:=X5 hf ha
      have hn:N≤n:=by
        rcases Nat.lt_or_ge n N with z | z
        · exact absurd hg (e3 n (by omega) z)
        · exact z
      obtain ⟨k,rfl⟩:∃ k,n=N+k:=⟨n - N,by omega⟩
      have a2:0 < (aft far (aft far f)).1:=by
        rw [(Gz hf.next).1]
        exact hf.next.pos (by rw [(Gz hf).1];exact hf.neg ha)
      rw [S5,e1] at hg
      obtain ⟨m,hm⟩:=ih k (by omega) (aft far (aft far f)) hf.next.next a2 hg
      refine ⟨m+2,?_⟩
      rw [Va,e1,e2]
      show Sg _ (Ar (Cg f far) (Ar (Cg (aft far f) far) (rT far m (aft far (aft far f)))))
      rw [←then_assoc]
      exact Sg.then (.inr rfl) hm
noncomputable def Ring (far:Int) (f g:I3) (t:I4):Prop:=(∃ m,Sg t (rT far m f))∨(∃ m,Sg (Av t) (rT far m g))
theorem Ring.swap {far:Int} {f g:I3} {t:I4} (h:Ring far f g t):Ring far g f (Av t):=by
  rcases h with ⟨m,h⟩ | ⟨m,h⟩
  · exact .inr ⟨m,by rw [Gg];exact h⟩
  · exact .inl ⟨m,h⟩
theorem Xh {far:Int} {f g:I3} {t:I4} (hf:Lv far f) (hg:Lv far g) (hd:det t=1) (e:mov f t=g) (fa:0 < f.1) (ga:0 < g.1):Ring far f g t:=by
  have hr:Riv (mov f t):=by rw [e];exact hg.riv ga
  rcases AfC (hf.riv fa) hd hr with ⟨n,h⟩ | ⟨n,h⟩
  · have hs:Sg t (wd n f):=h
    have hn:Lv far (nxs n f):=by rw [←Kf,←hs.mov,e];exact hg
    obtain ⟨m,hm⟩:=WM n f hf fa hn
    exact .inl ⟨m,hs.trans hm⟩
  · rw [e] at h
    have hs:Sg (Av t) (wd n g):=h
    have hn:Lv far (nxs n g):=by rw [←Kf,←hs.mov,←e,Cd hd];exact hf
    obtain ⟨m,hm⟩:=WM n g hg ga hn
    exact .inr ⟨m,hs.trans hm⟩
theorem Wm {far:Int} {f g:I3} {t:I4} {m:Nat} (hf:Lv far f) (hg:Lv far g) (hm:meas f=meas g) (h:Sg (Ar t (Cg g far)) (rT far m f)) (e:rF far m f=aft far g):(∃ k,Sg t (rT far k f))∨Sg t (Av (Cg g far)):=by
  have cancel:∀ {u:I4},Sg (Ar t (Cg g far)) (Ar u (Cg g far))→Sg t u:=fun {u} h=>by
    have:=Sg.then h (Sg.refl (t:=Av (Cg g far)))
    rw [then_assoc,then_assoc,JH Cq,GK,GK] at this
    exact this
  match m,h,e with
  | 0,h,e =>
    right
    refine cancel (h.trans ?_)
    rw [QB Cq]
    exact Sg.refl
  | m+1,h,e =>
    left
    rw [RQ] at e
    have e':=Wq (Lv.rF m hf) hg (by rw [K5];exact hm) e
    rw [Xf,e'] at h
    exact ⟨m,cancel h⟩
theorem R7 {far:Int} {f g:I3} {t:I4} (hf:Lv far f) (hg:Lv far g) (hd:det t=1) (e:mov f t=g) (fa:0 < f.1) (ga:g.1 < 0):Ring far f g t:=by
  have hm:meas f=meas g:=by rw [←e,Bs hd]
  have hd':det (Ar t (Cg g far))=1:=by rw [Cm,hd,Cq];rfl
  have e':mov f (Ar t (Cg g far))=aft far g:=by rw [←Bj,e]
  have ga':0 < (aft far g).1:=by rw [(Gz hg).1];exact hg.pos ga
  rcases Xh hf hg.next hd' e' fa ga' with ⟨m,h⟩ | ⟨m,h⟩
  · have er:rF far m f=aft far g:=by rw [←Gu,←h.mov,e']
    rcases Wm hf hg hm h er with h | h
    · exact .inl h
    · refine .inr ⟨1,?_⟩
      have:=h.back
      rw [Gg] at this
      show Sg _ (Ar (Cg g far) (1,0,0,1))
      rw [GK]
      exact this
  · refine .inr ⟨m+1,?_⟩
    have h2:=Sg.then (Sg.refl (t:=Cg g far)) h
    rw [Ol,←then_assoc,JH Cq,HJ] at h2
    exact h2
theorem Pk {far:Int} {f g:I3} {t:I4} (hf:Lv far f) (hg:Lv far g) (hd:det t=1) (e:mov f t=g):Ring far f g t:=by
  have fa:=Wi hf.S
  have ga:=Wi hg.S
  have eb:mov g (Av t)=f:=by rw [←e,Cd hd]
  have hdb:det (Av t)=1:=Et.trans hd
  rcases Int.lt_or_lt_of_ne fa with fa | fa
  · rcases Int.lt_or_lt_of_ne ga with ga | ga
    ·
      have fa':0 < (aft far f).1:=by rw [(Gz hf).1];exact hf.pos fa
      have hd':det (Ar (Av (Cg f far)) t)=1:=by rw [Cm,Et,Cq,hd];rfl
      have e':mov (aft far f) (Ar (Av (Cg f far)) t)=g:=by
        rw [←Bj,Cd Cq,e]
      have hm:meas g=meas f:=by rw [←e,Bs hd]
      rcases R7 hf.next hg hd' e' fa' ga with ⟨m,h⟩ | ⟨m,h⟩
      · refine .inl ⟨m+1,?_⟩
        have h2:=Sg.then (Sg.refl (t:=Cg f far)) h
        rw [←then_assoc,JH Cq,HJ] at h2
        exact h2
      · rw [Ol,Gg] at h
        have er:rF far m g=aft far f:=by rw [←Gu,←h.mov,←Bj,eb]
        rcases Wm hg hf hm h er with h | h
        · exact .inr h
        · refine .inl ⟨1,?_⟩
          have:=h.back
          rw [Gg,Gg] at this
          show Sg _ (Ar (Cg f far) (1,0,0,1))
          rw [GK]
          exact this
    · have:=(R7 hg hf hdb eb ga fa).swap
      rw [Gg] at this
      exact this
  · rcases Int.lt_or_lt_of_ne ga with ga | ga
    · exact R7 hf hg hd e fa ga
    · exact Xh hf hg hd e fa ga
theorem AdT:∀ (M:Nat) (x:Nat→Nat),(∀ i,i≤M→x i < M)→∃ i j,i < j∧j≤M∧x i=x j:=by
  intro M
  induction M with
  | zero=>intro x h;exact absurd (h 0 (Nat.le_refl _)) (by omega)
  | succ M ih =>
    intro x h
    by_cases hex:∃ i j,i < j∧j≤M+1∧x i=x j
    · exact hex
    · have ne:∀ i j,i < j→j≤M+1→x i≠x j:=fun i j h1 h2 h3=>hex ⟨i,j,h1,h2,h3⟩
      obtain ⟨i,j,h1,h2,h3⟩:=ih (fun i=>if x i=M then x (M+1) else x i) (fun i hi=>by
        have h1:=h i (by omega)
        have h2:=h (M+1) (Nat.le_refl _)
        have h3:=ne i (M+1) (by omega) (Nat.le_refl _)
        show (if x i=M then x (M+1) else x i) < M
        split <;> omega)
      exfalso
      have n1:=ne i j h1 (by omega)
      have n2:=ne i (M+1) (by omega) (Nat.le_refl _)
      have n3:=ne j (M+1) (by omega) (Nat.le_refl _)
      have h3:(if x i=M then x (M+1) else x i)=(if x j=M then x (M+1) else x j):=h3
      split at h3 <;> split at h3 <;> omega
theorem Mi {far:Int}:∀ (i:Nat) {f g:I3},Lv far f→Lv far g→meas f=meas g→rF far i f=rF far i g→f=g
  | 0,_,_,_,_,_,h=>h
  | i+1,f,g,hf,hg,hm,h=>Wq hf hg hm (Mi i hf.next hg.next (by rw [Bs Cq,Bs Cq];exact hm) h)
noncomputable def Uz (f:I3):Nat:=((f.1+63)*64+f.2.1).toNat
theorem Lv.range {far:Int} {f:I3} (h:Lv far f):(-63≤f.1∧f.1≤63)∧(0 < f.2.1∧f.2.1≤63):=by
  have h6:=N8 h.r h.S.most
  obtain ⟨⟨l1,l2⟩,_,l4⟩:=h.L
  have l4:2*ab f.1≤far+f.2.1:=l4
  rcases Ax f.1 with ⟨_,e⟩ | ⟨_,e⟩ <;> omega
theorem code_inj {far:Int} {f g:I3} (hf:Lv far f) (hg:Lv far g) (hm:meas f=meas g) (h:Uz f=Uz g):f=g:=by
  have rf:=hf.range
  have rg:=hg.range
  have ha:=Wi hf.S
  obtain ⟨a,b,c⟩:=f
  obtain ⟨a',b',c'⟩:=g
  simp only [Uz] at h rf rg ha
  have e1:a=a':=by omega
  have e2:b=b':=by omega
  subst e1 e2
  have e3:4*a*c=4*a*c':=by simp only [meas] at hm;omega
  have:c=c':=Int.eq_of_mul_eq_mul_left (show 4*a≠0 by omega) e3
  rw [this]
theorem M8 {far:Int} {f:I3} (h:Lv far f):∃ N,0 < N∧N≤8128∧rF far N f=f∧∀ j,0 < j→j < N→rF far j f≠f:=by
  have ex:∃ N,0 < N∧N≤8128∧rF far N f=f:=by
    obtain ⟨i,j,hij,hj,e⟩:=AdT 8128 (fun i=>Uz (rF far i f)) (fun i _=>by
      have:=(Lv.rF i h).range
      unfold Uz
      omega)
    have e':=code_inj (Lv.rF i h) (Lv.rF j h) (by rw [K5,K5]) e
    obtain ⟨k,rfl⟩:∃ k,j=k+i:=⟨j - i,by omega⟩
    rw [Fy k i f] at e'
    have:=Mi i h (Lv.rF k h) (by rw [K5]) e'
    exact ⟨k,by omega,by omega,this.symm⟩
  have least:∀ M,(∃ N,0 < N∧N≤M∧rF far N f=f)→∃ N,0 < N∧N≤M∧rF far N f=f∧∀ j,0 < j→j < N→rF far j f≠f:=by
    intro M
    induction M with
    | zero=>intro ⟨N,h1,h2,_⟩;omega
    | succ M ih =>
      intro hN
      by_cases hM:∃ N,0 < N∧N≤M∧rF far N f=f
      · obtain ⟨N,h1,h2,h3,h4⟩:=ih hM
        exact ⟨N,h1,by omega,h3,h4⟩
      · obtain ⟨N,h1,h2,h3⟩:=hN
        exact ⟨N,h1,h2,h3,fun j j0 jN e=>hM ⟨j,j0,by omega,e⟩⟩
  exact least 8128 ex
theorem W8 {f:I3} {far:Int} (h:Lv far f):Bt 9 (kB f far):=by
  have hc:=Gy h.S
  have hk:=Hu (top:=far) hc
  have ⟨d1,d2⟩:=Jh (top:=far) hc
  have h6:=N8 h.r h.S.most
  have ⟨c1,c2⟩:=Ij h.r h.S.no h.L
  obtain ⟨⟨l1,l2⟩,_,_⟩:=h.L
  have e1:2*(ab f.2.2*ab (kB f far))=ab (f.2.1+dB f far):=by
    rw [←hk,Nz]
    have:2*f.2.2*kB f far=2*(f.2.2*kB f far):=by grind
    rw [this]
    rcases Ax (f.2.2*kB f far) with ⟨h1,e1⟩ | ⟨h1,e1⟩
    · rw [e1,ab,if_neg (by omega)]
    · rw [e1,ab,if_pos (by omega)];omega
  have c0:1≤ab f.2.2:=by rcases Ax f.2.2 with ⟨_,e1⟩ | ⟨_,e1⟩ <;> omega
  have e2:=Int.mul_le_mul_of_nonneg_right c0 (BX (kB f far))
  have e3:ab (f.2.1+dB f far)≤252:=by rcases Ax (f.2.1+dB f far) with ⟨_,e1⟩ | ⟨_,e1⟩ <;> omega
  have:=BX (kB f far)
  exact Q5 (k:=252) (by omega) (by decide)
theorem Adp {far:Int}:∀ (n:Nat) {f:I3},Lv far f→B4 (10*n+1) (rT far n f)
  | 0,_,_=>⟨Bt.one,Bt.zero.le (by omega),Bt.zero.le (by omega),Bt.one⟩
  | n+1,f,h=>by
    have h1:=PK (W8 h) (by decide)
    exact (B4.then h1 (Adp n h.next)).le (by omega)
end My
namespace My
open PySem L2
noncomputable def tr (t:I4):Int:=t.1+t.2.2.2
theorem AbK {t x:I4} (h:det x=1):tr (Ar (Ar x t) (Av x))=tr t:=by
  obtain ⟨p,q,r,s⟩:=t;obtain ⟨a,b,c,d⟩:=x
  simp only [det] at h
  have:tr (Ar (Ar (a,b,c,d) (p,q,r,s)) (Av (a,b,c,d)))=(a*d - b*c)*(p+s):=by simp only [tr,Ar,Av];grind
  rw [this,h,Int.one_mul];rfl
theorem YJ {t x:I4} (h:det x=1):tr (Ar (Ar (Av x) t) x)=tr t:=by
  have:=AbK (t:=t) (x:=Av x) (Et.trans h)
  rw [Gg] at this
  exact this
theorem AeL {f:I3} (h:f.1≠0):0 < g3 f:=by
  rcases Nat.lt_or_ge 0 (g3 f) with z | z
  · exact z
  · have:=Abb (show g3 f=0 by omega)
    rw [this] at h
    exact absurd rfl h
theorem Aew {f:I3} {d:Int} (h1:d∣f.1) (h2:d∣f.2.1) (h3:d∣f.2.2):d∣(g3 f:Int):=Int.dvd_coe_gcd (Int.dvd_coe_gcd h1 h2) h3
theorem O2 {f:I3} {t:I4}:(g3 f:Int)∣(g3 (mov f t):Int):=by
  obtain ⟨⟨x,hx⟩,⟨y,hy⟩,⟨z,hz⟩⟩:=ZJ f
  refine Aew ⟨val (x,y,z) (t.1,t.2.2.1),?_⟩ ⟨mid (x,y,z) (t.1,t.2.2.1) (t.2.1,t.2.2.2),?_⟩ ⟨val (x,y,z) (t.2.1,t.2.2.2),?_⟩
  · show val f (t.1,t.2.2.1)=_
    simp only [val];rw [hx,hy,hz];grind
  · show mid f (t.1,t.2.2.1) (t.2.1,t.2.2.2)=_
    simp only [mid];rw [hx,hy,hz];grind
  · show val f (t.2.1,t.2.2.2)=_
    simp only [val];rw [hx,hy,hz];grind
theorem Tn {f:I3} {t:I4} (h:det t=1):g3 (mov f t)=g3 f:=by
  have h1:(g3 f:Int)∣(g3 (mov f t):Int):=O2
  have h2:(g3 (mov f t):Int)∣(g3 f:Int):=by
    have:=O2 (f:=mov f t) (t:=Av t)
    rw [Cd h] at this
    exact this
  exact Nat.dvd_antisymm (Int.ofNat_dvd.mp h2) (Int.ofNat_dvd.mp h1)
noncomputable def pl (f:I3):I3:=(f.1 / (g3 f:Int),f.2.1 / (g3 f:Int),f.2.2 / (g3 f:Int))
theorem Alq (f:I3):f.1=(g3 f:Int)*(pl f).1∧f.2.1=(g3 f:Int)*(pl f).2.1∧f.2.2=(g3 f:Int)*(pl f).2.2:=by
  obtain ⟨h1,h2,h3⟩:=ZJ f
  exact ⟨(Int.mul_ediv_cancel' h1).symm,(Int.mul_ediv_cancel' h2).symm,(Int.mul_ediv_cancel' h3).symm⟩
theorem WQ {far:Int} {f:I3} {N m:Nat} (e:rF far N f=f):tr (rT far N (rF far m f))=tr (rT far N f):=by
  have h1:=Tf (far:=far) m N f
  have h2:=Tf (far:=far) N m f
  rw [e,Nat.add_comm N m] at h2
  have hd:=Oo (far:=far) m f
  have:rT far N (rF far m f)=Ar (Ar (Av (rT far m f)) (rT far N f)) (rT far m f):=by
    rw [then_assoc,←h2,h1,←then_assoc,QB hd,HJ]
  rw [this,YJ hd]
theorem TJ {far:Int} {f:I3} {N M m:Nat} (h:Lv far f) (e:rF far N f=f) (min:∀ j,0 < j→j < N→rF far j f≠f) (e':rF far M (rF far m f)=rF far m f) (min':∀ j,0 < j→j < M→rF far j (rF far m f)≠rF far m f) (hN:0 < N) (hM:0 < M):N=M:=by
  have a1:rF far M f=f:=by
    rw [←Fy,Nat.add_comm,Fy] at e'
    exact Mi m (Lv.rF M h) h (by rw [K5]) e'
  have a2:rF far N (rF far m f)=rF far m f:=by rw [←Fy,Nat.add_comm,Fy,e]
  rcases Nat.lt_trichotomy N M with z | z | z
  · exact absurd a2 (min' N hN z)
  · exact z
  · exact absurd a1 (min M hM z)
theorem Rn {far:Int} {f g:I3} {t:I4} {N M:Nat} (hf:Lv far f) (hg:Lv far g) (hd:det t=1) (e:mov f t=g) (eN:rF far N f=f) (minN:∀ j,0 < j→j < N→rF far j f≠f) (eM:rF far M g=g) (minM:∀ j,0 < j→j < M→rF far j g≠g) (hN:0 < N) (hM:0 < M):N=M∧tr (rT far M g)=tr (rT far N f):=by
  rcases Pk hf hg hd e with ⟨m,h⟩ | ⟨m,h⟩
  · have eg:rF far m f=g:=by rw [←Gu,←h.mov,e]
    subst eg
    have:=TJ hf eN minN eM minM hN hM
    subst this
    exact ⟨rfl,WQ eN⟩
  · have ef:rF far m g=f:=by rw [←Gu,←h.mov,←e,Cd hd]
    subst ef
    have:=TJ hg eM minM eN minN hM hN
    subst this
    exact ⟨rfl,(WQ eM).symm⟩
end My
namespace My
open PySem L2
noncomputable def FA (p q:I4):I3:=(p.1*q.2.1 - p.2.1*q.1,p.1*q.2.2.2 - p.2.2.2*q.1+p.2.2.1*q.2.1 - p.2.1*q.2.2.1,p.2.2.1*q.2.2.2 - p.2.2.2*q.2.2.1)
noncomputable def FB (p q:I4):I3:=(p.1*q.2.2.1 - p.2.2.1*q.1,p.1*q.2.2.2 - p.2.2.2*q.1+p.2.1*q.2.2.1 - p.2.2.1*q.2.1,p.2.1*q.2.2.2 - p.2.2.2*q.2.1)
noncomputable def FC (p q:I4):I3:=(q.2.1*q.2.2.1 - q.1*q.2.2.2,p.1*q.2.2.2+p.2.2.2*q.1 - p.2.1*q.2.2.1 - p.2.2.1*q.2.1,p.2.1*p.2.2.1 - p.1*p.2.2.2)
noncomputable def Comp (f g F:I3):Prop:=∃ p q:I4,FA p q=f∧FB p q=g∧FC p q=F
theorem Afz {f g:I3} (h1:f.1=g.1) (h2:f.2.1=g.2.1) (h3:f.2.2=g.2.2):f=g:=Prod.ext h1 (Prod.ext h2 h3)
theorem Comp.swap {f g F:I3} (h:Comp f g F):Comp g f F:=by
  obtain ⟨⟨p0,p1,p2,p3⟩,⟨q0,q1,q2,q3⟩,rfl,rfl,rfl⟩:=h
  refine ⟨(p0,p2,p1,p3),(q0,q2,q1,q3),?_,?_,?_⟩ <;> simp only [FA,FB,FC,Prod.mk.injEq] <;> (refine ⟨?_,?_,?_⟩ <;> grind)
theorem Comp.meas {f g F:I3} (h:Comp f g F):meas f=meas g∧meas F=meas g:=by
  obtain ⟨⟨p0,p1,p2,p3⟩,⟨q0,q1,q2,q3⟩,rfl,rfl,rfl⟩:=h
  constructor <;> simp only [FA,FB,FC,My.meas] <;> grind
noncomputable def Py (p:I4) (t:I4):I4:=(t.1*p.1+t.2.2.1*p.2.2.1,t.1*p.2.1+t.2.2.1*p.2.2.2,t.2.1*p.1+t.2.2.2*p.2.2.1,t.2.1*p.2.1+t.2.2.2*p.2.2.2)
theorem AjU {p q t:I4}:FA (Py p t) (Py q t)=mov (FA p q) t:=by
  obtain ⟨p0,p1,p2,p3⟩:=p;obtain ⟨q0,q1,q2,q3⟩:=q;obtain ⟨a,b,c,d⟩:=t
  simp only [FA,Py,mov,val,mid,Prod.mk.injEq]
  refine ⟨?_,?_,?_⟩ <;> grind
theorem AjH {p q t:I4} (h:det t=1):FB (Py p t) (Py q t)=FB p q:=by
  obtain ⟨p0,p1,p2,p3⟩:=p;obtain ⟨q0,q1,q2,q3⟩:=q;obtain ⟨a,b,c,d⟩:=t
  have h:a*d - b*c=1:=h
  have e:∀ x:Int,x=(a*d - b*c)*x:=fun x=>by rw [h];omega
  simp only [FB,Py,Prod.mk.injEq]
  refine ⟨?_,?_,?_⟩
  · rw [e (p0*q2 - p2*q0)];grind
  · rw [e (p0*q3 - p3*q0+p1*q2 - p2*q1)];grind
  · rw [e (p1*q3 - p3*q1)];grind
theorem AjD {p q t:I4} (h:det t=1):FC (Py p t) (Py q t)=FC p q:=by
  obtain ⟨p0,p1,p2,p3⟩:=p;obtain ⟨q0,q1,q2,q3⟩:=q;obtain ⟨a,b,c,d⟩:=t
  have h:a*d - b*c=1:=h
  have e:∀ x:Int,x=(a*d - b*c)*x:=fun x=>by rw [h];omega
  simp only [FC,Py,Prod.mk.injEq]
  refine ⟨?_,?_,?_⟩
  · rw [e (q1*q2 - q0*q3)];grind
  · rw [e (p0*q3+p3*q0 - p1*q2 - p2*q1)];grind
  · rw [e (p1*p2 - p0*p3)];grind
theorem Comp.movL {f g F:I3} {t:I4} (h:Comp f g F) (dt:det t=1):Comp (mov f t) g F:=by
  obtain ⟨p,q,rfl,rfl,rfl⟩:=h
  exact ⟨Py p t,Py q t,AjU,AjH dt,AjD dt⟩
theorem Comp.movR {f g F:I3} {t:I4} (h:Comp f g F) (dt:det t=1):Comp f (mov g t) F:=(h.swap.movL dt).swap
noncomputable def Lw (p q t:I4):I4:=(t.2.2.2*p.1 - t.2.1*q.1,t.2.2.2*p.2.1 - t.2.1*q.2.1,t.2.2.2*p.2.2.1 - t.2.1*q.2.2.1,t.2.2.2*p.2.2.2 - t.2.1*q.2.2.2)
noncomputable def MF (p q t:I4):I4:=(t.1*q.1 - t.2.2.1*p.1,t.1*q.2.1 - t.2.2.1*p.2.1,t.1*q.2.2.1 - t.2.2.1*p.2.2.1,t.1*q.2.2.2 - t.2.2.1*p.2.2.2)
theorem Aj9 {p q t:I4} (h:det t=1):FA (Lw p q t) (MF p q t)=FA p q:=by
  obtain ⟨p0,p1,p2,p3⟩:=p;obtain ⟨q0,q1,q2,q3⟩:=q;obtain ⟨a,b,c,d⟩:=t
  have h:a*d - b*c=1:=h
  have e:∀ x:Int,x=(a*d - b*c)*x:=fun x=>by rw [h];omega
  simp only [FA,Lw,MF,Prod.mk.injEq]
  refine ⟨?_,?_,?_⟩
  · rw [e (p0*q1 - p1*q0)];grind
  · rw [e (p0*q3 - p3*q0+p2*q1 - p1*q2)];grind
  · rw [e (p2*q3 - p3*q2)];grind
theorem Aky {p q t:I4} (h:det t=1):FB (Lw p q t) (MF p q t)=FB p q:=by
  obtain ⟨p0,p1,p2,p3⟩:=p;obtain ⟨q0,q1,q2,q3⟩:=q;obtain ⟨a,b,c,d⟩:=t
  have h:a*d - b*c=1:=h
  have e:∀ x:Int,x=(a*d - b*c)*x:=fun x=>by rw [h];omega
  simp only [FB,Lw,MF,Prod.mk.injEq]
  refine ⟨?_,?_,?_⟩
  · rw [e (p0*q2 - p2*q0)];grind
  · rw [e (p0*q3 - p3*q0+p1*q2 - p2*q1)];grind
  · rw [e (p1*q3 - p3*q1)];grind
theorem AhH {p q t:I4}:FC (Lw p q t) (MF p q t)=mov (FC p q) t:=by
  obtain ⟨p0,p1,p2,p3⟩:=p;obtain ⟨q0,q1,q2,q3⟩:=q;obtain ⟨a,b,c,d⟩:=t
  simp only [FC,Lw,MF,mov,val,mid,Prod.mk.injEq]
  refine ⟨?_,?_,?_⟩ <;> grind
theorem bez:∀ (n:Nat) (a b:Int),b.natAbs≤n→∃ u v:Int,u*a+v*b=(Int.gcd a b:Int)
  | n,a,b,h=>by
    by_cases hb:b=0
    · subst hb
      rw [Int.gcd_zero_right]
      rcases Int.lt_or_le a 0 with z | z
      · exact ⟨-1,0,by omega⟩
      · exact ⟨1,0,by omega⟩
    · have l:=Ih (a:=a) hb
      match n,h with
      | 0,h=>omega
      | n+1,h =>
        obtain ⟨u,v,e⟩:=bez n b (a.fmod b) (by omega)
        rw [KQ] at e
        refine ⟨v,u - v*a.fdiv b,?_⟩
        rw [←e,Int.fmod_def]
        grind
theorem Afq {f:I3} (h:g3 f=1):∃ i j k:Int,i*f.1+j*f.2.1+k*f.2.2=1:=by
  obtain ⟨u,v,e1⟩:=bez _ f.1 f.2.1 (Nat.le_refl _)
  obtain ⟨x,y,e2⟩:=bez _ ((Int.gcd f.1 f.2.1:Nat):Int) f.2.2 (Nat.le_refl _)
  have e3:((Int.gcd ((Int.gcd f.1 f.2.1:Nat):Int) f.2.2:Nat):Int)=1:=by
    have:(g3 f:Int)=1:=by rw [h];rfl
    exact this
  rw [e3,←e1] at e2
  exact ⟨x*u,x*v,y,by rw [←e2];grind⟩
theorem Gw {pm pi pj qm qi qj rm ri rj sm si sj:Int} (h1:pm*qi - pi*qm=rm*si - ri*sm) (h2:pm*qj - pj*qm=rm*sj - rj*sm) (h3:pi*qj - pj*qi=ri*sj - rj*si) :
    rm*(pi*qj - pj*qi)=pm*(ri*qj - rj*qi)+qm*(pi*rj - pj*ri):=by
  have a1:rm*(pi*qj - pj*qi)=rm*(ri*sj - rj*si):=by rw [h3]
  have a2:ri*(pm*qj - pj*qm)=ri*(rm*sj - rj*sm):=by rw [h2]
  have a3:rj*(pm*qi - pi*qm)=rj*(rm*si - ri*sm):=by rw [h1]
  grind
theorem Gx {pm pi pj qm qi qj rm ri rj sm si sj:Int} (h1:pm*qi - pi*qm=rm*si - ri*sm) (h2:pm*qj - pj*qm=rm*sj - rj*sm) (h3:pi*qj - pj*qi=ri*sj - rj*si) :
    sm*(pi*qj - pj*qi)=pm*(si*qj - sj*qi)+qm*(pi*sj - pj*si):=by
  have a1:sm*(pi*qj - pj*qi)=sm*(ri*sj - rj*si):=by rw [h3]
  have a2:si*(pm*qj - pj*qm)=si*(rm*sj - rj*sm):=by rw [h2]
  have a3:sj*(pm*qi - pi*qm)=sj*(rm*si - ri*sm):=by rw [h1]
  grind
theorem Jt {pm qm rm A B C D c1 c2 c3 c4 x1 x2 x3 x4 y1 y2 y3 y4:Int} (e1:rm*A=pm*x1+qm*y1) (e2:rm*B=pm*x2+qm*y2) (e3:rm*C=pm*x3+qm*y3) (e4:rm*D=pm*x4+qm*y4) (h:c1*A+c2*B+c3*C+c4*D=1) :
    rm=(c1*x1+c2*x2+c3*x3+c4*x4)*pm+(c1*y1+c2*y2+c3*y3+c4*y4)*qm:=by
  have:rm=rm*(c1*A+c2*B+c3*C+c4*D):=by rw [h];omega
  have e:rm*(c1*A+c2*B+c3*C+c4*D)=c1*(rm*A)+c2*(rm*B)+c3*(rm*C)+c4*(rm*D):=by grind
  rw [e,e1,e2,e3,e4] at this
  rw [this]
  grind
theorem Xo {p q r s:I4} (ha:FA p q=FA r s) (hb:FB p q=FB r s) (pl:g3 (FA p q)=1):∃ t:I4,det t=1∧r=Lw p q t∧s=MF p q t:=by
  obtain ⟨i,j,k,hijk⟩:=Afq pl
  obtain ⟨p0,p1,p2,p3⟩:=p
  obtain ⟨q0,q1,q2,q3⟩:=q
  obtain ⟨r0,r1,r2,r3⟩:=r
  obtain ⟨s0,s1,s2,s3⟩:=s
  simp only [FA,FB,Prod.mk.injEq] at ha hb hijk
  obtain ⟨m01,mA,m23⟩:=ha
  obtain ⟨m02,mB,m13⟩:=hb
  have m03:p0*q3 - p3*q0=r0*s3 - r3*s0:=by omega
  have m12:p1*q2 - p2*q1=r1*s2 - r2*s1:=by omega
  have h1:i*(p0*q1 - p1*q0)+j*(p0*q3 - p3*q0)+(-j)*(p1*q2 - p2*q1)+k*(p2*q3 - p3*q2)=1:=by rw [←hijk];grind
  have z:∀ {x y:Int},x*y - x*y=0:=fun {x y}=>by omega
  have nn:∀ {a b c d:Int},a*b - c*d=0 - (c*d - a*b):=fun {a b c d}=>by omega
  have m10:p1*q0 - p0*q1=r1*s0 - r0*s1:=by omega
  have m20:p2*q0 - p0*q2=r2*s0 - r0*s2:=by omega
  have m30:p3*q0 - p0*q3=r3*s0 - r0*s3:=by omega
  have m21:p2*q1 - p1*q2=r2*s1 - r1*s2:=by omega
  have m31:p3*q1 - p1*q3=r3*s1 - r1*s3:=by omega
  have m32:p3*q2 - p2*q3=r3*s2 - r2*s3:=by omega
  have m00:p0*q0 - p0*q0=r0*s0 - r0*s0:=by omega
  have m11:p1*q1 - p1*q1=r1*s1 - r1*s1:=by omega
  have m22:p2*q2 - p2*q2=r2*s2 - r2*s2:=by omega
  have m33:p3*q3 - p3*q3=r3*s3 - r3*s3:=by omega
  have R0:=Jt (Gw m00 m01 m01) (Gw m00 m03 m03) (Gw m01 m02 m12) (Gw m02 m03 m23) h1
  have R1:=Jt (Gw m10 m11 m01) (Gw m10 m13 m03) (Gw m11 m12 m12) (Gw m12 m13 m23) h1
  have R2:=Jt (Gw m20 m21 m01) (Gw m20 m23 m03) (Gw m21 m22 m12) (Gw m22 m23 m23) h1
  have R3:=Jt (Gw m30 m31 m01) (Gw m30 m33 m03) (Gw m31 m32 m12) (Gw m32 m33 m23) h1
  have S0:=Jt (Gx m00 m01 m01) (Gx m00 m03 m03) (Gx m01 m02 m12) (Gx m02 m03 m23) h1
  have S1:=Jt (Gx m10 m11 m01) (Gx m10 m13 m03) (Gx m11 m12 m12) (Gx m12 m13 m23) h1
  have S2:=Jt (Gx m20 m21 m01) (Gx m20 m23 m03) (Gx m21 m22 m12) (Gx m22 m23 m23) h1
  have S3:=Jt (Gx m30 m31 m01) (Gx m30 m33 m03) (Gx m31 m32 m12) (Gx m32 m33 m23) h1
  obtain ⟨al,eal⟩:∃ x,x=i*(r0*q1 - r1*q0)+j*(r0*q3 - r3*q0) + -j*(r1*q2 - r2*q1)+k*(r2*q3 - r3*q2):=⟨_,rfl⟩
  obtain ⟨be,ebe⟩:∃ x,x=i*(p0*r1 - p1*r0)+j*(p0*r3 - p3*r0) + -j*(p1*r2 - p2*r1)+k*(p2*r3 - p3*r2):=⟨_,rfl⟩
  obtain ⟨ga,ega⟩:∃ x,x=i*(s0*q1 - s1*q0)+j*(s0*q3 - s3*q0) + -j*(s1*q2 - s2*q1)+k*(s2*q3 - s3*q2):=⟨_,rfl⟩
  obtain ⟨de,ede⟩:∃ x,x=i*(p0*s1 - p1*s0)+j*(p0*s3 - p3*s0) + -j*(p1*s2 - p2*s1)+k*(p2*s3 - p3*s2):=⟨_,rfl⟩
  rw [←eal,←ebe] at R0 R1 R2 R3
  rw [←ega,←ede] at S0 S1 S2 S3
  refine ⟨(de,-be,-ga,al),?_,?_,?_⟩
  · show de*al - -be * -ga=1
    have k1:(de*al - -be * -ga)*(p0*q1 - p1*q0)=p0*q1 - p1*q0:=by rw [m01,R0,R1,S0,S1];grind
    have k2:(de*al - -be * -ga)*(p0*q3 - p3*q0)=p0*q3 - p3*q0:=by rw [m03,R0,R3,S0,S3];grind
    have k3:(de*al - -be * -ga)*(p1*q2 - p2*q1)=p1*q2 - p2*q1:=by rw [m12,R1,R2,S1,S2];grind
    have k4:(de*al - -be * -ga)*(p2*q3 - p3*q2)=p2*q3 - p3*q2:=by rw [m23,R2,R3,S2,S3];grind
    generalize de*al - -be * -ga=D at *
    have:D=D*(i*(p0*q1 - p1*q0)+j*(p0*q3 - p3*q0) + -j*(p1*q2 - p2*q1)+k*(p2*q3 - p3*q2)):=by rw [h1];omega
    have e:D*(i*(p0*q1 - p1*q0)+j*(p0*q3 - p3*q0) + -j*(p1*q2 - p2*q1)+k*(p2*q3 - p3*q2))=i*(D*(p0*q1 - p1*q0))+j*(D*(p0*q3 - p3*q0)) + -j*(D*(p1*q2 - p2*q1))+k*(D*(p2*q3 - p3*q2)):=by grind
    rw [e,k1,k2,k3,k4,h1] at this
    exact this
  · simp only [Lw,Prod.mk.injEq]
    refine ⟨?_,?_,?_,?_⟩
    · rw [R0];grind
    · rw [R1];grind
    · rw [R2];grind
    · rw [R3];grind
  · simp only [MF,Prod.mk.injEq]
    refine ⟨?_,?_,?_,?_⟩
    · rw [S0];grind
    · rw [S1];grind
    · rw [S2];grind
    · rw [S3];grind
theorem Comp.same {f g F G:I3} (A:Comp f g F) (B:Comp f g G) (pl:g3 f=1):∃ t,det t=1∧mov F t=G:=by
  obtain ⟨p,q,a1,a2,a3⟩:=A
  obtain ⟨r,s,b1,b2,b3⟩:=B
  obtain ⟨t,dt,er,es⟩:=Xo (p:=p) (q:=q) (r:=r) (s:=s) (a1.trans b1.symm) (a2.trans b2.symm) (by rw [a1];exact pl)
  refine ⟨t,dt,?_⟩
  rw [←b3,er,es,AhH,a3]
theorem Ac7 {a b d e:Int}:Comp (a,b,d*e) (d,b,a*e) (a*d,b,e):=by
  refine ⟨(1,0,0,-e),(0,a,d,b),?_,?_,?_⟩ <;> simp only [FA,FB,FC,Prod.mk.injEq] <;> (refine ⟨?_,?_,?_⟩ <;> grind)
end My
namespace My
open PySem L2
noncomputable def jS (f h:I3):Int:=(f.2.1+h.2.1).fdiv 2
noncomputable def jA (f h:I3) (g:Int):Int:=(f.1*h.1).fdiv (g*g)
noncomputable def jB (f h:I3) (g j k:Int):Int:=(h.2.1+2*h.1.fdiv g*(j*(jS f h - h.2.1) - k*h.2.2)).fmod (2*jA f h g)
noncomputable def jF (f h:I3) (g j k:Int):I3:=(jA f h g,jB f h g j k,(jB f h g j k*jB f h g j k - meas f).fdiv (4*jA f h g))
noncomputable def jP (f h:I3) (g B:Int):I4:=(g,(g*(h.2.1 - B)).fdiv (2*h.1),(g*(f.2.1 - B)).fdiv (2*f.1),(g*(f.2.1*h.2.1+meas f - 2*B*jS f h)).fdiv (4*f.1*h.1))
noncomputable def jQ (f h:I3) (g:Int):I4:=(0,f.1.fdiv g,h.1.fdiv g,(jS f h).fdiv g)
theorem Q9 {f h:I3} (hm:meas f=meas h):f.2.1+h.2.1=2*jS f h:=by
  have hm:f.2.1*f.2.1 - 4*f.1*f.2.2=h.2.1*h.2.1 - 4*h.1*h.2.2:=hm
  have e:(f.2.1+h.2.1) % 2=0:=by
    have e1:f.2.1*f.2.1 - h.2.1*h.2.1=4*(f.1*f.2.2 - h.1*h.2.2):=by grind
    have e2:(f.2.1+h.2.1)*(f.2.1 - h.2.1)=4*(f.1*f.2.2 - h.1*h.2.2):=by rw [←e1];grind
    rcases (show (f.2.1+h.2.1) % 2=0∨(f.2.1+h.2.1) % 2=1 by omega) with z | z
    · exact z
    · obtain ⟨x,hx⟩:∃ x,f.2.1+h.2.1=2*x+1:=⟨(f.2.1+h.2.1) / 2,by omega⟩
      obtain ⟨y,hy⟩:∃ y,f.2.1 - h.2.1=2*y+1:=⟨(f.2.1 - h.2.1) / 2,by omega⟩
      rw [hx,hy] at e2
      have:(2*x+1)*(2*y+1)=2*(2*(x*y)+x+y)+1:=by grind
      omega
  unfold jS
  rw [Int.fdiv_eq_ediv_of_nonneg _ (by decide)]
  omega
theorem ZW {f h:I3} {g i j k:Int} (ha:f.1≠0) (hd:h.1≠0) (hm:meas f=meas h) (g0:g≠0) (ga:g∣f.1) (gd:g∣h.1) (gs:g∣jS f h) (hB:i*f.1+j*h.1+k*jS f h=g) :
    FA (jP f h g (jB f h g j k)) (jQ f h g)=f∧FB (jP f h g (jB f h g j k)) (jQ f h g)=h∧FC (jP f h g (jB f h g j k)) (jQ f h g)=jF f h g j k:=by
  have hs:=Q9 hm
  obtain ⟨a,b,c⟩:=f
  obtain ⟨d,e,c'⟩:=h
  obtain ⟨s,es⟩:∃ s,jS (a,b,c) (d,e,c')=s:=⟨_,rfl⟩
  have hm':b*b - 4*a*c=e*e - 4*d*c':=hm
  unfold jF jP jQ
  have eA:jA (a,b,c) (d,e,c') g=jA (a,b,c) (d,e,c') g:=rfl
  rw [es] at hs gs hB
  unfold jB jA
  rw [es]
  simp only at *
  obtain ⟨a1,rfl⟩:=ga
  obtain ⟨d1,rfl⟩:=gd
  obtain ⟨s1,rfl⟩:=gs
  have fa:(g*a1).fdiv g=a1:=Int.mul_fdiv_cancel_left _ g0
  have fd:(g*d1).fdiv g=d1:=Int.mul_fdiv_cancel_left _ g0
  have fs:(g*s1).fdiv g=s1:=Int.mul_fdiv_cancel_left _ g0
  have fA:(g*a1*(g*d1)).fdiv (g*g)=a1*d1:=by
    have:g*a1*(g*d1)=g*g*(a1*d1):=by grind
    rw [this]
    exact Int.mul_fdiv_cancel_left _ (Int.mul_ne_zero g0 g0)
  rw [fa,fd,fs,fA]
  have a0:a1≠0:=fun z=>ha (by rw [z];simp)
  have d0:d1≠0:=fun z=>hd (by rw [z];simp)
  have one:i*a1+j*d1+k*s1=1:=by
    have:g*(i*a1+j*d1+k*s1)=g*1:=by rw [←hB];grind
    exact Int.eq_of_mul_eq_mul_left g0 this
  have eb:b=2*(g*s1) - e:=by omega
  have key:s1*(g*s1 - e)=a1*c - d1*c':=by
    refine Int.eq_of_mul_eq_mul_left (a:=4*g) (by omega) ?_
    have:b*b - e*e=4*(g*a1)*c - 4*(g*d1)*c':=by omega
    rw [eb] at this
    grind
  obtain ⟨u,eu⟩:∃ u,u=j*(g*s1 - e) - k*c':=⟨_,rfl⟩
  obtain ⟨v,ev⟩:∃ v,v=-(i*(g*s1 - e)) - k*c:=⟨_,rfl⟩
  rw [←eu]
  have uv:u*d1 - v*a1=g*s1 - e:=by
    have:u*d1 - v*a1=(g*s1 - e)*(i*a1+j*d1+k*s1) - k*(s1*(g*s1 - e) - (a1*c - d1*c')):=by rw [eu,ev];grind
    rw [this,one,key];omega
  have k1:(i*c'+j*c)*d1 - v*s1=c:=by
    have:(i*c'+j*c)*d1 - v*s1=c*(i*a1+j*d1+k*s1)+i*(s1*(g*s1 - e) - (a1*c - d1*c')):=by rw [ev];grind
    rw [this,one,key];omega
  have k2:(i*c'+j*c)*a1 - u*s1=c':=by
    have:(i*c'+j*c)*a1 - u*s1=c'*(i*a1+j*d1+k*s1) - j*(s1*(g*s1 - e) - (a1*c - d1*c')):=by rw [eu];grind
    rw [this,one,key];omega
  obtain ⟨M,eM⟩:∃ M,(e+2*d1*u).fmod (2*(a1*d1))=e+2*d1*u - 2*(a1*d1)*M:=⟨(e+2*d1*u).fdiv (2*(a1*d1)),by rw [Int.fmod_def]⟩
  rw [eM]
  have A0:a1*d1≠0:=Int.mul_ne_zero a0 d0
  have q1:(g*(e - (e+2*d1*u - 2*(a1*d1)*M))).fdiv (2*(g*d1))=a1*M - u:=by
    have:g*(e - (e+2*d1*u - 2*(a1*d1)*M))=2*(g*d1)*(a1*M - u):=by grind
    rw [this]
    exact Int.mul_fdiv_cancel_left _ (by have:=Int.mul_ne_zero g0 d0;omega)
  have q2:(g*(b - (e+2*d1*u - 2*(a1*d1)*M))).fdiv (2*(g*a1))=d1*M - v:=by
    have:g*(b - (e+2*d1*u - 2*(a1*d1)*M))=2*(g*a1)*(d1*M - v):=by
      have:g*(b - (e+2*d1*u - 2*(a1*d1)*M))=2*(g*a1)*(d1*M - v)+2*g*((g*s1 - e) - (u*d1 - v*a1)):=by rw [eb];grind
      rw [this,uv];omega
    rw [this]
    exact Int.mul_fdiv_cancel_left _ (by have:=Int.mul_ne_zero g0 a0;omega)
  have q3:(g*(b*e+meas (g*a1,b,c) - 2*(e+2*d1*u - 2*(a1*d1)*M)*(g*s1))).fdiv (4*(g*a1)*(g*d1))=s1*M - (i*c'+j*c):=by
    have e1:meas (g*a1,b,c)=e*e - 4*(g*d1)*c':=hm
    have:g*(b*e+meas (g*a1,b,c) - 2*(e+2*d1*u - 2*(a1*d1)*M)*(g*s1))=4*(g*a1)*(g*d1)*(s1*M - (i*c'+j*c)):=by
      rw [e1]
      have:g*(b*e+(e*e - 4*(g*d1)*c') - 2*(e+2*d1*u - 2*(a1*d1)*M)*(g*s1))=4*(g*a1)*(g*d1)*(s1*M - (i*c'+j*c))+4*(g*g*d1)*(((i*c'+j*c)*a1 - u*s1) - c'):=by rw [eb];grind
      rw [this,k2];omega
    rw [this]
    refine Int.mul_fdiv_cancel_left _ ?_
    have:=Int.mul_ne_zero (Int.mul_ne_zero g0 a0) (Int.mul_ne_zero g0 d0)
    have:4*(g*a1)*(g*d1)=4*(g*a1*(g*d1)):=by grind
    omega
  rw [q1,q2,q3]
  have eB:e+2*d1*u - 2*(a1*d1)*M=g*s1 - (a1*M - u)*d1 - (d1*M - v)*a1:=by
    have:e+2*d1*u - 2*(a1*d1)*M=g*s1 - (a1*M - u)*d1 - (d1*M - v)*a1+((u*d1 - v*a1) - (g*s1 - e)):=by grind
    rw [this,uv];omega
  have hA:FA (g,a1*M - u,d1*M - v,s1*M - (i*c'+j*c)) (0,a1,d1,s1)=(g*a1,b,c):=by
    simp only [FA,Prod.mk.injEq]
    refine ⟨by omega,?_,?_⟩
    · rw [eb]
      have:g*s1 - (s1*M - (i*c'+j*c))*0+(d1*M - v)*a1 - (a1*M - u)*d1=g*s1+(u*d1 - v*a1):=by grind
      rw [this,uv];omega
    · have:(d1*M - v)*s1 - (s1*M - (i*c'+j*c))*d1=(i*c'+j*c)*d1 - v*s1:=by grind
      rw [this,k1]
  have hBf:FB (g,a1*M - u,d1*M - v,s1*M - (i*c'+j*c)) (0,a1,d1,s1)=(g*d1,e,c'):=by
    simp only [FB,Prod.mk.injEq]
    refine ⟨by omega,?_,?_⟩
    · have:g*s1 - (s1*M - (i*c'+j*c))*0+(a1*M - u)*d1 - (d1*M - v)*a1=g*s1 - (u*d1 - v*a1):=by grind
      rw [this,uv];omega
    · have:(a1*M - u)*s1 - (s1*M - (i*c'+j*c))*a1=(i*c'+j*c)*a1 - u*s1:=by grind
      rw [this,k2]
  refine ⟨hA,hBf,?_⟩
  have hC:=(Comp.meas ⟨_,_,hA,hBf,rfl⟩).2
  have e1:(FC (g,a1*M - u,d1*M - v,s1*M - (i*c'+j*c)) (0,a1,d1,s1)).1=a1*d1:=by simp only [FC];omega
  have e2:(FC (g,a1*M - u,d1*M - v,s1*M - (i*c'+j*c)) (0,a1,d1,s1)).2.1=e+2*d1*u - 2*(a1*d1)*M:=by rw [eB];simp only [FC];omega
  refine Afz e1 e2 ?_
  generalize FC (g,a1*M - u,d1*M - v,s1*M - (i*c'+j*c)) (0,a1,d1,s1)=Z at *
  obtain ⟨z1,z2,z3⟩:=Z
  have e1:z1=a1*d1:=e1
  have e2:z2=e+2*d1*u - 2*(a1*d1)*M:=e2
  have hC:z2*z2 - 4*z1*z3=meas (g*d1,e,c'):=hC
  show z3=_
  rw [←e2,←e1]
  have:z2*z2 - meas (g*a1,b,c)=4*z1*z3:=by rw [hm];omega
  rw [this]
  exact (Int.mul_fdiv_cancel_left _ (by rw [e1];omega)).symm
end My
namespace My
open PySem L2
theorem Aaq {p q:I4} (x y z w:Int):val (FC p q) (p.1*(x*z)+p.2.1*(x*w)+p.2.2.1*(y*z)+p.2.2.2*(y*w),q.1*(x*z)+q.2.1*(x*w)+q.2.2.1*(y*z)+q.2.2.2*(y*w))=val (FA p q) (x,y)*val (FB p q) (z,w):=by
  obtain ⟨p0,p1,p2,p3⟩:=p;obtain ⟨q0,q1,q2,q3⟩:=q
  simp only [FA,FB,FC,val]
  grind
end My
namespace My
open PySem L2
local macro_rules | `(tactic| walk_at "sc") => `(tactic| (exact ⟨rfl, rfl, rfl, by decide +kernel, rfl, by decide +kernel, by decide +kernel⟩))
local macro_rules | `(tactic| walk_at "lE") => `(tactic| (exact fun ds Q ⟨p, e, _⟩ => by rw [e]; rfl))
local macro_rules | `(tactic| walk_at "b1") => `(tactic| (intro _ _ _ _ _ _ us hl; exact match us, hl with | [_], _ => rfl))
local macro_rules | `(tactic| walk_at "b2") => `(tactic| (intro _ _ _ _ _ _ us hl; exact match us, hl with | [_, _], _ => rfl))
local macro_rules | `(tactic| walk_at "b3") => `(tactic| (intro _ _ _ _ _ _ us hl; exact match us, hl with | [_, _, _], _ => rfl))
local macro_rules | `(tactic| walk_at "b4") => `(tactic| (intro _ _ _ _ _ _ us hl; exact match us, hl with | [_, _, _, _], _ => rfl))
local macro_rules | `(tactic| walk_at "rd1") => `(tactic| dsimp only [AfO, Ain, AhJ, AcS, dIf, Z1, AdI, Aea, Ve, Xa, WW, W4, W6, RZ, AdL, Ac2, Ahj, dIn, dOp, dUn, AbE, dC, dIx, Ajo, AkM, Akr, Alu, Aj6, AkC, Aks, AkK, AfB, Af5, Ai9, AfH, Ahn, AgV, Ai1, AjG, dI, dI0, dB0, dLt, dLe, dGt, dGe, dEq, dNe, dIs, Ai6, AhI, dOr, AcF, Qg, Ac1, Adw, Agw, AkV, Aa8, AdE, dTup, AgQ, dCall, dCB, Yv, Zg, AaL, Akt, Ahb, Ajb, Aah, WD, Ac4, Oh, Wr, KD, inner, Ade, AdM, YL, Aaa, Afi, Adq, dOf, Ahh, AbD, Ag4, Aes, AeT, AeX, AgU, AkF, AdU, Aht, Agc, AeH, AeW, AjJ, ZG, AkD, AgH, Ak6, AfL, Ag1, AiN, AkQ, AhO, AdF, Ahg, AhQ, ownAt, Aih, AdX, Aei, AeF, Ad5, AeR, Aar, Px, AdN, AjB, Yr, Ae3, Xi, Ac0,
  List.length_cons,List.length_nil,List.getElem?_cons_zero,List.getElem?_cons_succ,List.set_cons_zero,List.set_cons_succ,Nat.reduceAdd,List.map_cons,List.map_nil,Option.join_some])
local macro_rules | `(tactic| walk_at "rd2") => `(tactic| simp only [AhY, Af7, Af8, Aja, Afp, Aic, AiB, AfV, Ah4, AhM, Aie, Akk, Ak8, Ajg, Ajs, Akm, Ajy, Afh, Afg, Afe, Aeg, AdS, AeV, AeP, AeU, Ad8, Ae1, M6, Aiy, Ue, Agk, Aik, AfM, Agj, WR, AgC, V3, VN, AeC, Ad0, Iw, Ael, Aez, S8, Acv, Abs, Abu, AbN, RX, RV, if_true, if_false, Bool.and_true, Bool.true_and, Bool.false_and, Bool.and_false, Bool.not_true, Bool.not_false, Bool.false_eq_true, true_and, and_true, ite_true, ite_false, List.length_map])
local macro_rules | `(tactic| walk_at "rd") => `(tactic| ((try walk_at "rd1"); (try walk_at "rd2")))
local macro_rules | `(tactic| walk_at "go") => `(tactic| ((try simp only [OD, Pq, PL]); walk_at "rd"))
local macro_rules | `(tactic| walk_at "bts") => `(tactic| first | assumption | (with_reducible apply Bt.mul <;> walk_at "bts") | (with_reducible apply Bt.add <;> walk_at "bts") | (with_reducible apply Bt.sub <;> walk_at "bts") | (with_reducible apply Bt.neg <;> walk_at "bts") | exact Bt.of_abs (n := 1) (by decide) | exact Bt.of_abs (n := 8) (by decide) | exact Bt.of_abs (n := 400) (by decide))
local macro_rules | `(tactic| walk_at "bt") => `(tactic| exact Bt.le (by walk_at "bts") (by decide))
local macro_rules | `(tactic| walk_at "mul") => `(tactic| exact Bt.mulOk (by walk_at "bts") (by walk_at "bts") (by decide) (by decide))
local macro_rules | `(tactic| walk_at "muls") => `(tactic| repeat (refine ⟨by first | walk_at "mul" | exact Am (by decide) | decide | exact ⟨by decide, by decide⟩, ?_⟩))
noncomputable def top (i:Nat):Stmt:=PySem.Challenge.pw_formcycle_k41_products_walk.main.body.getD i (.Pass ⟨0,0,0,0⟩)
noncomputable abbrev GP:Stmt:=top 10
theorem Iz:Ao ["one","other","rest"] ["one","other"] (Ai GP):=by walk_at "sc"
noncomputable abbrev HX:Stmt:=top 11
theorem GD:Ao ["one","other","row","lower","rest"] ["one","other"] (Ai HX):=by walk_at "sc"
noncomputable abbrev Ge:Stmt:=top 12
theorem T7:Ao ["row","lower","often"] ["row","lower","often"] (Ai Ge):=by walk_at "sc"
noncomputable abbrev Jj:Stmt:=top 13
theorem K9:Ao ["number","guess","better"] ["number"] (Ai Jj):=by walk_at "sc"
noncomputable abbrev Fo:Stmt:=top 14
theorem KH:Ao ["number","side"] ["number"] (Ai Fo):=by walk_at "sc"
noncomputable abbrev Cr:Stmt:=top 15
theorem Mr:Ao ["number","most"] ["number","most"] (Ai Cr):=by walk_at "sc"
noncomputable abbrev GR:Stmt:=top 18
theorem Vk:Ao ["turn"] ["turn"] (Ai GR):=by walk_at "sc"
noncomputable abbrev Cz:Stmt:=top 19
theorem Ql:Ao ["turn"] ["turn"] (Ai Cz):=by walk_at "sc"
noncomputable abbrev QZ:Stmt:=top 20
theorem Afb:Ao ["turn","point"] ["turn","point"] (Ai QZ):=by walk_at "sc"
noncomputable abbrev Dg:Stmt:=top 21
theorem P0:Ao ["one","other"] ["one","other"] (Ai Dg):=by walk_at "sc"
noncomputable abbrev LQ:Stmt:=top 22
theorem AbR:Ao ["turn"] ["turn"] (Ai LQ):=by walk_at "sc"
noncomputable abbrev Cv:Stmt:=top 24
theorem Vj:Ao ["form"] ["form"] (Ai Cv):=by walk_at "sc"
noncomputable abbrev JF:Stmt:=top 25
theorem O3:Ao ["form","point","x","y"] ["form","point"] (Ai JF):=by walk_at "sc"
noncomputable abbrev GJ:Stmt:=top 26
theorem VD:Ao ["form"] ["form"] (Ai GJ):=by walk_at "sc"
noncomputable abbrev Ig:Stmt:=top 27
theorem Pu:Ao ["form","turn","left","right"] ["form","turn"] (Ai Ig):=by walk_at "sc"
noncomputable abbrev HN:Stmt:=top 28
theorem QT:Ao ["form","left","right","crossed"] ["form","left","right"] (Ai HN):=by walk_at "sc"
noncomputable abbrev Hr:Stmt:=top 29
theorem Ux:Ao ["form","number"] ["form"] (Ai Hr):=by walk_at "sc"
noncomputable abbrev Ej:Stmt:=top 31
theorem Qi:Ao ["form"] ["form"] (Ai Ej):=by walk_at "sc"
noncomputable abbrev CV:Stmt:=top 32
theorem Ey:Ao ["form","a","b","c"] ["form"] (Ai CV):=by walk_at "sc"
noncomputable abbrev GF:Stmt:=top 33
theorem Hj:Ao ["form","turn","lowering"] ["form"] (Ai GF):=by walk_at "sc"
noncomputable abbrev Ea:Stmt:=top 34
theorem J4:Ao ["form","often"] ["form"] (Ai Ea):=by walk_at "sc"
noncomputable abbrev Cp:Stmt:=top 37
theorem Ni:Ao ["form"] ["form"] (Ai Cp):=by walk_at "sc"
noncomputable abbrev CT:Stmt:=top 38
theorem Jd:Ao ["form","far","b"] ["form","far"] (Ai CT):=by walk_at "sc"
noncomputable abbrev Dv:Stmt:=top 39
theorem Fz:Ao ["form","top","b","c","d"] ["form","top"] (Ai Dv):=by walk_at "sc"
noncomputable abbrev CK:Stmt:=top 40
theorem Jr:Ao ["stop","top","turn"] ["stop","top"] (Ai CK):=by walk_at "sc"
noncomputable abbrev JK:Stmt:=top 41
theorem Lp:Ao ["form","far","stop"] ["form"] (Ai JK):=by walk_at "sc"
noncomputable abbrev Ds:Stmt:=top 42
theorem CW:Ao ["form","far","first","stops","stop"] ["form"] (Ai Ds):=by walk_at "sc"
noncomputable abbrev GZ:Stmt:=top 43
theorem U9:Ao ["form"] ["form"] (Ai GZ):=by walk_at "sc"
noncomputable abbrev EY:Stmt:=top 48
theorem Ur:Ao ["form"] ["form"] (Ai EY):=by walk_at "sc"
noncomputable abbrev GX:Stmt:=top 50
theorem IV:Ao ["one","other","common","form","lowest"] ["one","other"] (Ai GX):=by walk_at "sc"
noncomputable abbrev Ei:Stmt:=top 51
theorem Ht:Ao ["one","other","first","second"] ["one","other"] (Ai Ei):=by walk_at "sc"
noncomputable abbrev Dq:Stmt:=top 52
theorem Pj:Ao ["form"] ["form"] (Ai Dq):=by walk_at "sc"
noncomputable abbrev Bw:Stmt:=top 53
theorem Ke:Ao ["one","other"] ["one","other"] (Ai Bw):=by walk_at "sc"
noncomputable abbrev Cw:Stmt:=top 54
theorem Ga:Ao ["one","other","firsts","whole"] ["one","other"] (Ai Cw):=by walk_at "sc"
noncomputable abbrev Ef:Stmt:=top 55
theorem CP:Ao ["one","other","common","g","d","e","first","more","middle"] ["one","other","common"] (Ai Ef):=by walk_at "sc"
noncomputable abbrev Em:Stmt:=top 56
theorem Ci:Ao ["one","other","g","middle","a","b","d","e","s","last","upper"] ["one","other","g","middle"] (Ai Em):=by walk_at "sc"
noncomputable abbrev Df:Stmt:=top 57
theorem M4:Ao ["turn","rows","pairs"] ["turn","rows"] (Ai Df):=by walk_at "sc"
noncomputable abbrev Ia:Stmt:=top 58
theorem Yl:Ao ["rows","one","other"] ["rows","one","other"] (Ai Ia):=by walk_at "sc"
noncomputable abbrev Fi:Stmt:=top 59
theorem IK:Ao ["row","one","other","left","right"] ["row","one","other"] (Ai Fi):=by walk_at "sc"
noncomputable abbrev Dd:Stmt:=top 61
theorem Rt:Ao ["_law_script","_law_k"] ["_law_script","_law_k"] (Ai Dd):=by walk_at "sc"
noncomputable abbrev Ek:Stmt:=top 62
theorem Qe:Ao ["_law_found"] ["_law_found"] (Ai Ek):=by walk_at "sc"
noncomputable abbrev CN:Stmt:=top 63
theorem Od:Ao ["_law_found","_law_many"] ["_law_found","_law_many"] (Ai CN):=by walk_at "sc"
noncomputable abbrev Dm:Stmt:=top 64
theorem UG:Ao ["_law_form"] ["_law_form"] (Ai Dm):=by walk_at "sc"
noncomputable abbrev DR:Stmt:=top 65
theorem Ir:Ao ["_law_number","_law_near"] ["_law_number"] (Ai DR):=by walk_at "sc"
noncomputable abbrev Fp:Stmt:=top 66
theorem Ip:Ao ["_law_form","_law_bar_here","_law_far"] ["_law_form"] (Ai Fp):=by walk_at "sc"
noncomputable abbrev Ed:Stmt:=top 67
theorem Qs:Ao ["_law_form","_law_far"] ["_law_form","_law_far"] (Ai Ed):=by walk_at "sc"
noncomputable abbrev Dr:Stmt:=top 68
theorem DN:Ao ["_law_form","_law_top","_law_a","_law_b","_law_c","_law_d"] ["_law_form","_law_top"] (Ai Dr):=by walk_at "sc"
noncomputable abbrev Ft:Stmt:=top 69
theorem Dh:Ao ["_law_form","_law_a","_law_b","_law_c","_law_k"] ["_law_form"] (Ai Ft):=by walk_at "sc"
noncomputable abbrev Eo:Stmt:=top 70
theorem CQ:Ao ["_law_form","_law_far","_law_least_here","_law_now"] ["_law_form"] (Ai Eo):=by walk_at "sc"
noncomputable abbrev Fl:Stmt:=top 71
theorem Ky:Ao ["_law_one","_law_other"] ["_law_one","_law_other"] (Ai Fl):=by walk_at "sc"
noncomputable abbrev Fq:Stmt:=top 72
theorem BW:Ao ["_law_first","_law_cells","_law_p","_law_q","_law_r","_law_s","_law_cell_here","_law_k"] ["_law_first","_law_cells"] (Ai Fq):=by walk_at "sc"
noncomputable abbrev Dk:Stmt:=top 73
theorem Qj:Ao ["_law_form","_law_x","_law_y"] ["_law_form","_law_x","_law_y"] (Ai Dk):=by walk_at "sc"
noncomputable abbrev Ec:Stmt:=top 74
theorem Du:Ao ["_law_form","_law_turn_here","_law_p","_law_q","_law_r","_law_s","_law_middle"] ["_law_form","_law_turn_here"] (Ai Ec):=by walk_at "sc"
noncomputable abbrev Gb:Stmt:=top 75
theorem Hq:Ao ["_law_script","_law_sort","_law_both","_law_size","_law_b","_law_rest_here","_law_bar_here"] ["_law_script","_law_sort","_law_both","_law_size"] (Ai Gb):=by walk_at "sc"
noncomputable abbrev CJ:Stmt:=top 76
theorem Ay:Ao ["_law_script","_law_many","_law_sort","_law_size","_law_pieces","_law_both","_law_piece","_law_b","_law_last","_law_total","_law_forms","_law_k"] ["_law_script","_law_many"] (Ai CJ):=by walk_at "sc"
noncomputable abbrev Fj:Stmt:=top 77
theorem Im:Ao ["_law_forms","_law_way","_law_one","_law_other"] ["_law_forms","_law_way"] (Ai Fj):=by walk_at "sc"
noncomputable abbrev BZ:Stmt:=top 78
theorem Hg:Ao ["_law_rows","_law_one","_law_other","_law_pairs","_law_x"] ["_law_rows","_law_one","_law_other"] (Ai BZ):=by walk_at "sc"
noncomputable abbrev El:Stmt:=top 79
theorem Cj:Ao ["_law_one","_law_other","_law_form","_law_rows","_law_x","_law_y","_law_z","_law_j","_law_spot","_law_upper","_law_lower"] ["_law_one","_law_other","_law_form","_law_rows"] (Ai El):=by walk_at "sc"
noncomputable abbrev JR:Stmt:=top 80
theorem Gd:Ao ["_law_script","_law_forms","_law_one","_law_other","_law_cells","_law_found","_law_form","_law_rows","_law_far","_law_spots","_law_told"] ["_law_script"] (Ai JR):=by walk_at "sc"
noncomputable abbrev HW:Stmt:=inClass (top 45) 0
theorem XR:Ao ["self","form","lowest"] ["self","form","lowest"] (Ai HW):=by walk_at "sc"
noncomputable abbrev JM:Stmt:=inClass (top 46) 0
theorem Yq:Ao ["self","form"] ["self","form"] (Ai JM):=by walk_at "sc"
noncomputable abbrev GQ:Stmt:=inClass (top 47) 0
theorem Vb:Ao ["self","form"] ["self","form"] (Ai GQ):=by walk_at "sc"
noncomputable abbrev HS:Stmt:=inClass (top 45) 1
theorem Xq:Ao ["self"] ["self"] (Ai HS):=by walk_at "sc"
structure Txt (K:PySem.W.Frag) (mg:Str→Option Value):Prop where
  o_Bowl:∃ C f fd,MkC K mg "Bowl" ["form","measure","lowest"] C f∧Fun K "__init__" "Bowl.__init__" JM f fd∧Binds K fd ["self","form"] []
  ic_Bowl:IsC K "Bowl"
  na_Bowl_form:Qv K "Bowl" "form"
  na_Bowl_measure:Qv K "Bowl" "measure"
  na_Bowl_lowest:Qv K "Bowl" "lowest"
  o_Saddle:∃ C f fd,MkC K mg "Saddle" ["form","measure","lowest"] C f∧Fun K "__init__" "Saddle.__init__" GQ f fd∧Binds K fd ["self","form"] []
  ic_Saddle:IsC K "Saddle"
  na_Saddle_form:Qv K "Saddle" "form"
  na_Saddle_measure:Qv K "Saddle" "measure"
  na_Saddle_lowest:Qv K "Saddle" "lowest"
  cm_Shape:∃ g fd,Wv K mg "Shape" "__init__" g∧Fun K "__init__" "Shape.__init__" HW g fd∧Binds K fd ["self","form","lowest"] []
  me_least:∃ g fd,(∀ c∈(["Bowl","Saddle"]:List Str),Wk K c "least" g)∧PySem.W.keepIn K (.ref g)=true∧Fun K "least" "Shape.least" HS g fd∧Binds K fd ["self"] []
  t_divisor:∃ f fd,FnT K mg "divisor" GP ["one","other"] f fd
  t_shares:∃ f fd,FnT K mg "shares" HX ["one","other"] f fd
  t_row_less:∃ f fd,FnT K mg "row_less" Ge ["row","lower","often"] f fd
  t_root:∃ f fd,FnT K mg "root" Jj ["number"] f fd
  t_is_square:∃ f fd,FnT K mg "is_square" Fo ["number"] f fd
  t_check_at_most:∃ f fd,FnT K mg "check_at_most" Cr ["number","most"] f fd
  t_is_turn:∃ f fd,FnT K mg "is_turn" GR ["turn"] f fd
  t_check_turn:∃ f fd,FnT K mg "check_turn" Cz ["turn"] f fd
  t_led:∃ f fd,FnT K mg "led" QZ ["turn","point"] f fd
  t_put_behind:∃ f fd,FnT K mg "put_behind" Dg ["one","other"] f fd
  t_back:∃ f fd,FnT K mg "back" LQ ["turn"] f fd
  t_measure:∃ f fd,FnT K mg "measure" Cv ["form"] f fd
  t_value:∃ f fd,FnT K mg "value" JF ["form","point"] f fd
  t_content:∃ f fd,FnT K mg "content" GJ ["form"] f fd
  t_moved:∃ f fd,FnT K mg "moved" Ig ["form","turn"] f fd
  t_middle:∃ f fd,FnT K mg "middle" HN ["form","left","right"] f fd
  t_shape:∃ f fd,FnT K mg "shape" Hr ["form"] f fd
  t_check_bowl:∃ f fd,FnT K mg "check_bowl" Ej ["form"] f fd
  t_stands_least:∃ f fd,FnT K mg "stands_least" CV ["form"] f fd
  t_settled:∃ f fd,FnT K mg "settled" GF ["form"] f fd
  t_turn_lower:∃ f fd,FnT K mg "turn_lower" Ea ["form"] f fd
  t_check_saddle:∃ f fd,FnT K mg "check_saddle" Cp ["form"] f fd
  t_stands_level:∃ f fd,FnT K mg "stands_level" CT ["form","far"] f fd
  t_turn_behind:∃ f fd,FnT K mg "turn_behind" Dv ["form","top"] f fd
  t_stop_behind:∃ f fd,FnT K mg "stop_behind" CK ["stop","top"] f fd
  t_eased:∃ f fd,FnT K mg "eased" JK ["form"] f fd
  t_stops_round:∃ f fd,FnT K mg "stops_round" Ds ["form"] f fd
  t_lowered:∃ f fd,FnT K mg "lowered" GZ ["form"] f fd
  t_shape_of:∃ f fd,FnT K mg "shape_of" EY ["form"] f fd
  t_product:∃ f fd,FnT K mg "product" GX ["one","other"] f fd
  t_check_pair:∃ f fd,FnT K mg "check_pair" Ei ["one","other"] f fd
  t_check_plain:∃ f fd,FnT K mg "check_plain" Dq ["form"] f fd
  t_half_of_middles:∃ f fd,FnT K mg "half_of_middles" Bw ["one","other"] f fd
  t_common_shares:∃ f fd,FnT K mg "common_shares" Cw ["one","other"] f fd
  t_joint_form:∃ f fd,FnT K mg "joint_form" Ef ["one","other","common"] f fd
  t_joint_rows:∃ f fd,FnT K mg "joint_rows" Em ["one","other","g","middle"] f fd
  t_rows_led:∃ f fd,FnT K mg "rows_led" Df ["turn","rows"] f fd
  t_joined:∃ f fd,FnT K mg "joined" Ia ["rows","one","other"] f fd
  t_joined_by:∃ f fd,FnT K mg "joined_by" Fi ["row","one","other"] f fd
  t__law_cell:∃ f fd,FnT K mg "_law_cell" Dd ["_law_script","_law_k"] f fd
  t__law_whole:∃ f fd,FnT K mg "_law_whole" Ek ["_law_found"] f fd
  t__law_wholes:∃ f fd,FnT K mg "_law_wholes" CN ["_law_found","_law_many"] f fd
  t__law_bar:∃ f fd,FnT K mg "_law_bar" Dm ["_law_form"] f fd
  t__law_root:∃ f fd,FnT K mg "_law_root" DR ["_law_number"] f fd
  t__law_flat:∃ f fd,FnT K mg "_law_flat" Fp ["_law_form"] f fd
  t__law_level:∃ f fd,FnT K mg "_law_level" Ed ["_law_form","_law_far"] f fd
  t__law_behind:∃ f fd,FnT K mg "_law_behind" Dr ["_law_form","_law_top"] f fd
  t__law_bowl:∃ f fd,FnT K mg "_law_bowl" Ft ["_law_form"] f fd
  t__law_least:∃ f fd,FnT K mg "_law_least" Eo ["_law_form"] f fd
  t__law_rest:∃ f fd,FnT K mg "_law_rest" Fl ["_law_one","_law_other"] f fd
  t__law_turn:∃ f fd,FnT K mg "_law_turn" Fq ["_law_first","_law_cells"] f fd
  t__law_value:∃ f fd,FnT K mg "_law_value" Dk ["_law_form","_law_x","_law_y"] f fd
  t__law_moved:∃ f fd,FnT K mg "_law_moved" Ec ["_law_form","_law_turn_here"] f fd
  t__law_sum:∃ f fd,FnT K mg "_law_sum" Gb ["_law_script","_law_sort","_law_both","_law_size"] f fd
  t__law_united:∃ f fd,FnT K mg "_law_united" CJ ["_law_script","_law_many"] f fd
  t__law_pair:∃ f fd,FnT K mg "_law_pair" Fj ["_law_forms","_law_way"] f fd
  t__law_joined:∃ f fd,FnT K mg "_law_joined" BZ ["_law_rows","_law_one","_law_other"] f fd
  t__law_walks:∃ f fd,FnT K mg "_law_walks" El ["_law_one","_law_other","_law_form","_law_rows"] f fd
  t_law:∃ f fd,FnT K mg "law" JR ["_law_script"] f fd
  m_MOST_MEASURE:∃ t,mg "MOST_MEASURE"=some (.int (4000) t)
  z_abs:mg "abs"=none
  z_bool:mg "bool"=none
  z_int:mg "int"=none
  z_isinstance:mg "isinstance"=none
  z_len:mg "len"=none
  z_max:mg "max"=none
  z_min:mg "min"=none
  z_range:mg "range"=none
  z_sum:mg "sum"=none
  z_tuple:mg "tuple"=none
  z_zip:mg "zip"=none
  k_SAME:∃ a,mg "SAME"=some (.ref a)∧∀ H,Rp K H (.tup [.int (1),.int (0),.int (0),.int (1)]) (.ref a)
noncomputable abbrev Oi:DSp:=BJ (fun t:I4=>[t4 t]) (B4 300000) fun t=>.bl (decide (det t=1))
noncomputable abbrev Gi:DSp:=BJ (fun t:I4=>[t4 t]) (fun t=>B4 300000 t∧det t=1) fun _=>.non
noncomputable abbrev Yu:DSp:=BJ (fun p:I4 × I2=>[t4 p.1,t2 p.2]) (fun p=>B4 300000 p.1∧det p.1=1∧B2 300000 p.2) fun p=>t2 (Ho p.1 p.2)
noncomputable abbrev Hw:DSp:=BJ (fun p:I4 × I4=>[t4 p.1,t4 p.2]) (fun p=>B4 400000 p.1∧B4 400000 p.2) fun p=>t4 (Ar p.1 p.2)
noncomputable abbrev Xb:DSp:=BJ (fun t:I4=>[t4 t]) (fun t=>B4 300000 t∧det t=1) fun t=>t4 (Av t)
section
variable (P:Program) (w:World) {K:PySem.W.Frag} {mg:Str→Option Value} (base:Heap)
theorem Vf (T:Txt K mg)
    : Pm P w K mg base 1 "is_turn" GR ["turn"] Oi:=by
  obtain ⟨f,fd,F⟩:=T.t_is_turn
  refine ⟨f,fd,F,F.fn.okD Vk (by walk_at "lE") fun cdv A outer s H E hr=>⟨_,(Ah (Aq (QM hr.units (Bl (Ak (Ac (dv 0) Ab) (Ac (dv 0) Ab)) (Ak (Ac (dv 0) Ab) (Ac (dv 0) Ab))) Ab))),fun ds Q h=>?_⟩⟩
  obtain ⟨⟨a,b,c,d⟩,rfl,⟨ha,hb,hc,hd⟩,q⟩:=h
  walk_at "go"
  exact ⟨by walk_at "mul",by walk_at "mul",q _ rfl⟩
theorem Qm (T:Txt K mg)
    (G_is_turn:Pm P w K mg base 1 "is_turn" GR ["turn"] Oi)
    : Pm P w K mg base 2 "check_turn" Cz ["turn"] Gi:=by
  obtain ⟨f,fd,F⟩:=T.t_check_turn
  refine ⟨f,fd,F,F.fn.okD Ql (by walk_at "lE") fun cdv A outer s H E hr=>⟨_,(Ah (Ca (FN (Fb (Ag Af G_is_turn (hr.mono (by decide)) rfl (Aa (dv 0) Ae)))) (Ah G5) Bd)),fun ds Q h=>?_⟩⟩
  obtain ⟨t,rfl,⟨hb,hd⟩,q⟩:=h
  walk_at "go"
  refine Aj t hb ?_
  walk_at "rd"
  rw [decide_eq_true hd]
  exact q _ rfl
theorem Ae6 (T:Txt K mg)
    (G_check_turn:Pm P w K mg base 2 "check_turn" Cz ["turn"] Gi)
    : Pm P w K mg base 3 "led" QZ ["turn","point"] Yu:=by
  obtain ⟨f,fd,F⟩:=T.t_led
  refine ⟨f,fd,F,F.fn.okD Afb (by walk_at "lE") fun cdv A outer s H E hr=>⟨_,(Ad (Gj (Ag Af G_check_turn (hr.mono (by decide)) rfl (Aa (dv 0) Ae))) (Ah (Aq (Ba (Aa (Bh (Ak (Ac (dv 0) Ab) (Ac (dv 1) Ab)) (Ak (Ac (dv 0) Ab) (Ac (dv 1) Ab))) (Aa (Bh (Ak (Ac (dv 0) Ab) (Ac (dv 1) Ab)) (Ak (Ac (dv 0) Ab) (Ac (dv 1) Ab))) Ae)))))),fun ds Q h=>?_⟩⟩
  obtain ⟨⟨⟨a,b,c,d⟩,x,y⟩,rfl,⟨hb,hd,hx,hy⟩,q⟩:=h
  walk_at "go"
  refine Aj (a,b,c,d) ⟨hb,hd⟩ ?_
  obtain ⟨ha,hb,hc,hd⟩:=hb
  exact ⟨by walk_at "mul",by walk_at "mul",by walk_at "mul",by walk_at "mul",Am (by decide),q _ rfl⟩
theorem Qd (T:Txt K mg)
    : Pm P w K mg base 1 "put_behind" Dg ["one","other"] Hw:=by
  obtain ⟨f,fd,F⟩:=T.t_put_behind
  refine ⟨f,fd,F,F.fn.okD P0 (by walk_at "lE") fun cdv A outer s H E hr=>⟨_,(Ah (Aq (Ba (Aa (Bh (Ak (Ac (dv 0) Ab) (Ac (dv 1) Ab)) (Ak (Ac (dv 0) Ab) (Ac (dv 1) Ab))) (Aa (Bh (Ak (Ac (dv 0) Ab) (Ac (dv 1) Ab)) (Ak (Ac (dv 0) Ab) (Ac (dv 1) Ab))) (Aa (Bh (Ak (Ac (dv 0) Ab) (Ac (dv 1) Ab)) (Ak (Ac (dv 0) Ab) (Ac (dv 1) Ab))) (Aa (Bh (Ak (Ac (dv 0) Ab) (Ac (dv 1) Ab)) (Ak (Ac (dv 0) Ab) (Ac (dv 1) Ab))) Ae))))))),fun ds Q h=>?_⟩⟩
  obtain ⟨⟨⟨a,b,c,d⟩,e,f,g,i⟩,rfl,⟨⟨ha,hb,hc,hd⟩,he,hf,hg,hi⟩,q⟩:=h
  walk_at "go"
  exact ⟨by walk_at "mul",by walk_at "mul",by walk_at "mul",by walk_at "mul",by walk_at "mul",by walk_at "mul",by walk_at "mul",by walk_at "mul",Am (by decide),q _ rfl⟩
theorem Aa1 (T:Txt K mg)
    (G_check_turn:Pm P w K mg base 2 "check_turn" Cz ["turn"] Gi)
    : Pm P w K mg base 3 "back" LQ ["turn"] Xb:=by
  obtain ⟨f,fd,F⟩:=T.t_back
  refine ⟨f,fd,F,F.fn.okD AbR (by walk_at "lE") fun cdv A outer s H E hr=>⟨_,(Ad (Gj (Ag Af G_check_turn (hr.mono (by decide)) rfl (Aa (dv 0) Ae))) (Ah (Aq (Ba (Aa (Ac (dv 0) Ab) (Aa (Il (Ac (dv 0) Ab)) (Aa (Il (Ac (dv 0) Ab)) (Aa (Ac (dv 0) Ab) Ae)))))))),fun ds Q h=>?_⟩⟩
  obtain ⟨⟨a,b,c,d⟩,rfl,⟨hb,hd⟩,q⟩:=h
  walk_at "go"
  refine Aj (a,b,c,d) ⟨hb,hd⟩ ?_
  exact ⟨Am (by decide),q _ rfl⟩
theorem AbT (T:Txt K mg)
    : Pm P w K mg base 1 "root" Jj ["number"] Nu:=by
  obtain ⟨f,fd,F⟩:=T.t_root
  refine ⟨f,fd,F,F.fn.okD K9 (by walk_at "lE") fun cdv A outer s H E hr=>⟨_,(Ad (Ca (Jx (dv 0) Ab) (Ah G5) Bd) (Ad (Ca (Le hr.units (dv 0) Ab) (Ah (Aq Ab)) Bd) (Ad (Al 1 K9.nd (Aaf Ab (Bu (Bh (WT (dv 0)) Ab) Ab))) (Ad (Al 2 K9.nd (Bu (Bh (dv 1) (Bu (dv 0) (dv 1))) Ab)) (Ad (DK PassesOwn.never (Jx (dv 2) (dv 1)) (Ad (Al 1 K9.nd (dv 2)) (Ah (Al 2 K9.nd (Bu (Bh (dv 1) (Bu (dv 0) (dv 1))) Ab))))) (Ah (Aq (dv 1)))))))),fun ds Q h=>?_⟩⟩
  obtain ⟨n,rfl,⟨h0,hb⟩,q⟩:=h
  walk_at "go"
  refine FQ (decide_eq_false (by omega)) ?_
  by_cases hz:n=0
  · subst hz
    exact ift rfl (q _ ⟨0,rfl,⟨by omega,by omega,by omega⟩,Bt.zero.le (by decide)⟩)
  refine FQ (decide_eq_false hz) ?_
  obtain ⟨c1,c2,c3⟩:=MP hb
  have hu:=Ua h0
  refine ⟨⟨by decide,by decide⟩,c1,?_⟩
  generalize (1*2 ^ ((((Builtin.Int.intBits n:Nat):Int)+1).fdiv 2).toNat:Int)=g at *
  refine ⟨Bt.divOk c2 (by omega),⟨by decide,by decide⟩,?_⟩
  rw [Td c3]
  refine DY (fun m ρ=>∃ g:Int,ρ=[some (.is (.int n)),some (.is (.int g)),some (.is (.int ((g+n / g) / 2)))]∧0 < g∧Bt 2001 g∧n < (g+1)*(g+1)∧m=g.toNat) _ ⟨g,rfl,c3,c2,hu,rfl⟩ ?_
  rintro m _ ⟨g,rfl,hg,hgb,hgu,rfl⟩
  walk_at "rd"
  refine Eb (fun hw=>?_) (fun hw=>?_)
  · have hw:=of_decide_eq_true hw
    have hp:=Vq (show 1≤n by omega) hg
    have hu':=Rk h0 hg
    have hbb:Bt 2001 ((g+n / g) / 2):=by unfold Bt at *;omega
    generalize (g+n / g) / 2=b at *
    refine ⟨Bt.divOk hbb (by omega),⟨by decide,by decide⟩,?_⟩
    rw [Td hp]
    exact ⟨_,by omega,b,rfl,hp,hbb,hu',rfl⟩
  · have hw:¬ (g+n / g) / 2 < g:=fun z=>hw (decide_eq_true z)
    exact q _ ⟨g,rfl,⟨by omega,Vo hg (by omega),hgu⟩,hgb⟩
theorem Sv (T:Txt K mg)
    (G_root:Pm P w K mg base 1 "root" Jj ["number"] Nu)
    : Pm P w K mg base 2 "is_square" Fo ["number"] K6:=by
  obtain ⟨f,fd,F⟩:=T.t_is_square
  refine ⟨f,fd,F,F.fn.okD KH (by walk_at "lE") fun cdv A outer s H E hr=>⟨_,(Ad (Ca (Jx (dv 0) Ab) (Ah (Aq Jf)) Bd) (Ad (Al 1 KH.nd (Ag Af G_root (hr.mono (by decide)) rfl (Aa (dv 0) Ae))) (Ah (Aq (QM hr.units (Ak (dv 1) (dv 1)) (dv 0)))))),fun ds Q h=>?_⟩⟩
  obtain ⟨n,rfl,hb,q⟩:=h
  walk_at "go"
  refine Eb (fun hw=>?_) (fun hw=>?_)
  · have hw:=of_decide_eq_true hw
    exact q _ ⟨false,rfl,by simp [Pz hw]⟩
  · have hw:¬ n < 0:=fun z=>hw (decide_eq_true z)
    refine Br n ⟨by omega,hb⟩ ?_
    rintro _ ⟨r,rfl,hs,hr'⟩
    walk_at "rd"
    refine ⟨by walk_at "mul",q _ ⟨_,rfl,?_⟩⟩
    rw [AaB hs];simp
noncomputable abbrev DP:DSp:=BJ (fun f:I3=>[t3 f]) (B3 20000) fun f=>.int (meas f)
noncomputable abbrev Uh:DSp:=BJ (fun p:I3 × I2=>[t3 p.1,t2 p.2]) (fun p=>B3 20000 p.1∧B2 300000 p.2) fun p=>.int (val p.1 p.2)
noncomputable abbrev QJ:DSp:=BJ (fun p:I3 × I2 × I2=>[t3 p.1,t2 p.2.1,t2 p.2.2]) (fun p=>B3 20000 p.1∧B2 300000 p.2.1∧B2 300000 p.2.2) fun p=>.int (mid p.1 p.2.1 p.2.2)
noncomputable abbrev Ot:DSp:=BJ (fun p:I3 × I4=>[t3 p.1,t4 p.2]) (fun p=>B3 20000 p.1∧B4 300000 p.2∧det p.2=1) fun p=>t3 (mov p.1 p.2)
theorem V2 (T:Txt K mg)
    : Pm P w K mg base 1 "measure" Cv ["form"] DP:=by
  obtain ⟨f,fd,F⟩:=T.t_measure
  refine ⟨f,fd,F,F.fn.okD Vj (by walk_at "lE") fun cdv A outer s H E hr=>⟨_,(Ah (Aq (Bl (Ak (Ac (dv 0) Ab) (Ac (dv 0) Ab)) (Ak (Ak Ab (Ac (dv 0) Ab)) (Ac (dv 0) Ab))))),fun ds Q h=>?_⟩⟩
  obtain ⟨⟨a,b,c⟩,rfl,⟨ha,hb,hc⟩,q⟩:=h
  walk_at "go"
  have h2:Bt 3 4:=Bt.of_abs (by decide)
  exact ⟨by walk_at "mul",by walk_at "mul",by walk_at "mul",q _ rfl⟩
theorem YZ (T:Txt K mg)
    : Pm P w K mg base 1 "value" JF ["form","point"] Uh:=by
  obtain ⟨f,fd,F⟩:=T.t_value
  refine ⟨f,fd,F,F.fn.okD O3 (by walk_at "lE") fun cdv A outer s H E hr=>⟨_,(Ad (Al 2 O3.nd (Ac (dv 1) Ab)) (Ad (Al 3 O3.nd (Ac (dv 1) Ab)) (Ah (Aq (Bh (Bh (Ak (Ak (Ac (dv 0) Ab) (dv 2)) (dv 2)) (Ak (Ak (Ac (dv 0) Ab) (dv 2)) (dv 3))) (Ak (Ak (Ac (dv 0) Ab) (dv 3)) (dv 3))))))),fun ds Q h=>?_⟩⟩
  obtain ⟨⟨⟨a,b,c⟩,x,y⟩,rfl,⟨⟨ha,hb,hc⟩,hx,hy⟩,q⟩:=h
  walk_at "go"
  exact ⟨by walk_at "mul",by walk_at "mul",by walk_at "mul",by walk_at "mul",by walk_at "mul",by walk_at "mul",q _ rfl⟩
theorem Ye (T:Txt K mg)
    : Pm P w K mg base 1 "middle" HN ["form","left","right"] QJ:=by
  obtain ⟨f,fd,F⟩:=T.t_middle
  refine ⟨f,fd,F,F.fn.okD QT (by walk_at "lE") fun cdv A outer s H E hr=>⟨_,(Ad (Al 3 QT.nd (Bh (Ak (Ac (dv 1) Ab) (Ac (dv 2) Ab)) (Ak (Ac (dv 2) Ab) (Ac (dv 1) Ab)))) (Ah (Aq (Bh (Bh (Ak (Ak (Ak Ab (Ac (dv 0) Ab)) (Ac (dv 1) Ab)) (Ac (dv 2) Ab)) (Ak (Ac (dv 0) Ab) (dv 3))) (Ak (Ak (Ak Ab (Ac (dv 0) Ab)) (Ac (dv 1) Ab)) (Ac (dv 2) Ab)))))),fun ds Q h=>?_⟩⟩
  obtain ⟨⟨⟨a,b,c⟩,⟨x,y⟩,u,v⟩,rfl,⟨⟨ha,hb,hc⟩,⟨hx,hy⟩,hu,hv⟩,q⟩:=h
  walk_at "go"
  have h2:Bt 2 2:=Bt.of_abs (by decide)
  walk_at "muls"
  exact q _ rfl
theorem Zv (T:Txt K mg)
    (G_check_turn:Pm P w K mg base 2 "check_turn" Cz ["turn"] Gi)
    (G_value:Pm P w K mg base 1 "value" JF ["form","point"] Uh)
    (G_middle:Pm P w K mg base 1 "middle" HN ["form","left","right"] QJ)
    : Pm P w K mg base 3 "moved" Ig ["form","turn"] Ot:=by
  obtain ⟨f,fd,F⟩:=T.t_moved
  refine ⟨f,fd,F,F.fn.okD Pu (by walk_at "lE") fun cdv A outer s H E hr=>⟨_,(Ad (Gj (Ag Af G_check_turn (hr.mono (by decide)) rfl (Aa (dv 1) Ae))) (Ad (Al 2 Pu.nd (Ba (Aa (Ac (dv 1) Ab) (Aa (Ac (dv 1) Ab) Ae)))) (Ad (Al 3 Pu.nd (Ba (Aa (Ac (dv 1) Ab) (Aa (Ac (dv 1) Ab) Ae)))) (Ah (Aq (Ba (Aa (Ag Af G_value (hr.mono (by decide)) rfl (Aa (dv 0) (Aa (dv 2) Ae))) (Aa (Ag Af G_middle (hr.mono (by decide)) rfl (Aa (dv 0) (Aa (dv 2) (Aa (dv 3) Ae)))) (Aa (Ag Af G_value (hr.mono (by decide)) rfl (Aa (dv 0) (Aa (dv 3) Ae))) Ae))))))))),fun ds Q h=>?_⟩⟩
  obtain ⟨⟨f,t⟩,rfl,⟨hf,ht,hd⟩,q⟩:=h
  walk_at "go"
  have hl:B2 300000 (t.1,t.2.2.1):=⟨ht.1.le (by decide),ht.2.2.1.le (by decide)⟩
  have hr':B2 300000 (t.2.1,t.2.2.2):=⟨ht.2.1.le (by decide),ht.2.2.2.le (by decide)⟩
  refine Aj t ⟨ht,hd⟩ ⟨Am (by decide),Am (by decide),?_⟩
  refine Aj (f,(t.1,t.2.2.1)) ⟨hf,hl⟩ ?_
  refine Aj (f,(t.1,t.2.2.1),(t.2.1,t.2.2.2)) ⟨hf,hl,hr'⟩ ?_
  refine Aj (f,(t.2.1,t.2.2.2)) ⟨hf,hr'⟩ ⟨Am (by decide),?_⟩
  exact q _ rfl
noncomputable abbrev O1:DSp:=BJ (fun p:I2=>[.int p.1,.int p.2]) (fun _=>True) fun p=>.int ((Int.gcd p.1 p.2:Nat):Int)
theorem VR (T:Txt K mg)
    : Pm P w K mg base 1 "divisor" GP ["one","other"] O1:=by
  obtain ⟨f,fd,F⟩:=T.t_divisor
  refine ⟨f,fd,F,F.fn.okD Iz (by walk_at "lE") fun cdv A outer s H E hr=>⟨_,(Ad (DK PassesOwn.never (FW hr.units (dv 1) Ab) (Ad (Al 2 Iz.nd (Dz (dv 0) (dv 1))) (Ad (Al 0 Iz.nd (dv 1)) (Ah (Al 1 Iz.nd (dv 2)))))) (Ah (Aq (Jq T.z_abs (Aa (dv 0) Ae))))),fun ds Q h=>?_⟩⟩
  obtain ⟨⟨a,b⟩,rfl,_,q⟩:=h
  simp only [OD,Pq,PL]
  refine DY (fun m ρ=>∃ x y z,ρ=[some (.is (.int x)),some (.is (.int y)),z]∧Int.gcd x y=Int.gcd a b∧m=y.natAbs) _ ⟨a,b,none,rfl,rfl,rfl⟩ ?_
  rintro m _ ⟨x,y,z,rfl,hg,rfl⟩
  walk_at "rd"
  by_cases hy:y=0
  · subst hy
    simp only [decide_true,Bool.not_true]
    walk_at "rd"
    have q':=q _ rfl
    have e:(if x < 0 then -x else x)=((Int.gcd a b:Nat):Int):=by rw [←hg,Int.gcd_zero_right];split <;> omega
    rw [e]
    exact q'
  · simp only [decide_eq_false hy,Bool.not_false,if_true]
    exact ⟨hy,_,Ih hy,y,x.fmod y,_,rfl,(KQ x y).trans hg,rfl⟩
noncomputable abbrev NQ:DSp:=BJ (fun f:I3=>[t3 f]) (fun _=>True) fun f=>.int (g3 f)
theorem Wg (T:Txt K mg)
    (G_divisor:Pm P w K mg base 1 "divisor" GP ["one","other"] O1)
    : Pm P w K mg base 2 "content" GJ ["form"] NQ:=by
  obtain ⟨f,fd,F⟩:=T.t_content
  refine ⟨f,fd,F,F.fn.okD VD (by walk_at "lE") fun cdv A outer s H E hr=>⟨_,(Ah (Aq (Ag Af G_divisor (hr.mono (by decide)) rfl (Aa (Ag Af G_divisor (hr.mono (by decide)) rfl (Aa (Ac (dv 0) Ab) (Aa (Ac (dv 0) Ab) Ae))) (Aa (Ac (dv 0) Ab) Ae))))),fun ds Q h=>?_⟩⟩
  obtain ⟨f,rfl,_,q⟩:=h
  walk_at "go"
  exact Aj (f.1,f.2.1) trivial (Aj (_,f.2.2) trivial (q _ rfl))
noncomputable abbrev Kz:DSp:=spec (fun f:I3=>[t3 f]) (fun f=>B3 1500 f) YK
theorem Zo (T:Txt K mg)
    (G_measure:Pm P w K mg base 1 "measure" Cv ["form"] DP)
    (G_is_square:Pm P w K mg base 2 "is_square" Fo ["number"] K6)
    : Pm P w K mg base 3 "shape" Hr ["form"] Kz:=by
  obtain ⟨f,fd,F⟩:=T.t_shape
  refine ⟨f,fd,F,F.fn.okD Ux (by walk_at "lE") fun cdv A outer s H E hr=>⟨_,(Ad (Al 1 Ux.nd (Ag Af G_measure (hr.mono (by decide)) rfl (Aa (dv 0) Ae))) (Ad (Ca (Fb (Ag Af G_is_square (hr.mono (by decide)) rfl (Aa (dv 1) Ae))) (Ah (Aq Kh)) Bd) (Ad (Ca (QG (dv 1) Ab) (Ah (Aq Kh)) Bd) (Ad (Ca (QG (Ac (dv 0) Ab) Ab) (Ah (Aq Kh)) Bd) (Ah (Aq Kh)))))),fun ds Q h=>?_⟩⟩
  obtain ⟨f,rfl,hf,q⟩:=h
  walk_at "go"
  refine Aj f (hf.le (by decide)) ?_
  have hm:Bt 4000 (meas f):=by
    obtain ⟨h1,h2,h3⟩:=hf
    have h4:Bt 3 4:=Bt.of_abs (by decide)
    exact ((h2.mul h2).sub ((h4.mul h1).mul h3)).le (by decide)
  refine Br (meas f) hm ?_
  rintro _ ⟨b,rfl,hb⟩
  walk_at "rd"
  refine Eb (fun h=>q _ (.flat (hb.mp h))) (fun h=>?_)
  have hn:¬ JQ (meas f):=fun z=>h (hb.mpr z)
  refine Eb (fun h=>q _ (.saddle hn (of_decide_eq_true h))) (fun h=>?_)
  have hp:¬ 0 < meas f:=fun z=>h (decide_eq_true z)
  refine Eb (fun h=>q _ (.bowl hn hp (of_decide_eq_true h))) (fun h=>q _ (.dome hn hp fun z=>h (decide_eq_true z)))
noncomputable abbrev J6:DSp:=BJ (fun f:I3=>[t3 f]) (fun f=>B3 1500 f∧Bo f) fun _=>.non
noncomputable abbrev Jb:DSp:=BJ (fun f:I3=>[t3 f]) (fun _=>True) fun f=>.bl (stands f)
theorem Qc (T:Txt K mg)
    (G_shape:Pm P w K mg base 3 "shape" Hr ["form"] Kz)
    : Pm P w K mg base 4 "check_bowl" Ej ["form"] J6:=by
  obtain ⟨f,fd,F⟩:=T.t_check_bowl
  refine ⟨f,fd,F,F.fn.okD Qi (by walk_at "lE") fun cdv A outer s H E hr=>⟨_,(Ah (Ca (FW hr.units (Ag Af G_shape (hr.mono (by decide)) rfl (Aa (dv 0) Ae)) Kh) (Ah G5) Bd)),fun ds Q h=>?_⟩⟩
  obtain ⟨f,rfl,⟨hb,h0,h1⟩,q⟩:=h
  walk_at "go"
  have h0:0 < f.1:=h0
  have h1:meas f < 0:=h1
  refine Br f hb ?_
  rintro _ hw
  cases hw with
  | flat z=>exact absurd z (Pz h1)
  | saddle _ z=>exact absurd z (by omega)
  | dome _ _ z=>exact absurd h0 z
  | bowl _ _ _=>exact ⟨⟨by rw [R9];decide +kernel,by rw [R9];decide +kernel⟩,ifn (by rw [Ue];rfl) (q _ rfl)⟩
theorem Nh (T:Txt K mg)
    : Pm P w K mg base 1 "stands_least" CV ["form"] Jb:=by
  obtain ⟨f,fd,F⟩:=T.t_stands_least
  refine ⟨f,fd,F,F.fn.okD Ey (by walk_at "lE") fun cdv A outer s H E hr=>⟨_,(Ad (Al 1 Ey.nd (Ac (dv 0) Ab)) (Ad (Al 2 Ey.nd (Ac (dv 0) Ab)) (Ad (Al 3 Ey.nd (Ac (dv 0) Ab)) (Ad (Ca (FN (Mq JV JV JV Dc Dc Dc  (Il (dv 1)) (dv 2) (dv 1) (dv 3))) (Ah (Aq Jf)) Bd) (Ah (Aq (AhS (Ajd (dv 2) Ab) (Oc (SM (Ady hr.units (dv 2) (Il (dv 1))) (Oc (Ady hr.units (dv 1) (dv 3)))))))))))),fun ds Q h=>?_⟩⟩
  obtain ⟨⟨a,b,c⟩,rfl,_,q⟩:=h
  have q':=q _ rfl
  dsimp only [stands] at q'
  walk_at "go"
  simp only [Bool.decide_and,ne_eq,decide_not] at q'
  generalize decide (-a≤b)=x1 at *
  generalize decide (b≤a)=x2 at *
  generalize decide (a≤c)=x3 at *
  generalize decide (0≤b)=x4 at *
  generalize decide (b=-a)=x5 at *
  generalize decide (a=c)=x6 at *
  cases x1 <;> cases x2 <;> cases x3 <;> cases x4 <;> cases x5 <;> cases x6 <;> exact q'
noncomputable abbrev J3:DSp:=BJ (fun f:I3=>[t3 f]) (fun f=>B3 8000 f∧0 < f.1) fun f=>t4 (Dy f)
theorem Qo (T:Txt K mg)
    : Pm P w K mg base 1 "turn_lower" Ea ["form"] J3:=by
  obtain ⟨f,fd,F⟩:=T.t_turn_lower
  refine ⟨f,fd,F,F.fn.okD J4 (by walk_at "lE") fun cdv A outer s H E hr=>⟨_,(Ad (Al 1 J4.nd (Bu (Bl (Ac (dv 0) Ab) (Ac (dv 0) Ab)) (Ak Ab (Ac (dv 0) Ab)))) (Ad (Ca (FW hr.units (dv 1) Ab) (Ah (Aq (Ba (Aa Ab (Aa (dv 1) (Aa Ab (Aa Ab Ae))))))) Bd) (Ah (Aq (Ba (Aa Ab (Aa (Il Ab) (Aa Ab (Aa Ab Ae))))))))),fun ds Q h=>?_⟩⟩
  obtain ⟨⟨a,b,c⟩,rfl,⟨⟨h1,h2,h3⟩,h0⟩,q⟩:=h
  have h0:0 < a:=h0
  have h1:Bt 8000 a:=h1
  have two:Bt 2 2:=Bt.of_abs (by decide)
  have q':=q _ rfl
  dsimp only at q'
  walk_at "go"
  refine ⟨two.mulOk h1,Bt.divOk (two.mul h1) (by omega),?_⟩
  by_cases ho:(a - b).fdiv (2*a)=0
  · refine FQ (by rw [decide_eq_true ho];rfl) ⟨Am (by decide),?_⟩
    rw [O7 (f:=(a,b,c)) ho] at q'
    exact q'
  · refine ift (by rw [decide_eq_false ho];rfl) ⟨Am (by decide),?_⟩
    rw [N6 (f:=(a,b,c)) ho] at q'
    exact q'
noncomputable def LI (f:I3):Nat→I4
  | 0=>(1,0,0,1)
  | k+1=>Ar (LI f k) (Dy (mov f (LI f k)))
noncomputable def Lj (f:I3) (t:I4):Prop:=∃ k,t=LI f k∧(∀ i,i < k→stands (mov f (LI f i))=false)∧stands (mov f (LI f k))=true
theorem Lj.uniq {f:I3} {t u:I4} (a:Lj f t) (b:Lj f u):t=u:=by
  obtain ⟨k,rfl,n1,h1⟩:=a
  obtain ⟨l,rfl,n2,h2⟩:=b
  rcases Nat.lt_trichotomy k l with z | z | z
  · rw [n2 k z] at h1;cases h1
  · rw [z]
  · rw [n1 l z] at h2;cases h2
noncomputable def La (f:I3) (d:Dt):Prop:=∃ t:I4,d=.tup [t3 (mov f t),t4 t]∧det t=1∧Ck (mov f t)∧B4 5000 t∧Lj f t
noncomputable abbrev Ph:DSp:=spec (fun f:I3=>[t3 f]) (fun f=>B3 1500 f∧Bo f) La
theorem Vu (T:Txt K mg)
    (G_check_bowl:Pm P w K mg base 4 "check_bowl" Ej ["form"] J6)
    (G_stands_least:Pm P w K mg base 1 "stands_least" CV ["form"] Jb)
    (G_turn_lower:Pm P w K mg base 1 "turn_lower" Ea ["form"] J3)
    (G_moved:Pm P w K mg base 3 "moved" Ig ["form","turn"] Ot)
    (G_put_behind:Pm P w K mg base 1 "put_behind" Dg ["one","other"] Hw)
    : Pm P w K mg base 5 "settled" GF ["form"] Ph:=by
  obtain ⟨f,fd,F⟩:=T.t_settled
  obtain ⟨a_SAME,m_SAME,q_SAME⟩:=T.k_SAME
  refine ⟨f,fd,F,F.fn.okD Hj (by walk_at "lE") fun cdv A outer s H E hr=>⟨_,(Ad (Gj (Ag Af G_check_bowl (hr.mono (by decide)) rfl (Aa (dv 0) Ae))) (Ad (Al 1 Hj.nd (Sd (v:=.ref a_SAME) rfl m_SAME rfl q_SAME)) (Ad (DK PassesOwn.never (FN (Fb (Ag Af G_stands_least (hr.mono (by decide)) rfl (Aa (dv 0) Ae)))) (Ad (Al 2 Hj.nd (Ag Af G_turn_lower (hr.mono (by decide)) rfl (Aa (dv 0) Ae))) (Ad (Al 0 Hj.nd (Ag Af G_moved (hr.mono (by decide)) rfl (Aa (dv 0) (Aa (dv 2) Ae)))) (Ah (Al 1 Hj.nd (Ag Af G_put_behind (hr.mono (by decide)) rfl (Aa (dv 1) (Aa (dv 2) Ae)))))))) (Ah (Aq (Ba (Aa (dv 0) (Aa (dv 1) Ae)))))))),fun ds Q h=>?_⟩⟩
  obtain ⟨f,rfl,⟨hb,hw⟩,q⟩:=h
  have hw:Bo f:=hw
  have hb:B3 1500 f:=hb
  have hm:Bt 3010 (meas f):=by
    obtain ⟨h1,h2,h3⟩:=hb
    have h4:Bt 3 4:=Bt.of_abs (by decide)
    exact ((h2.mul h2).sub ((h4.mul h1).mul h3)).le (by decide)
  walk_at "go"
  refine Aj f ⟨hb,hw⟩ ?_
  refine DY (fun m ρ=>∃ t x,(∃ k,t=LI f k∧∀ i,i < k→stands (mov f (LI f i))=false)∧ρ=[some (.is (t3 (mov f t))),some (.is (t4 t)),x]∧det t=1∧Bt 1500 (mov f t).1∧Bt 1500 (mov f t).2.1∧m=msr (mov f t)) _ ⟨(1,0,0,1),none,⟨0,rfl,fun _ h=>absurd h (by omega)⟩,by rw [Dp],rfl,by rw [Dp];exact hb.1,by rw [Dp];exact hb.2.1,rfl⟩ ?_
  rintro m _ ⟨t,x,⟨k,et,nl⟩,rfl,hd,b1,b2,rfl⟩
  have hg:=KN hw hd
  have hgb:B3 7000 (mov f t):=(Wy hg b1 b2 (by rw [Bs hd];exact hm)).le (by decide)
  have ht:B4 5000 t:=Abx hw hb hgb (by decide)
  walk_at "rd"
  refine Aj (mov f t) trivial ?_
  walk_at "rd"
  by_cases hs:stands (mov f t)=true
  · refine FQ (by rw [hs];rfl) ⟨Am (by decide),q _ ⟨t,rfl,hd,Bq hg.1 hs,ht,k,et,nl,by rw [←et];exact hs⟩⟩
  · have hs:stands (mov f t)=false:=by simpa using hs
    refine ift (by rw [hs];rfl) ?_
    have hl:B4 2000 (Dy (mov f t)):=(Aac hg.1 b1 b2).le (by decide)
    refine Aj (mov f t) ⟨hgb.le (by decide),hg.1⟩ ?_
    refine Aj (mov f t,Dy (mov f t)) ⟨hgb.le (by decide),hl.le (by decide),QK⟩ ?_
    refine Aj (t,Dy (mov f t)) ⟨ht.le (by decide),hl.le (by decide)⟩ ?_
    have hb':=ZK hg hs b1 b2
    have hm':=Xm hg hs
    rw [Bj] at hb' hm'
    dsimp only
    rw [Bj]
    refine ⟨_,hm',Ar t (Dy (mov f t)),_,⟨k+1,by rw [et];rfl,fun i hi=>?_⟩,rfl,?_,hb'.1,hb'.2,rfl⟩
    case refine_1 =>
      rcases Nat.lt_or_ge i k with z | z
      · exact nl i z
      · rw [show i=k by omega,←et];exact hs
    rw [Cm,hd,QK];rfl
noncomputable abbrev Ib:DSp:=BJ (fun p:I2=>[.int p.1,.int p.2]) (fun p=>p.1≤p.2) fun _=>.non
theorem Mw (T:Txt K mg)
    : Pm P w K mg base 1 "check_at_most" Cr ["number","most"] Ib:=by
  obtain ⟨f,fd,F⟩:=T.t_check_at_most
  refine ⟨f,fd,F,F.fn.okD Mr (by walk_at "lE") fun cdv A outer s H E hr=>⟨_,(Ah (Ca (QG (dv 0) (dv 1)) (Ah G5) Bd)),fun ds Q h=>?_⟩⟩
  obtain ⟨⟨n,m⟩,rfl,h0,q⟩:=h
  have h0:n≤m:=h0
  walk_at "go"
  exact FQ (decide_eq_false (by omega)) (q _ rfl)
noncomputable abbrev Gs:DSp:=BJ (fun f:I3=>[t3 f]) (fun f=>B3 1500 f∧Sad f) fun _=>.non
noncomputable abbrev Ja:DSp:=BJ (fun p:I3 × Int=>[t3 p.1,.int p.2]) (fun p=>B3 20000 p.1) fun p=>.bl (decide (Level p.1 p.2))
theorem Nf (T:Txt K mg)
    (G_check_at_most:Pm P w K mg base 1 "check_at_most" Cr ["number","most"] Ib)
    (G_shape:Pm P w K mg base 3 "shape" Hr ["form"] Kz)
    (G_measure:Pm P w K mg base 1 "measure" Cv ["form"] DP)
    : Pm P w K mg base 4 "check_saddle" Cp ["form"] Gs:=by
  obtain ⟨f,fd,F⟩:=T.t_check_saddle
  obtain ⟨t_MOST_MEASURE,m_MOST_MEASURE⟩:=T.m_MOST_MEASURE
  refine ⟨f,fd,F,F.fn.okD Ni (by walk_at "lE") fun cdv A outer s H E hr=>⟨_,(Ad (Ca (FW hr.units (Ag Af G_shape (hr.mono (by decide)) rfl (Aa (dv 0) Ae)) Kh) (Ah G5) Bd) (Ah (Gj (Ag Af G_check_at_most (hr.mono (by decide)) rfl (Aa (Ag Af G_measure (hr.mono (by decide)) rfl (Aa (dv 0) Ae)) (Aa (Sd (v:=.int (4000)) (d:=.int (4000)) rfl m_MOST_MEASURE ⟨_,rfl⟩ (fun _=>Bp.mpr rfl)) Ae)))))),fun ds Q h=>?_⟩⟩
  obtain ⟨f,rfl,⟨hb,hs⟩,q⟩:=h
  have hs:Sad f:=hs
  have nb:Dt.flat 8 (.str "saddle")=true:=by rw [R9];decide +kernel
  walk_at "go"
  refine Br f hb ?_
  rintro _ hw
  have h0:=hs.pos
  cases hw with
  | flat z=>exact absurd z hs.no
  | bowl _ z _=>exact absurd h0 z
  | dome _ z _=>exact absurd h0 z
  | saddle _ _ =>
    refine ⟨⟨nb,nb⟩,ifn (by rw [Ue];rfl) (Aj f (hb.le (by decide)) (Aj (meas f,4000) hs.most (q _ rfl)))⟩
theorem Nj (T:Txt K mg)
    : Pm P w K mg base 1 "stands_level" CT ["form","far"] Ja:=by
  obtain ⟨f,fd,F⟩:=T.t_stands_level
  refine ⟨f,fd,F,F.fn.okD Jd (by walk_at "lE") fun cdv A outer s H E hr=>⟨_,(Ad (Al 2 Jd.nd (Ac (dv 0) Ab)) (Ah (Aq (SM (KR O6 JV Dc Dc Ab (dv 2) (dv 1)) (Oc (KR O6 JV Dc Dc (Bl (dv 1) (dv 2)) (Ak Ab (Jq T.z_abs (Aa (Ac (dv 0) Ab) Ae))) (Bh (dv 1) (dv 2)))))))),fun ds Q h=>?_⟩⟩
  obtain ⟨⟨⟨a,b,c⟩,far⟩,rfl,hb,q⟩:=h
  have q':=q _ rfl
  obtain ⟨ha,_,_⟩:=(show B3 20000 (a,b,c) from hb)
  have ha:Bt 20000 a:=ha
  have two:Bt 2 2:=Bt.of_abs (by decide)
  have ha':Bt 20000 (if a < 0 then -a else a):=by split <;> first | exact ha.neg | exact ha
  have q':Q (.bl (decide (Level (a,b,c) far))):=q'
  walk_at "go"
  have hL:Level (a,b,c) far↔(0 < b∧b≤far)∧far - b < 2*(if a < 0 then -a else a)∧2*(if a < 0 then -a else a)≤far+b:=Iff.rfl
  generalize (if a < 0 then -a else a)=A at *
  by_cases h1:0 < b
  · refine ift (decide_eq_true h1) ?_
    by_cases h2:b≤far
    · refine ift (decide_eq_true h2) ⟨two.mulOk ha',?_⟩
      by_cases h3:far - b < 2*A
      · refine ift (decide_eq_true h3) ?_
        have e:decide (Level (a,b,c) far)=decide (2*A≤far+b):=decide_eq_decide.mpr (hL.trans ⟨fun z=>z.2.2,fun z=>⟨⟨h1,h2⟩,h3,z⟩⟩)
        rw [e] at q'
        exact q'
      · refine FQ (decide_eq_false h3) ?_
        rw [decide_eq_false fun z=>h3 (hL.mp z).2.1] at q'
        exact q'
    · refine FQ (decide_eq_false h2) ?_
      rw [decide_eq_false fun z=>h2 (hL.mp z).1.2] at q'
      exact q'
  · refine FQ (decide_eq_false h1) ?_
    rw [decide_eq_false fun z=>h1 (hL.mp z).1.1] at q'
    exact q'
noncomputable abbrev Jz:DSp:=BJ (fun p:I3 × Int=>[t3 p.1,.int p.2]) (fun p=>B3 8000 p.1∧p.1.2.2≠0) fun p=>t4 (Cg p.1 p.2)
theorem Ox (T:Txt K mg)
    : Pm P w K mg base 1 "turn_behind" Dv ["form","top"] Jz:=by
  obtain ⟨f,fd,F⟩:=T.t_turn_behind
  refine ⟨f,fd,F,F.fn.okD Fz (by walk_at "lE") fun cdv A outer s H E hr=>⟨_,(Ad (Al 2 Fz.nd (Ac (dv 0) Ab)) (Ad (Al 3 Fz.nd (Ac (dv 0) Ab)) (Ad (Al 4 Fz.nd (Bl (dv 1) (Dz (Bh (dv 1) (dv 2)) (Ak Ab (Jq T.z_abs (Aa (dv 3) Ae)))))) (Ah (Aq (Ba (Aa Ab (Aa (Il Ab) (Aa Ab (Aa (Bu (Bh (dv 2) (dv 4)) (Ak Ab (dv 3))) Ae)))))))))),fun ds Q h=>?_⟩⟩
  obtain ⟨⟨⟨a,b,c⟩,top⟩,rfl,⟨⟨_,_,hc⟩,h0⟩,q⟩:=h
  have hc:Bt 8000 c:=hc
  have h0:c≠0:=h0
  have two:Bt 2 2:=Bt.of_abs (by decide)
  have hac:2*ab c≠0:=by rcases Ax c with ⟨_,e⟩ | ⟨_,e⟩ <;> omega
  walk_at "go"
  exact ⟨two.mulOk (Wj hc),hac,two.mulOk hc,Bt.divOk (two.mul hc) (by omega),Am (by decide),q _ rfl⟩
noncomputable abbrev JW (f:I3) (t:I4):Dt:=.tup [t3 f,t4 t]
noncomputable abbrev FP:DSp:=BJ (fun p:I3 × I4 × Int=>[JW p.1 p.2.1,.int p.2.2]) (fun p=>B3 8000 p.1∧p.1.2.2≠0∧B4 300000 p.2.1∧B4 5000 (Cg p.1 p.2.2)) fun p=>JW (mov p.1 (Cg p.1 p.2.2)) (Ar p.2.1 (Cg p.1 p.2.2))
theorem O8 (T:Txt K mg)
    (G_turn_behind:Pm P w K mg base 1 "turn_behind" Dv ["form","top"] Jz)
    (G_moved:Pm P w K mg base 3 "moved" Ig ["form","turn"] Ot)
    (G_put_behind:Pm P w K mg base 1 "put_behind" Dg ["one","other"] Hw)
    : Pm P w K mg base 4 "stop_behind" CK ["stop","top"] FP:=by
  obtain ⟨f,fd,F⟩:=T.t_stop_behind
  refine ⟨f,fd,F,F.fn.okD Jr (by walk_at "lE") fun cdv A outer s H E hr=>⟨_,(Ad (Al 2 Jr.nd (Ag Af G_turn_behind (hr.mono (by decide)) rfl (Aa (Ac (dv 0) Ab) (Aa (dv 1) Ae)))) (Ah (Aq (Ba (Aa (Ag Af G_moved (hr.mono (by decide)) rfl (Aa (Ac (dv 0) Ab) (Aa (dv 2) Ae))) (Aa (Ag Af G_put_behind (hr.mono (by decide)) rfl (Aa (Ac (dv 0) Ab) (Aa (dv 2) Ae))) Ae)))))),fun ds Q h=>?_⟩⟩
  obtain ⟨⟨f,t,top⟩,rfl,⟨hf,h0,ht,hb⟩,q⟩:=h
  walk_at "go"
  exact Aj (f,top) ⟨hf,h0⟩ (Aj (f,Cg f top) ⟨B3.le hf (by decide),B4.le hb (by decide),Cq⟩ (Aj (t,Cg f top) ⟨B4.le ht (by decide),B4.le hb (by decide)⟩ ⟨Am (by decide),q _ rfl⟩))
noncomputable def EI (far:Int) (f:I3):Nat→I4
  | 0=>(1,0,0,1)
  | k+1=>Ar (EI far f k) (Cg (mov f (EI far f k)) (if far > ab (mov f (EI far f k)).2.2 then far else ab (mov f (EI far f k)).2.2))
noncomputable def NP (far:Int) (f:I3) (t:I4):Prop:=∃ k,t=EI far f k∧(∀ i,i < k→¬ Level (mov f (EI far f i)) far)∧Level (mov f (EI far f k)) far
theorem NP.uniq {far:Int} {f:I3} {t u:I4} (a:NP far f t) (b:NP far f u):t=u:=by
  obtain ⟨k,rfl,n1,h1⟩:=a
  obtain ⟨l,rfl,n2,h2⟩:=b
  rcases Nat.lt_trichotomy k l with z | z | z
  · exact absurd h1 (n2 k z)
  · rw [z]
  · exact absurd h2 (n1 l z)
noncomputable def Ajc (f:I3) (d:Dt):Prop:=∃ (t:I4) (far:Int),d=JW (mov f t) t∧det t=1∧Sq (meas f) far∧Level (mov f t) far∧B4 7600 t∧NP far f t
noncomputable abbrev Uo:DSp:=spec (fun f:I3=>[t3 f]) (fun f=>B3 1500 f∧Sad f) Ajc
theorem Ou {f:I3} (S:Sad f):0≤meas f∧Bt 4000 (meas f):=by
  have:=S.pos
  have:=S.most
  exact ⟨by omega,Bt.le (n:=13) (Bt.of (by omega) (by omega)) (by decide)⟩
theorem Zx (T:Txt K mg)
    (G_check_saddle:Pm P w K mg base 4 "check_saddle" Cp ["form"] Gs)
    (G_root:Pm P w K mg base 1 "root" Jj ["number"] Nu)
    (G_measure:Pm P w K mg base 1 "measure" Cv ["form"] DP)
    (G_stands_level:Pm P w K mg base 1 "stands_level" CT ["form","far"] Ja)
    (G_stop_behind:Pm P w K mg base 4 "stop_behind" CK ["stop","top"] FP)
    : Pm P w K mg base 5 "eased" JK ["form"] Uo:=by
  obtain ⟨f,fd,F⟩:=T.t_eased
  obtain ⟨a_SAME,m_SAME,q_SAME⟩:=T.k_SAME
  refine ⟨f,fd,F,F.fn.okD Lp (by walk_at "lE") fun cdv A outer s H E hr=>⟨_,(Ad (Gj (Ag Af G_check_saddle (hr.mono (by decide)) rfl (Aa (dv 0) Ae))) (Ad (Al 1 Lp.nd (Ag Af G_root (hr.mono (by decide)) rfl (Aa (Ag Af G_measure (hr.mono (by decide)) rfl (Aa (dv 0) Ae)) Ae))) (Ad (Al 2 Lp.nd (Ba (Aa (dv 0) (Aa (Sd (v:=.ref a_SAME) rfl m_SAME rfl q_SAME) Ae)))) (Ad (DK PassesOwn.never (FN (Fb (Ag Af G_stands_level (hr.mono (by decide)) rfl (Aa (Ac (dv 2) Ab) (Aa (dv 1) Ae))))) (Ah (Al 2 Lp.nd (Ag Af G_stop_behind (hr.mono (by decide)) rfl (Aa (dv 2) (Aa (Z6 T.z_max (Aa (Jq T.z_abs (Aa (Ac (Ac (dv 2) Ab) Ab) Ae)) (Aa (dv 1) Ae))) Ae)))))) (Ah (Aq (dv 2))))))),fun ds Q h=>?_⟩⟩
  obtain ⟨f,rfl,⟨hb,hS⟩,q⟩:=h
  have hS:Sad f:=hS
  have hb:B3 1500 f:=hb
  walk_at "go"
  refine Aj f ⟨hb,hS⟩ (Aj f (hb.le (by decide)) (Br (meas f) (Ou hS) ?_))
  rintro _ ⟨far,rfl,hr',hfb⟩
  walk_at "rd"
  refine ⟨Am (by decide),?_⟩
  refine DY (fun m ρ=>∃ k,(∀ i,i < k→¬ Level (mov f (EI far f i)) far)∧ρ=[some (.is (t3 f)),some (.is (.int far)),some (.is (JW (mov f (EI far f k)) (EI far f k)))]∧Ng 1500 far f (EI far f k)∧m=eM far (mov f (EI far f k))) _ ⟨0,fun _ h=>absurd h (by omega),by show _=[_,_,some (En.is (JW (mov f (1,0,0,1)) (1,0,0,1)))];rw [Dp],Ng.start (by decide) hb,rfl⟩ ?_
  rintro m _ ⟨k,nl,rfl,hI,rfl⟩
  have ek:EI far f (k+1)=Ar (EI far f k) (Cg (mov f (EI far f k)) (if far > ab (mov f (EI far f k)).2.2 then far else ab (mov f (EI far f k)).2.2)):=rfl
  obtain ⟨t,et⟩:∃ t,t=EI far f k:=⟨_,rfl⟩
  rw [←et] at hI ek ⊢
  have hd:=hI.1
  have hg:=hI.2.1
  have ht:=hI.b4
  walk_at "rd"
  refine Aj (mov f t,far) (hg.le (by decide)) ?_
  walk_at "rd"
  by_cases hL:Level (mov f t) far
  · exact FQ (by rw [decide_eq_true hL];rfl) (q _ ⟨t,far,rfl,hd,hr',hL,ht.le (by decide),k,et,nl,by rw [←et];exact hL⟩)
  · refine ift (by rw [decide_eq_false hL];rfl) ?_
    have hst:=Rq (by decide) hS hr' hI hL
    refine Aj (mov f t,t,_) ⟨hg.le (by decide),Gy (hS.mov hd),ht.le (by decide),hst.2.2.le (by decide)⟩ ?_
    dsimp only
    rw [Bj]
    refine ⟨_,hst.2.1,k+1,fun i hi=>?_,by rw [ek];rfl,by rw [ek];exact hst.1,by rw [ek]⟩
    rcases Nat.lt_or_ge i k with z | z
    · exact nl i z
    · rw [show i=k by omega,←et];exact hL
structure Ko (f:I3) (t0:I4) (far:Int) (N:Nat):Prop where
  d:det t0=1
  r:Sq (meas f) far
  v:Lv far (mov f t0)
  b:B4 7600 t0
  n:0 < N
  m:N≤8128
  e:rF far N (mov f t0)=mov f t0
  l:∀ j,0 < j→j < N→rF far j (mov f t0)≠mov f t0
  a:NP far f t0
noncomputable abbrev Gq (f:I3) (t0:I4) (far:Int) (i:Nat):Dt:=JW (rF far i (mov f t0)) (Ar t0 (rT far i (mov f t0)))
theorem Ko.bt {f:I3} {t0:I4} {far:Int} {N:Nat} (R:Ko f t0 far N) (i:Nat) (h:i≤N):B4 90000 (Ar t0 (rT far i (mov f t0))):=by
  have:=R.m
  exact (B4.then R.b (Adp i R.v)).le (by omega)
noncomputable abbrev Ji:DSp:=spec (fun f:I3=>[t3 f]) (fun f=>B3 1500 f∧Sad f) fun f d=>∃ t0 far N,Ko f t0 far N∧d=.lst ((List.range (N+1)).map (Gq f t0 far))
theorem AbW {n:Nat} (h:n≤9000):n < PySem.sizeLine:=by unfold PySem.sizeLine;omega
theorem Pb (T:Txt K mg)
    (G_root:Pm P w K mg base 1 "root" Jj ["number"] Nu)
    (G_eased:Pm P w K mg base 5 "eased" JK ["form"] Uo)
    (G_stop_behind:Pm P w K mg base 4 "stop_behind" CK ["stop","top"] FP)
    (G_measure:Pm P w K mg base 1 "measure" Cv ["form"] DP)
    : Pm P w K mg base 6 "stops_round" Ds ["form"] Ji:=by
  obtain ⟨f,fd,F⟩:=T.t_stops_round
  refine ⟨f,fd,F,F.fn.okD CW (by walk_at "lE") fun cdv A outer s H E hr=>⟨_,(Ad (Al 1 CW.nd (Ag Af G_root (hr.mono (by decide)) rfl (Aa (Ag Af G_measure (hr.mono (by decide)) rfl (Aa (dv 0) Ae)) Ae))) (Ad (Al 2 CW.nd (Ag Af G_eased (hr.mono (by decide)) rfl (Aa (dv 0) Ae))) (Ad (ZV 3 CW.nd (Aa (dv 2) Ae)) (Ad (Al 4 CW.nd (Ag Af G_stop_behind (hr.mono (by decide)) rfl (Aa (dv 2) (Aa (dv 1) Ae)))) (Ad (DK PassesOwn.never (FW hr.units (Ac (dv 4) Ab) (Ac (dv 2) Ab)) (Ad (Wc 3 (dv 4)) (Ah (Al 4 CW.nd (Ag Af G_stop_behind (hr.mono (by decide)) rfl (Aa (dv 4) (Aa (dv 1) Ae))))))) (Ad (Wc 3 (dv 4)) (Ah (Aag 3 (Aq (dv 3)))))))))),fun ds Q h=>?_⟩⟩
  obtain ⟨f,rfl,⟨hb,hS⟩,q⟩:=h
  have hS:Sad f:=hS
  have hb:B3 1500 f:=hb
  walk_at "go"
  refine Aj f (hb.le (by decide)) (Br (meas f) (Ou hS) ?_)
  rintro _ ⟨far,rfl,hr',hfb⟩
  refine Br f ⟨hb,hS⟩ ?_
  rintro _ ⟨t0,far',rfl,dt,hs,hL,bt,ea⟩
  obtain rfl:=hs.uniq hr'
  have hv:Lv far' (mov f t0):=⟨hS.mov dt,by rw [Bs dt];exact hs,hL⟩
  obtain ⟨N,n0,nm,ne,nl⟩:=M8 hv
  have R:Ko f t0 far' N:=⟨dt,hs,hv,bt,n0,nm,ne,nl,ea⟩
  walk_at "rd"
  refine ⟨Am (by decide),?_⟩
  have stp:∀ {Q:Dt→Prop} (i:Nat),i≤N→Q (Gq f t0 far' (i+1))→FP [Gq f t0 far' i,.int far'] Q:=fun {Q} i hi h=>by
    have hi':=Lv.rF i hv
    refine Aj (rF far' i (mov f t0),Ar t0 (rT far' i (mov f t0)),far') ⟨(Ls hi'.S hi'.r hi'.L).le (by decide),Gy hi'.S,(R.bt i hi).le (by decide),(PK (W8 hi') (by decide)).le (by decide)⟩ ?_
    have h:Q (JW (rF far' (i+1) (mov f t0)) (Ar t0 (rT far' (i+1) (mov f t0)))):=h
    rw [RQ,Xf,←then_assoc] at h
    exact h
  have e0:JW (mov f t0) t0=Gq f t0 far' 0:=by
    show JW (mov f t0) t0=JW (mov f t0) (Ar t0 (1,0,0,1))
    rw [GK]
  rw [e0]
  refine stp 0 (by omega) ?_
  have last:(List.range (N+1)).map (Gq f t0 far')=(List.range N).map (Gq f t0 far') ++ [Gq f t0 far' N]:=by rw [List.range_succ,List.map_append];rfl
  refine DY (fun m ρ=>∃ i:Nat,1≤i∧i≤N∧ρ=[some (.is (t3 f)),some (.is (.int far')),some (.is (Gq f t0 far' 0)),some (.own ((List.range i).map (Gq f t0 far'))),some (.is (Gq f t0 far' i))]∧m=N - i) _ ⟨1,by omega,by omega,rfl,rfl⟩ ?_
  rintro m _ ⟨i,i1,iN,rfl,rfl⟩
  walk_at "rd"
  have hl:(List.range i).length < sizeLine:=by rw [List.length_range];exact AbW (by omega)
  refine Eb (fun hw=>?_) (fun hw=>?_)
  · have hi:i < N:=by
      rcases Nat.lt_or_ge i N with z | z
      · exact z
      · exfalso
        have:i=N:=by omega
        subst this
        rw [ne] at hw
        simp [rF] at hw
    refine ⟨hl,stp i iN ⟨N - (i+1),by omega,i+1,by omega,by omega,?_,rfl⟩⟩
    rw [List.range_succ,List.map_append];rfl
  · have hi:i=N:=by
      rcases Nat.lt_or_ge i N with z | z
      · exfalso
        refine nl i (by omega) z ?_
        have hw:rF far' i (mov f t0)=rF far' 0 (mov f t0):=by
          generalize rF far' i (mov f t0)=g at *
          generalize rF far' 0 (mov f t0)=g' at *
          obtain ⟨a,b,c⟩:=g
          obtain ⟨a',b',c'⟩:=g'
          simp at hw
          obtain ⟨h1,h2,h3⟩:=hw
          rw [h1,h2,h3]
        exact hw
      · omega
    subst hi
    refine ⟨hl,q _ ⟨t0,far',i,R,?_⟩⟩
    rw [last]
noncomputable def Fv (f:I3):List Int:=[f.1,f.2.1,f.2.2]
noncomputable def AdZ (t:I4):List Int:=[t.1,t.2.1,t.2.2.1,t.2.2.2]
noncomputable def Ake (f:I3) (t0:I4) (far:Int) (N:Nat):List (List Int × List Int):=(List.range (N+1)).map fun i=>(Fv (rF far i (mov f t0)),AdZ (Ar t0 (rT far i (mov f t0))))
noncomputable def Low (f:I3) (d:Dt):Prop:=∃ t0 far N j,Ko f t0 far N∧j≤N∧(∀ i,i≤N→HT.lexLt (Fv (rF far i (mov f t0))) (Fv (rF far j (mov f t0)))=false)∧d=Gq f t0 far j∧j=Kl (Ake f t0 far N)
noncomputable abbrev Pr:DSp:=spec (fun f:I3=>[t3 f]) (fun f=>B3 1500 f∧Sad f) Low
theorem Ob (bt:Nat→Nat→Bool):∀ k,argBest bt k≤k
  | 0=>Nat.le_refl _
  | k+1=>by
    have:=Ob bt k
    unfold argBest
    split <;> omega
theorem HB (bt:Nat→Nat→Bool) (ir:∀ i,bt i i=false) (tr:∀ a b c,bt a b=true→bt b c=true→bt a c=true):∀ k j,j≤k→bt j (argBest bt k)=false
  | 0,j,h=>by
    have:j=0:=by omega
    subst this
    exact ir 0
  | k+1,j,h=>by
    unfold argBest
    split
    · rename_i hb
      rcases Nat.lt_or_ge j (k+1) with z | z
      · cases q:bt j (k+1) with
        | false=>rfl
        | true =>
          have:=HB bt ir tr k j (by omega)
          rw [tr _ _ _ q hb] at this
          cases this
      · have:j=k+1:=by omega
        subst this
        exact ir _
    · rename_i hb
      rcases Nat.lt_or_ge j (k+1) with z | z
      · exact HB bt ir tr k j (by omega)
      · have:j=k+1:=by omega
        subst this
        simpa using hb
theorem V8:∀ a b c:List Int,HT.lexLt a b=true→HT.lexLt b c=true→HT.lexLt a c=true
  | [],[],_,h,_=>by cases h
  | [],_ :: _,[],_,h=>by cases h
  | [],_ :: _,_ :: _,_,_=>rfl
  | _ :: _,[],_,h,_=>by cases h
  | _ :: _,_ :: _,[],_,h=>by cases h
  | x :: a,y :: b,z :: c,h1,h2=>by
    rw [HT.Fd] at h1 h2 ⊢
    by_cases e1:x=y
    · subst e1
      rw [if_pos rfl] at h1
      by_cases e2:x=z
      · subst e2
        rw [if_pos rfl] at h2 ⊢
        exact V8 a b c h1 h2
      · rw [if_neg e2] at h2 ⊢
        exact h2
    · rw [if_neg e1] at h1
      have h1:=of_decide_eq_true h1
      by_cases e2:y=z
      · subst e2
        rw [if_neg e1]
        exact decide_eq_true h1
      · rw [if_neg e2] at h2
        have h2:=of_decide_eq_true h2
        rw [if_neg (by omega)]
        exact decide_eq_true (by omega)
theorem AaV (a b c:List Int × List Int) (h1:FJ a b=true) (h2:FJ b c=true):FJ a c=true:=by
  unfold FJ at *
  by_cases e1:a.1=b.1
  · rw [if_pos e1] at h1
    by_cases e2:b.1=c.1
    · rw [if_pos e2] at h2
      rw [if_pos (e1.trans e2)]
      exact V8 _ _ _ h1 h2
    · rw [if_neg e2] at h2
      rw [if_neg (by rw [e1];exact e2),e1]
      exact h2
  · rw [if_neg e1] at h1
    by_cases e2:b.1=c.1
    · rw [←e2,if_neg e1]
      exact h1
    · rw [if_neg e2] at h2
      have h3:=V8 _ _ _ h1 h2
      by_cases e3:a.1=c.1
      · rw [e3,KY] at h3
        cases h3
      · rw [if_neg e3]
        exact h3
theorem ZR (a:List Int × List Int):FJ a a=false:=by
  unfold FJ
  rw [if_pos rfl,KY]
theorem Y0 {a b:List Int × List Int} (h:FJ a b=false):HT.lexLt a.1 b.1=false:=by
  unfold FJ at h
  by_cases e:a.1=b.1
  · rw [e];exact KY _
  · rw [if_neg e] at h;exact h
theorem Vh (T:Txt K mg)
    (G_check_saddle:Pm P w K mg base 4 "check_saddle" Cp ["form"] Gs)
    (G_stops_round:Pm P w K mg base 6 "stops_round" Ds ["form"] Ji)
    : Pm P w K mg base 7 "lowered" GZ ["form"] Pr:=by
  obtain ⟨f,fd,F⟩:=T.t_lowered
  refine ⟨f,fd,F,F.fn.okD U9 (by walk_at "lE") fun cdv A outer s H E hr=>⟨_,(Ad (Gj (Ag Af G_check_saddle (hr.mono (by decide)) rfl (Aa (dv 0) Ae))) (Ah (Aq (Aa6 T.z_min (AeO hr.units) (Aa (Ag Af G_stops_round (hr.mono (by decide)) rfl (Aa (dv 0) Ae)) Ae))))),fun ds Q h=>?_⟩⟩
  obtain ⟨f,rfl,⟨hb,hS⟩,q⟩:=h
  walk_at "go"
  refine Aj f ⟨hb,hS⟩ (Br f ⟨hb,hS⟩ ?_)
  rintro _ ⟨t0,far,N,R,rfl⟩
  have nm:=R.m
  let ps:List (List Int × List Int):=(List.range (N+1)).map fun i=>(Fv (rF far i (mov f t0)),AdZ (Ar t0 (rT far i (mov f t0))))
  have lp:ps.length=N+1:=by show ((List.range (N+1)).map _).length=_;rw [List.length_map,List.length_range]
  have ep:(List.range (N+1)).map (Gq f t0 far)=ps.map Mf:=by
    show _=((List.range (N+1)).map _).map Mf
    rw [List.map_map]
    rfl
  have at':∀ i,i≤N→ps.getD i ([],[])=(Fv (rF far i (mov f t0)),AdZ (Ar t0 (rT far i (mov f t0)))):=fun i hi=>by
    show ((List.range (N+1)).map _).getD i _=_
    simp [List.getD,show i < N+1 by omega]
  have kl:Kl ps≤N:=by
    have:=Ob (fun i j=>FJ (ps.getD i ([],[])) (ps.getD j ([],[]))) (ps.length - 1)
    unfold Kl
    omega
  have least:∀ i,i≤N→FJ (ps.getD i ([],[])) (ps.getD (Kl ps) ([],[]))=false:=fun i hi =>
    HB (fun i j=>FJ (ps.getD i ([],[])) (ps.getD j ([],[]))) (fun _=>ZR _) (fun _ _ _ h1 h2=>AaV _ _ _ h1 h2) _ i (by omega)
  refine ⟨ps,by rw [ep],by omega,by omega,q _ ⟨t0,far,N,Kl ps,R,kl,fun i hi=>?_,?_,rfl⟩⟩
  · have:=Y0 (least i hi)
    rw [at' i hi,at' _ kl] at this
    exact this
  · rw [at' _ kl]
    rfl
noncomputable abbrev Yc (c:Str) (f:I3) (d:Dt):Dt:=.obj c ["form","measure","lowest"] [t3 f,.int (meas f),d]
noncomputable abbrev Mg:DIn:=Qz (fun p:I3 × Dt=>[t3 p.1,p.2]) (fun p=>B3 1500 p.1) fun p fds=>fds=[t3 p.1,.int (meas p.1),p.2]
noncomputable abbrev TQ:DIn:=Qz (fun f:I3=>[t3 f]) (fun f=>B3 1500 f∧Bo f) fun f fds=>∃ d,La f d∧fds=[t3 f,.int (meas f),d]
noncomputable abbrev Pn:DIn:=Qz (fun f:I3=>[t3 f]) (fun f=>B3 1500 f∧Sad f) fun f fds=>∃ d,Low f d∧fds=[t3 f,.int (meas f),d]
theorem XD (T:Txt K mg)
    (G_measure:Pm P w K mg base 1 "measure" Cv ["form"] DP)
    : PmC P w K mg base 2 "Shape" ["form","measure","lowest"] Mg:=by
  obtain ⟨g,fd,M,F,B⟩:=T.cm_Shape
  refine ⟨g,fd,_,M,B,F.ok XR (fun vs H Q E ⟨x,C,dx,ys,F',ds,e,_,_,_,_,_,r,h⟩=>by obtain ⟨p,ed,_⟩:=h;rw [e,List.length_cons,r.len,ed];rfl) fun cdv A outer s H vs Q E hr ⟨x,C,dx,ys,F',ds,e,hx,cl,no,xF,th,r,h⟩=>?_⟩
  subst e
  refine ⟨_,Aae (dv 1) (Ag Af G_measure (hr.mono (by decide)) rfl (Aa (dv 1) Ae)) (dv 2) (by decide) (by decide) (by decide),mask [x] H,F',Ii ["self","form","lowest"] ds,x,C,dx,(fun fds:List Dt=>∀ (ws:List V) (H':Hp),Same (mask [x] H) H'→H' x=some (.ins C dx (List.zip ["form","measure","lowest"] ws))→List.length ["form","measure","lowest"]=fds.length→RpL K (mask F' H') fds ws→Q .non H'),Kq xF th r,xF,Dj (by simp),rfl,hx,cl,no,?_,fun fds w ws H' s1 h1 h2 h3=>w ws H' s1 h1 h2 h3⟩
  revert h
  generalize (fun fds:List Dt=>∀ (ws:List V) (H':Hp),Same (mask [x] H) H'→H' x=some (.ins C dx (List.zip ["form","measure","lowest"] ws))→List.length ["form","measure","lowest"]=fds.length→RpL K (mask F' H') fds ws→Q .non H')=S
  intro h
  obtain ⟨⟨f,l⟩,rfl,hb,hq⟩:=h
  have hb:B3 1500 f:=hb
  have e:Ii ["self","form","lowest"] [t3 f,l]=[none,some (.is (t3 f)),some (.is l)]:=rfl
  dsimp only
  rw [e]
  walk_at "rd"
  exact Aj f (hb.le (by decide)) (hq _ rfl)
theorem Z0 (T:Txt K mg)
    (GC_Shape:PmC P w K mg base 2 "Shape" ["form","measure","lowest"] Mg)
    (G_settled:Pm P w K mg base 5 "settled" GF ["form"] Ph)
    : PmI P w K mg base 6 "Bowl" ["form","measure","lowest"] TQ:=by
  obtain ⟨C0,f,fd,M,F,B⟩:=T.o_Bowl
  obtain ⟨gC,fdC,psC,MC,BC,GC⟩:=GC_Shape
  refine ⟨C0,f,fd,_,M,B,F.ok Yq (fun vs H Q E ⟨x,C,dx,ys,F',ds,e,_,_,_,_,_,r,h⟩=>by obtain ⟨p,ed,_⟩:=h;rw [e,List.length_cons,r.len,ed];rfl) fun cdv A outer s H vs Q E hr ⟨x,C,dx,ys,F',ds,e,hx,cl,no,xF,th,r,h⟩=>?_⟩
  subst e
  refine ⟨_,T9 Iv MC rfl GC BC (hr.mono (by decide)) (Aa (dv 1) (Aa (Ag Af G_settled (hr.mono (by decide)) rfl (Aa (dv 1) Ae)) Ae)),mask [x] H,F',Ii ["self","form"] ds,x,C,dx,(fun fds:List Dt=>∀ (ws:List V) (H':Hp),Same (mask [x] H) H'→H' x=some (.ins C dx (List.zip ["form","measure","lowest"] ws))→List.length ["form","measure","lowest"]=fds.length→RpL K (mask F' H') fds ws→Q .non H'),Kq xF th r,xF,Dj (by simp),rfl,hx,cl,no,?_,fun fds w ws H' s1 h1 h2 h3=>w ws H' s1 h1 h2 h3⟩
  revert h
  generalize (fun fds:List Dt=>∀ (ws:List V) (H':Hp),Same (mask [x] H) H'→H' x=some (.ins C dx (List.zip ["form","measure","lowest"] ws))→List.length ["form","measure","lowest"]=fds.length→RpL K (mask F' H') fds ws→Q .non H')=S
  intro h
  obtain ⟨f,rfl,⟨hb,hw⟩,hq⟩:=h
  have e:Ii ["self","form"] [t3 f]=[none,some (.is (t3 f))]:=rfl
  rw [e]
  walk_at "rd"
  refine Br f ⟨hb,hw⟩ fun d hd=>?_
  refine KJ (f,d) hb ?_
  rintro _ rfl
  exact hq _ ⟨d,hd,rfl⟩
theorem Vv (T:Txt K mg)
    (GC_Shape:PmC P w K mg base 2 "Shape" ["form","measure","lowest"] Mg)
    (G_lowered:Pm P w K mg base 7 "lowered" GZ ["form"] Pr)
    : PmI P w K mg base 8 "Saddle" ["form","measure","lowest"] Pn:=by
  obtain ⟨C0,f,fd,M,F,B⟩:=T.o_Saddle
  obtain ⟨gC,fdC,psC,MC,BC,GC⟩:=GC_Shape
  refine ⟨C0,f,fd,_,M,B,F.ok Vb (fun vs H Q E ⟨x,C,dx,ys,F',ds,e,_,_,_,_,_,r,h⟩=>by obtain ⟨p,ed,_⟩:=h;rw [e,List.length_cons,r.len,ed];rfl) fun cdv A outer s H vs Q E hr ⟨x,C,dx,ys,F',ds,e,hx,cl,no,xF,th,r,h⟩=>?_⟩
  subst e
  refine ⟨_,T9 Iv MC rfl GC BC (hr.mono (by decide)) (Aa (dv 1) (Aa (Ag Af G_lowered (hr.mono (by decide)) rfl (Aa (dv 1) Ae)) Ae)),mask [x] H,F',Ii ["self","form"] ds,x,C,dx,(fun fds:List Dt=>∀ (ws:List V) (H':Hp),Same (mask [x] H) H'→H' x=some (.ins C dx (List.zip ["form","measure","lowest"] ws))→List.length ["form","measure","lowest"]=fds.length→RpL K (mask F' H') fds ws→Q .non H'),Kq xF th r,xF,Dj (by simp),rfl,hx,cl,no,?_,fun fds w ws H' s1 h1 h2 h3=>w ws H' s1 h1 h2 h3⟩
  revert h
  generalize (fun fds:List Dt=>∀ (ws:List V) (H':Hp),Same (mask [x] H) H'→H' x=some (.ins C dx (List.zip ["form","measure","lowest"] ws))→List.length ["form","measure","lowest"]=fds.length→RpL K (mask F' H') fds ws→Q .non H')=S
  intro h
  obtain ⟨f,rfl,⟨hb,hw⟩,hq⟩:=h
  have e:Ii ["self","form"] [t3 f]=[none,some (.is (t3 f))]:=rfl
  rw [e]
  walk_at "rd"
  refine Br f ⟨hb,hw⟩ fun d hd=>?_
  refine KJ (f,d) hb ?_
  rintro _ rfl
  exact hq _ ⟨d,hd,rfl⟩
noncomputable abbrev Q8:DSp:=BJ (fun p:Str × I3 × Dt=>[Yc p.1 p.2.1 p.2.2]) (fun p=>p.1="Bowl"∨p.1="Saddle") fun p=>p.2.2
theorem XM (T:Txt K mg)
    : PmM P w K mg base 1 ["Bowl","Saddle"] "least" Q8:=by
  obtain ⟨g,fd,hm,kp,F,B⟩:=T.me_least
  refine ⟨g,fd,_,hm,kp,B,F.okD Xq (by walk_at "lE") fun cdv A outer s H E hr=>⟨_,(Ah (Aq (Sw (dv 0)))),fun ds Q h=>?_⟩⟩
  obtain ⟨⟨c,f,d⟩,rfl,hc,q⟩:=h
  have q':=q _ rfl
  walk_at "go"
  have na:Qv K c "lowest":=by
    rcases hc with e | e
    · have e:c="Bowl":=e
      rw [e];exact T.na_Bowl_lowest
    · have e:c="Saddle":=e
      rw [e];exact T.na_Saddle_lowest
  exact ⟨na,d,rfl,q'⟩
noncomputable abbrev Jm:DSp:=spec (fun f:I3=>[t3 f]) (fun f=>B3 1500 f∧(Bo f∨Sad f)) fun f d=>∃ l,(Bo f∧La f l∧d=Yc "Bowl" f l)∨(Sad f∧Low f l∧d=Yc "Saddle" f l)
theorem Ul (T:Txt K mg)
    (GI_Bowl:PmI P w K mg base 6 "Bowl" ["form","measure","lowest"] TQ)
    (GI_Saddle:PmI P w K mg base 8 "Saddle" ["form","measure","lowest"] Pn)
    (G_shape:Pm P w K mg base 3 "shape" Hr ["form"] Kz)
    : Pm P w K mg base 10 "shape_of" EY ["form"] Jm:=by
  obtain ⟨f,fd,F⟩:=T.t_shape_of
  refine ⟨f,fd,F,F.fn.okD Ur (by walk_at "lE") fun cdv A outer s H E hr=>⟨_,(Ad (Ca (Le hr.units (Ag Af G_shape (hr.mono (by decide)) rfl (Aa (dv 0) Ae)) Kh) (Ah (Aq (Tr Iv GI_Bowl (hr.mono (by decide)) rfl (Aa (dv 0) Ae)))) Bd) (Ah (Aq (Tr Iv GI_Saddle (hr.mono (by decide)) rfl (Aa (dv 0) Ae))))),fun ds Q h=>?_⟩⟩
  obtain ⟨f,rfl,⟨hb,hw⟩,q⟩:=h
  have hb:B3 1500 f:=hb
  have hw:Bo f∨Sad f:=hw
  walk_at "go"
  refine Br f hb ?_
  rintro _ hs
  have fb:∀ x:Str,(PySem.PyData.str x).canLay0=true→Dt.flat 8 (.str x)=true:=fun x h=>by rw [R9];exact h
  have f1:Dt.flat 8 (.str "bowl")=true:=fb _ (by decide +kernel)
  have f2:Dt.flat 8 (.str "saddle")=true:=fb _ (by decide +kernel)
  have mkS:Sad f→Qz (fun f:I3=>[t3 f]) (fun f=>B3 1500 f∧Sad f) (fun f fds=>∃ d,Low f d∧fds=[t3 f,Dt.int (meas f),d]) [t3 f] fun fds=>Q (Dt.obj "Saddle" ["form","measure","lowest"] fds):=fun hS=>by
    refine KJ f ⟨hb,hS⟩ ?_
    rintro _ ⟨l,hl,rfl⟩
    exact q _ ⟨l,.inr ⟨hS,hl,rfl⟩⟩
  cases hs with
  | flat z =>
    rcases hw with hw | hw
    · exact absurd z (Pz hw.2)
    · exact absurd z hw.no
  | saddle _ z =>
    rcases hw with hw | hw
    · have:=hw.2;omega
    · exact ⟨⟨f2,f1⟩,FQ (by rw [Ue];rfl) (mkS hw)⟩
  | dome _ z1 z2 =>
    rcases hw with hw | hw
    · exact absurd hw.1 z2
    · exact absurd hw.pos z1
  | bowl _ z1 z2 =>
    rcases hw with hw | hw
    · refine ⟨⟨f1,f1⟩,ift (by rw [Ue];rfl) (KJ f ⟨hb,hw⟩ ?_)⟩
      rintro _ ⟨l,hl,rfl⟩
      exact q _ ⟨l,.inl ⟨hw,hl,rfl⟩⟩
    · exact absurd hw.pos z1
noncomputable def LF (f g:I3):Prop:=(Bo f∧∃ t,det t=1∧Ck (mov f t)∧g=mov f t)∨(Sad f∧∃ t0 far N j,Ko f t0 far N∧j≤N∧(∀ i,i≤N→HT.lexLt (Fv (rF far i (mov f t0))) (Fv (rF far j (mov f t0)))=false)∧g=rF far j (mov f t0))
theorem Wx {f g:I3} (h1:HT.lexLt (Fv f) (Fv g)=false) (h2:HT.lexLt (Fv g) (Fv f)=false):f=g:=by
  obtain ⟨x1,x2,x3⟩:=f
  obtain ⟨y1,y2,y3⟩:=g
  simp only [Fv,HT.Fd,HT.Gk] at h1 h2
  have e1:x1=y1:=by
    rcases Int.lt_trichotomy x1 y1 with z | z | z
    · rw [if_neg (by omega)] at h1;simp at h1;omega
    · exact z
    · rw [if_neg (by omega)] at h2;simp at h2;omega
  subst e1
  rw [if_pos rfl] at h1 h2
  have e2:x2=y2:=by
    rcases Int.lt_trichotomy x2 y2 with z | z | z
    · rw [if_neg (by omega)] at h1;simp at h1;omega
    · exact z
    · rw [if_neg (by omega)] at h2;simp at h2;omega
  subst e2
  rw [if_pos rfl] at h1 h2
  have e3:x3=y3:=by
    rcases Int.lt_trichotomy x3 y3 with z | z | z
    · rw [if_neg (by omega)] at h1;simp at h1;omega
    · exact z
    · rw [if_neg (by omega)] at h2;simp at h2;omega
  rw [e3]
theorem Ku {far:Int} {g:I3} {N:Nat} (e:rF far N g=g):∀ q,rF far (N*q) g=g
  | 0=>rfl
  | q+1=>by rw [Nat.mul_succ,Fy,Ku e q,e]
theorem Nx {far:Int} {g:I3} {N:Nat} (e:rF far N g=g) (n0:0 < N) (n:Nat):∃ i,i≤N∧rF far n g=rF far i g:=by
  have h1:=Nat.mod_lt n n0
  have h2:=Nat.div_add_mod n N
  refine ⟨n % N,by omega,?_⟩
  have:rF far (N*(n / N)+n % N) g=rF far (n % N) g:=by rw [Fy,Ku e]
  rw [h2] at this
  exact this
theorem JL {far:Int} {g h:I3} {N m:Nat} (e:rF far N h=h) (n0:0 < N) (k:rF far m h=g):∃ j,rF far j g=h:=by
  refine ⟨N*m - m,?_⟩
  rw [←k,←Fy]
  have:m≤N*m:=Nat.le_mul_of_pos_left m n0
  rw [show m+(N*m - m)=N*m by omega,Ku e]
theorem LF.uniq {f g h:I3} (A:LF f g) (B:LF f h):g=h:=by
  rcases A with ⟨hb,t,dt,Lt,rfl⟩ | ⟨hS,t0,far,N,j,R,jl,lj,rfl⟩ <;> rcases B with ⟨hb',u,du,Lu,rfl⟩ | ⟨hS',t1,far1,N1,k,R1,kl,lk,rfl⟩
  · have e:mov (mov f t) (Ar (Av t) u)=mov f u:=by rw [←Bj,Cd dt]
    have:=Ck.one Lt (t:=Ar (Av t) u) (by rw [e];exact Lu) (by rw [Cm,Et,dt,du];rfl)
    rw [e] at this
    exact this.symm
  · have:=hb.2;have:=hS'.pos;omega
  · have:=hb'.2;have:=hS.pos;omega
  · have ef:far=far1:=R.r.uniq R1.r
    subst ef
    have e1:mov (mov f t0) (Ar (Av t0) t1)=mov f t1:=by rw [←Bj,Cd R.d]
    have d1:det (Ar (Av t0) t1)=1:=by rw [Cm,Et,R.d,R1.d];rfl
    have en:N=N1:=(Rn R.v R1.v d1 e1 R.e R.l R1.e R1.l R.n R1.n).1
    subst en
    have hm:∃ m,rF far m (mov f t0)=mov f t1:=by
      rcases Pk R.v R1.v d1 e1 with ⟨m,s⟩ | ⟨m,s⟩
      · exact ⟨m,by rw [←Gu,←s.mov,e1]⟩
      · have e2:mov (mov f t1) (Av (Ar (Av t0) t1))=mov f t0:=by rw [←e1,Cd d1]
        exact JL (m:=m) R1.e R1.n (by rw [←Gu,←s.mov,e2])
    obtain ⟨m,hm⟩:=hm
    obtain ⟨m',hm'⟩:=JL R.e R.n hm
    obtain ⟨i1,a1,b1⟩:=Nx R.e R.n (m+k)
    obtain ⟨i2,a2,b2⟩:=Nx R1.e R1.n (m'+j)
    have h1:=lj i1 a1
    have h2:=lk i2 a2
    rw [←b1,Fy,hm] at h1
    rw [←b2,Fy,hm'] at h2
    exact (Wx h1 h2).symm
noncomputable def LR (f:I3) (l:Dt):Prop:=(Bo f∧La f l)∨(Sad f∧Low f l)
theorem LR.uniq {f:I3} {l m:Dt} (A:LR f l) (B:LR f m):l=m:=by
  rcases A with ⟨hb,t,rfl,_,_,_,a⟩ | ⟨hS,t0,far,N,j,R,_,_,rfl,ej⟩ <;> rcases B with ⟨hb',u,rfl,_,_,_,b⟩ | ⟨hS',t1,far1,N1,k,R1,_,_,rfl,ek⟩
  · rw [a.uniq b]
  · have:=hb.2;have:=hS'.pos;omega
  · have:=hb'.2;have:=hS.pos;omega
  · have ef:far=far1:=R.r.uniq R1.r
    subst ef
    have et:=R.a.uniq R1.a
    subst et
    have en:N=N1:=by
      rcases Nat.lt_trichotomy N N1 with z | z | z
      · exact absurd R.e (R1.l N R.n z)
      · exact z
      · exact absurd R1.e (R.l N1 R1.n z)
    subst en
    rw [ej,ek]
theorem LF.same {f h g g':I3} {x:I4} (A:LF f g) (B:LF h g') (dx:det x=1) (ex:mov f x=h):g=g':=by
  have hm:meas h=meas f:=by rw [←ex,Bs dx]
  rcases A with ⟨hb,t,dt,Lt,rfl⟩ | ⟨hS,t0,far,N,j,R,jl,lj,rfl⟩ <;> rcases B with ⟨hb',u,du,Lu,rfl⟩ | ⟨hS',t1,far1,N1,k,R1,kl,lk,rfl⟩
  · have e:mov (mov f t) (Ar (Av t) (Ar x u))=mov h u:=by rw [←Bj,Cd dt,←Bj,ex]
    have:=Ck.one Lt (t:=Ar (Av t) (Ar x u)) (by rw [e];exact Lu) (by rw [Cm,Cm,Et,dt,dx,du];rfl)
    rw [e] at this
    exact this.symm
  · have:=hb.2;have:=hS'.pos;omega
  · have:=hb'.2;have:=hS.pos;omega
  · have ef:far=far1:=R.r.uniq (by rw [←hm];exact R1.r)
    subst ef
    have e1:mov (mov f t0) (Ar (Av t0) (Ar x t1))=mov h t1:=by rw [←Bj,Cd R.d,←Bj,ex]
    have d1:det (Ar (Av t0) (Ar x t1))=1:=by rw [Cm,Cm,Et,R.d,dx,R1.d];rfl
    have en:N=N1:=(Rn R.v R1.v d1 e1 R.e R.l R1.e R1.l R.n R1.n).1
    subst en
    have hm:∃ m,rF far m (mov f t0)=mov h t1:=by
      rcases Pk R.v R1.v d1 e1 with ⟨m,s⟩ | ⟨m,s⟩
      · exact ⟨m,by rw [←Gu,←s.mov,e1]⟩
      · have e2:mov (mov h t1) (Av (Ar (Av t0) (Ar x t1)))=mov f t0:=by rw [←e1,Cd d1]
        exact JL (m:=m) R1.e R1.n (by rw [←Gu,←s.mov,e2])
    obtain ⟨m,hm⟩:=hm
    obtain ⟨m',hm'⟩:=JL R.e R.n hm
    obtain ⟨i1,a1,b1⟩:=Nx R.e R.n (m+k)
    obtain ⟨i2,a2,b2⟩:=Nx R1.e R1.n (m'+j)
    have h1:=lj i1 a1
    have h2:=lk i2 a2
    rw [←b1,Fy,hm] at h1
    rw [←b2,Fy,hm'] at h2
    exact (Wx h1 h2).symm
theorem Ag5 {f:I3} {l:Dt} (h:LR f l):∃ (g:I3) (t:I4),l=.tup [t3 g,t4 t]∧LF f g∧det t=1∧mov f t=g∧B4 90000 t:=by
  rcases h with ⟨hb,t,rfl,dt,L,bt,_⟩ | ⟨hS,t0,far,N,j,R,jl,lj,rfl,_⟩
  · exact ⟨_,t,rfl,.inl ⟨hb,t,dt,L,rfl⟩,dt,rfl,bt.le (by decide)⟩
  · exact ⟨_,_,rfl,.inr ⟨hS,t0,far,N,j,R,jl,lj,rfl⟩,by rw [Cm,R.d,Oo];rfl,by rw [←Bj,Gu],R.bt j jl⟩
theorem Tp {f:I3} {d:Dt} (h:∃ l,(Bo f∧La f l∧d=Yc "Bowl" f l)∨(Sad f∧Low f l∧d=Yc "Saddle" f l)):∃ (c:Str) (l:Dt),(c="Bowl"∨c="Saddle")∧d=Yc c f l∧LR f l:=by
  obtain ⟨l,⟨h1,h2,rfl⟩ | ⟨h1,h2,rfl⟩⟩:=h
  · exact ⟨_,l,.inl rfl,rfl,.inl ⟨h1,h2⟩⟩
  · exact ⟨_,l,.inr rfl,rfl,.inr ⟨h1,h2⟩⟩
theorem WK {K:PySem.W.Frag} {mg:Str→Option Value} (T:Txt K mg) {c:Str} (hc:c="Bowl"∨c="Saddle"):Qv K c "measure":=by
  rcases hc with e | e <;> rw [e]
  · exact T.na_Bowl_measure
  · exact T.na_Saddle_measure
theorem Gm {n:Nat} {a b:Int} (ha:Bt n a) (h:b≠0):Bt (n+1) (a.fdiv b):=by
  have hb:1≤b.natAbs:=by omega
  have h1:=Ih (a:=a) h
  have e:b*a.fdiv b=a - a.fmod b:=by rw [Dw];grind
  have e2:b.natAbs*(a.fdiv b).natAbs=(a - a.fmod b).natAbs:=by rw [←Int.natAbs_mul,e]
  unfold Bt at *
  rw [Nat.pow_succ]
  by_cases h0:a.fdiv b=0
  · rw [h0];have:=Nat.two_pow_pos n;simp;omega
  · rcases Nat.lt_or_ge a.natAbs b.natAbs with hc | hc
    · have h3:(a - a.fmod b).natAbs < 2*b.natAbs:=by omega
      have h4:(a.fdiv b).natAbs < 2:=by
        refine Nat.lt_of_mul_lt_mul_left (a:=b.natAbs) ?_
        rw [e2];omega
      have:=Nat.two_pow_pos n
      omega
    · have h3:(a - a.fmod b).natAbs≤2*a.natAbs:=by omega
      have h4:(a.fdiv b).natAbs≤b.natAbs*(a.fdiv b).natAbs:=Nat.le_mul_of_pos_left _ hb
      omega
theorem Rg {n:Nat} {t b:Int} (h:Bt n (t*b)) (hb:b≠0):Bt n t:=by
  unfold Bt at *
  rw [Int.natAbs_mul] at h
  have h4:t.natAbs≤t.natAbs*b.natAbs:=Nat.le_mul_of_pos_right _ (by omega)
  omega
structure Rows (a b n u v m s t:Int):Prop where
  r1:n=u*a+v*b
  r2:m=s*a+t*b
  g:Int.gcd n m=Int.gcd a b
  n0:Bt 800 n
  m0:Bt 800 m
  u0:Bt 801 u
  s0:Bt 801 s
  v0:Bt 2000 v
  t0:Bt 2000 t
structure Lat (b n u m s:Int):Prop where
  ex:∃ e d N M U S B:Int,n=e*N∧m=e*M∧u=d*U∧s=d*S∧b=e*B∧(e=1∨e=-1)∧(d=1∨d=-1)∧0 < N∧0≤M∧U≤0∧0≤S∧N*S - M*U=B∧-U≤B
theorem Lat.first {a b:Int} (h:b≠0):Lat b b 0 (a.fmod b) 1:=by
  rcases Int.lt_or_lt_of_ne h with h | h
  · have e:a.fmod b=-((-a).fmod (-b)):=by rw [Dw,Dw,Int.neg_fdiv_neg];grind
    have h1:=Int.fmod_nonneg_of_pos (-a) (show 0 < -b by omega)
    exact ⟨-1,1,-b,(-a).fmod (-b),0,1,-b,by omega,by omega,by omega,by omega,by omega,.inr rfl,.inl rfl,by omega,h1,by omega,by omega,by simp,by omega⟩
  · have h1:=Int.fmod_nonneg_of_pos a h
    exact ⟨1,1,b,a.fmod b,0,1,b,by omega,by omega,by omega,by omega,by omega,.inl rfl,.inl rfl,by omega,h1,by omega,by omega,by simp,by omega⟩
theorem Lat.step {b n u m s:Int} (L:Lat b n u m s) (h:m≠0):Lat b m s (n - n.fdiv m*m) (u - n.fdiv m*s):=by
  obtain ⟨e,d,N,M,U,S,B,hn,hm,hu,hs,hb,he,hd,hN,hM,hU,hS,hE,hUB⟩:=L.ex
  have hM':0 < M:=by
    rcases Int.lt_or_eq_of_le hM with z | z
    · exact z
    · rw [←z] at hm;simp at hm;exact absurd hm h
  have q1:n.fdiv m=N.fdiv M:=by
    rw [hn,hm]
    rcases he with rfl | rfl
    · simp
    · simp [Int.neg_fdiv_neg]
  have q2:0≤N.fdiv M:=Int.fdiv_nonneg (by omega) (by omega)
  have q3:0≤N - M*N.fdiv M:=by rw [←Dw];exact Int.fmod_nonneg_of_pos N hM'
  rw [q1]
  generalize N.fdiv M=q at *
  have hSB:S≤B:=by
    have z1:0≤M*(-U):=Int.mul_nonneg hM (by omega)
    have z2:0≤(N - 1)*S:=Int.mul_nonneg (by omega) hS
    have:N*S - M*U=(N - 1)*S+S+M*(-U):=by grind
    omega
  have z3:0≤q*S:=Int.mul_nonneg q2 hS
  refine ⟨e,-d,M,N - M*q,-S,q*S - U,B,hm,?_,?_,?_,hb,he,?_,hM',q3,by omega,by omega,?_,by omega⟩
  · rw [hn,hm];grind
  · rw [hs];grind
  · rw [hu,hs];grind
  · rcases hd with rfl | rfl
    · exact .inr rfl
    · exact .inl rfl
  · rw [←hE];grind
theorem Lat.bounds {b n u m s:Int} (L:Lat b n u m s):u.natAbs≤b.natAbs∧s.natAbs≤b.natAbs:=by
  obtain ⟨e,d,N,M,U,S,B,hn,hm,hu,hs,hb,he,hd,hN,hM,hU,hS,hE,hUB⟩:=L.ex
  have z1:0≤M*(-U):=Int.mul_nonneg hM (by omega)
  have z2:0≤(N - 1)*S:=Int.mul_nonneg (by omega) hS
  have:N*S - M*U=(N - 1)*S+S+M*(-U):=by grind
  have hSB:S≤B:=by omega
  rcases he with rfl | rfl <;> rcases hd with rfl | rfl <;> omega
theorem Rows.first {a b:Int} (ha:Bt 800 a) (hb:Bt 800 b):Rows a b a 1 0 b 0 1 :=
  ⟨by omega,by omega,rfl,ha,hb,Bt.one.le (by decide),Bt.zero.le (by decide),Bt.zero.le (by decide),Bt.one.le (by decide)⟩
theorem Rows.step {a b n u v m s t:Int} (R:Rows a b n u v m s t) (ha:Bt 800 a) (hb:Bt 800 b) (hbn:b≠0) (h:m≠0) (L:Lat b m s (n - n.fdiv m*m) (u - n.fdiv m*s)) :
    Rows a b m s t (n - n.fdiv m*m) (u - n.fdiv m*s) (v - n.fdiv m*t):=by
  have e:n - n.fdiv m*m=n.fmod m:=by rw [Dw];grind
  have hl:=Ih (a:=n) h
  have hm:=R.m0
  have hs:Bt 801 (u - n.fdiv m*s):=by
    have:=L.bounds.2
    have hb':=hb.le (m:=801) (by decide)
    unfold Bt at *
    omega
  have hr:Bt 800 (n - n.fdiv m*m):=by rw [e];unfold Bt at *;omega
  have er:n - n.fdiv m*m=(u - n.fdiv m*s)*a+(v - n.fdiv m*t)*b:=by
    have h1:=R.r1
    have h2:=R.r2
    generalize n.fdiv m=q at *
    rw [h1,h2];grind
  refine ⟨R.r2,er,?_,R.m0,hr,R.s0,hs,R.t0,?_⟩
  · rw [e,KQ];exact R.g
  · refine Rg (b:=b) ?_ hbn
    have:(v - n.fdiv m*t)*b=(n - n.fdiv m*m) - (u - n.fdiv m*s)*a:=by rw [er];grind
    rw [this]
    exact (hr.sub (hs.mul ha)).le (by decide)
inductive ShR:I3→I3→I3→Prop
  | stop {r l:I3} (h:l.1=0):ShR r l r
  | go {r l z:I3} (h:l.1≠0) (k:ShR l (r.1 - r.1.fdiv l.1*l.1,r.2.1 - r.1.fdiv l.1*l.2.1,r.2.2 - r.1.fdiv l.1*l.2.2) z):ShR r l z
theorem ShR.uniq {r l z w:I3} (a:ShR r l z) (b:ShR r l w):z=w:=by
  induction a with
  | stop h=>cases b with
    | stop _=>rfl
    | go h' _=>exact absurd h h'
  | go h k ih=>cases b with
    | stop h'=>exact absurd h' h
    | go _ k'=>exact ih k'
noncomputable def Yb (a b u v:Int):Prop:=∃ z,ShR (a,1,0) (b,0,1) z∧((z.1 < 0∧u=-z.2.1∧v=-z.2.2)∨(¬ z.1 < 0∧u=z.2.1∧v=z.2.2))
theorem Yb.uniq {a b u v x y:Int} (A:Yb a b u v) (B:Yb a b x y):u=x∧v=y:=by
  obtain ⟨z,hz,A⟩:=A
  obtain ⟨w,hw,B⟩:=B
  obtain rfl:=hz.uniq hw
  rcases A with ⟨a1,rfl,rfl⟩ | ⟨a1,rfl,rfl⟩ <;> rcases B with ⟨b1,rfl,rfl⟩ | ⟨b1,rfl,rfl⟩
  · exact ⟨rfl,rfl⟩
  · exact absurd a1 b1
  · exact absurd b1 a1
  · exact ⟨rfl,rfl⟩
noncomputable abbrev Nb:DSp:=BJ (fun p:(Int × Int × Int) × (Int × Int × Int) × Int=>[T3 p.1.1 p.1.2.1 p.1.2.2,T3 p.2.1.1 p.2.1.2.1 p.2.1.2.2,.int p.2.2]) (fun p=>Bt 2000 p.2.2∧Bt 2000 p.2.1.1∧Bt 2000 p.2.1.2.1∧Bt 2000 p.2.1.2.2)
  fun p=>T3 (p.1.1 - p.2.2*p.2.1.1) (p.1.2.1 - p.2.2*p.2.1.2.1) (p.1.2.2 - p.2.2*p.2.1.2.2)
noncomputable abbrev Ro:DSp:=spec (fun p:I2=>[.int p.1,.int p.2]) (fun p=>Bt 800 p.1∧Bt 800 p.2) fun p d=>∃ u v:Int,d=T3 ((Int.gcd p.1 p.2:Nat):Int) u v∧u*p.1+v*p.2=((Int.gcd p.1 p.2:Nat):Int)∧Bt 2000 u∧Bt 2000 v∧Yb p.1 p.2 u v
theorem Um (T:Txt K mg)
    : Pm P w K mg base 1 "row_less" Ge ["row","lower","often"] Nb:=by
  obtain ⟨f,fd,F⟩:=T.t_row_less
  refine ⟨f,fd,F,F.fn.okD T7 (by walk_at "lE") fun cdv A outer s H E hr=>⟨_,(Ah (Aq (Ba (Aa (Bl (Ac (dv 0) Ab) (Ak (dv 2) (Ac (dv 1) Ab))) (Aa (Bl (Ac (dv 0) Ab) (Ak (dv 2) (Ac (dv 1) Ab))) (Aa (Bl (Ac (dv 0) Ab) (Ak (dv 2) (Ac (dv 1) Ab))) Ae)))))),fun ds Q h=>?_⟩⟩
  obtain ⟨⟨⟨n,u,v⟩,⟨m,s,t⟩,q⟩,rfl,⟨hq,hm,hs,ht⟩,k⟩:=h
  walk_at "go"
  walk_at "muls"
  exact k _ rfl
theorem Yi (T:Txt K mg)
    (G_row_less:Pm P w K mg base 1 "row_less" Ge ["row","lower","often"] Nb)
    : Pm P w K mg base 2 "shares" HX ["one","other"] Ro:=by
  obtain ⟨f,fd,F⟩:=T.t_shares
  refine ⟨f,fd,F,F.fn.okD GD (by walk_at "lE") fun cdv A outer s H E hr=>⟨_,(Ad (Al 2 GD.nd (Ba (Aa (dv 0) (Aa Ab (Aa Ab Ae))))) (Ad (Al 3 GD.nd (Ba (Aa (dv 1) (Aa Ab (Aa Ab Ae))))) (Ad (DK PassesOwn.never (FW hr.units (Ac (dv 3) Ab) Ab) (Ad (Al 4 GD.nd (Ag Af G_row_less (hr.mono (by decide)) rfl (Aa (dv 2) (Aa (dv 3) (Aa (Bu (Ac (dv 2) Ab) (Ac (dv 3) Ab)) Ae))))) (Ad (Al 2 GD.nd (dv 3)) (Ah (Al 3 GD.nd (dv 4)))))) (Ad (Ca (Jx (Ac (dv 2) Ab) Ab) (Ah (Aq (Ba (Aa (Il (Ac (dv 2) Ab)) (Aa (Il (Ac (dv 2) Ab)) (Aa (Il (Ac (dv 2) Ab)) Ae)))))) Bd) (Ah (Aq (dv 2))))))),fun ds Q h=>?_⟩⟩
  obtain ⟨⟨a,b⟩,rfl,⟨ha,hb⟩,k⟩:=h
  walk_at "go"
  refine ⟨Am (by decide),Am (by decide),?_⟩
  refine DY (fun m ρ=>∃ n u v x s t z,ρ=[some (.is (.int a)),some (.is (.int b)),some (.is (T3 n u v)),some (.is (T3 x s t)),z]∧Rows a b n u v x s t∧((n=a∧u=1∧x=b∧s=0)∨(b≠0∧Lat b n u x s))∧(∀ w,ShR (n,u,v) (x,s,t) w→ShR (a,1,0) (b,0,1) w)∧m=x.natAbs) _ ⟨a,1,0,b,0,1,none,rfl,Rows.first ha hb,.inl ⟨rfl,rfl,rfl,rfl⟩,fun _ h=>h,rfl⟩ ?_
  rintro m _ ⟨n,u,v,x,s,t,z,rfl,R,hc,hw,rfl⟩
  walk_at "rd"
  have hG:=R.g
  by_cases hx:x=0
  · subst hx
    rw [Int.gcd_zero_right] at hG
    simp only [decide_true,Bool.not_true]
    walk_at "rd"
    have r1:=R.r1
    refine Eb (fun hn=>⟨Am (by decide),k _ ⟨-u,-v,?_,?_,(R.u0.neg).le (by decide),R.v0.neg,_,hw _ (.stop rfl),.inl ⟨of_decide_eq_true hn,rfl,rfl⟩⟩⟩) (fun hn=>k _ ⟨u,v,?_,?_,R.u0.le (by decide),R.v0,_,hw _ (.stop rfl),.inr ⟨fun z=>hn (decide_eq_true z),rfl,rfl⟩⟩)
    · have hn:=of_decide_eq_true hn
      have e:-n=((Int.gcd a b:Nat):Int):=by omega
      rw [e]
    · have hn:=of_decide_eq_true hn
      have e:-n=((Int.gcd a b:Nat):Int):=by omega
      show -u*a + -v*b=_
      rw [←e,r1];grind
    · have hn:¬ n < 0:=fun z=>hn (decide_eq_true z)
      have e:n=((Int.gcd a b:Nat):Int):=by omega
      rw [←e]
    · have hn:¬ n < 0:=fun z=>hn (decide_eq_true z)
      have e:n=((Int.gcd a b:Nat):Int):=by omega
      show u*a+v*b=_
      rw [←e,←r1]
  · simp only [decide_eq_false hx,Bool.not_false,if_true]
    have hbn:b≠0:=by
      rcases hc with ⟨_,_,e,_⟩ | ⟨e,_⟩
      · rw [←e];exact hx
      · exact e
    have L:Lat b x s (n - n.fdiv x*x) (u - n.fdiv x*s):=by
      rcases hc with ⟨rfl,rfl,rfl,rfl⟩ | ⟨_,L⟩
      · have:=Lat.first (a:=n) hx
        have e:n - n.fdiv x*x=n.fmod x:=by rw [Dw];grind
        have e2:(1:Int) - n.fdiv x*0=1:=by omega
        rw [e,e2];exact this
      · exact L.step hx
    have hq:=Gm R.n0 hx
    refine ⟨Bt.divOk R.m0 hx,?_⟩
    refine Aj ((n,u,v),(x,s,t),n.fdiv x) ⟨hq.le (by decide),R.m0.le (by decide),R.s0.le (by decide),R.t0⟩ ?_
    refine ⟨_,?_,_,_,_,_,_,_,_,rfl,Rows.step R ha hb hbn hx L,.inr ⟨hbn,L⟩,fun w h=>hw w (.go hx h),rfl⟩
    have e:n - n.fdiv x*x=n.fmod x:=by rw [Dw];grind
    rw [e]
    exact Ih hx
noncomputable def gJ (f h:I3):Int:=((Int.gcd ((Int.gcd f.1 h.1:Nat):Int) (jS f h):Nat):Int)
theorem Mt {f h:I3} (ha:f.1≠0):0 < gJ f h:=by
  unfold gJ
  have:Int.gcd ((Int.gcd f.1 h.1:Nat):Int) (jS f h)≠0:=fun z=>by
    have h1:=(Int.gcd_eq_zero_iff.mp z).1
    have h2:Int.gcd f.1 h.1=0:=by omega
    exact ha (Int.gcd_eq_zero_iff.mp h2).1
  omega
theorem Kp {f h:I3}:gJ f h∣f.1∧gJ f h∣h.1∧gJ f h∣jS f h:=by
  unfold gJ
  have h1:((Int.gcd ((Int.gcd f.1 h.1:Nat):Int) (jS f h):Nat):Int)∣((Int.gcd f.1 h.1:Nat):Int):=Int.gcd_dvd_left ..
  exact ⟨Int.dvd_trans h1 (Int.gcd_dvd_left ..),Int.dvd_trans h1 (Int.gcd_dvd_right ..),Int.gcd_dvd_right ..⟩
structure Pair (f h:I3):Prop where
  bf:B3 800 f
  bh:B3 800 h
  kf:Bo f∨Sad f
  kh:Bo h∨Sad h
  m:meas f=meas h
  pf:g3 f=1
  ph:g3 h=1
  bm:Bt 600 (meas f)
  bA:Bt 1400 (jA f h (gJ f h))
theorem Fe {f:I3} (h:Bo f∨Sad f):f.1≠0:=by
  rcases h with h | h
  · have:=h.1;omega
  · exact Wi h
noncomputable abbrev Jv:DSp:=BJ (fun f:I3=>[t3 f]) (fun f=>g3 f=1) fun _=>.non
theorem Oj (T:Txt K mg)
    (G_content:Pm P w K mg base 2 "content" GJ ["form"] NQ)
    : Pm P w K mg base 3 "check_plain" Dq ["form"] Jv:=by
  obtain ⟨f,fd,F⟩:=T.t_check_plain
  refine ⟨f,fd,F,F.fn.okD Pj (by walk_at "lE") fun cdv A outer s H E hr=>⟨_,(Ah (Ca (FW hr.units (Ag Af G_content (hr.mono (by decide)) rfl (Aa (dv 0) Ae)) Ab) (Ah G5) Bd)),fun ds Q h=>?_⟩⟩
  obtain ⟨f,rfl,hf,q⟩:=h
  have hf:g3 f=1:=hf
  have q':=q _ rfl
  walk_at "go"
  refine Aj f trivial ⟨Iw,FQ ?_ q'⟩
  rw [hf,M6]
  rfl
noncomputable abbrev J5:DSp:=BJ (fun p:I3 × I3=>[t3 p.1,t3 p.2]) (fun p=>Pair p.1 p.2) fun _=>.non
theorem Qh (T:Txt K mg)
    (G_shape_of:Pm P w K mg base 10 "shape_of" EY ["form"] Jm)
    (G_check_plain:Pm P w K mg base 3 "check_plain" Dq ["form"] Jv)
    : Pm P w K mg base 11 "check_pair" Ei ["one","other"] J5:=by
  obtain ⟨f,fd,F⟩:=T.t_check_pair
  refine ⟨f,fd,F,F.fn.okD Ht (by walk_at "lE") fun cdv A outer s H E hr=>⟨_,(Ad (Al 2 Ht.nd (Ag Af G_shape_of (hr.mono (by decide)) rfl (Aa (dv 0) Ae))) (Ad (Al 3 Ht.nd (Ag Af G_shape_of (hr.mono (by decide)) rfl (Aa (dv 1) Ae))) (Ad (Ca (FW hr.units (Sw (dv 2)) (Sw (dv 3))) (Ah G5) Bd) (Ad (Gj (Ag Af G_check_plain (hr.mono (by decide)) rfl (Aa (dv 0) Ae))) (Ah (Gj (Ag Af G_check_plain (hr.mono (by decide)) rfl (Aa (dv 1) Ae)))))))),fun ds Q h=>?_⟩⟩
  obtain ⟨⟨f,h⟩,rfl,hP,q⟩:=h
  have hP:Pair f h:=hP
  have q':=q _ rfl
  walk_at "go"
  refine Br f ⟨hP.bf.le (by decide),hP.kf⟩ ?_
  rintro _ ho
  obtain ⟨c1,l1,hc1,rfl,low1⟩:=Tp ho
  refine Br h ⟨hP.bh.le (by decide),hP.kh⟩ ?_
  rintro _ ho
  obtain ⟨c2,l2,hc2,rfl,low2⟩:=Tp ho
  refine ⟨WK T hc1,.int (meas f),rfl,WK T hc2,.int (meas h),rfl,⟨Iw,Iw⟩,FQ ?_ (Aj f hP.pf (Aj h hP.ph q'))⟩
  rw [M6,decide_eq_true hP.m]
  rfl
noncomputable abbrev Di:DSp:=BJ (fun p:I3 × I3=>[t3 p.1,t3 p.2]) (fun _=>True) fun p=>.int (jS p.1 p.2)
theorem Kc (T:Txt K mg)
    : Pm P w K mg base 1 "half_of_middles" Bw ["one","other"] Di:=by
  obtain ⟨f,fd,F⟩:=T.t_half_of_middles
  refine ⟨f,fd,F,F.fn.okD Ke (by walk_at "lE") fun cdv A outer s H E hr=>⟨_,(Ah (Aq (Bu (Bh (Ac (dv 0) Ab) (Ac (dv 1) Ab)) Ab))),fun ds Q h=>?_⟩⟩
  obtain ⟨⟨f,h⟩,rfl,_,q⟩:=h
  have q':=q _ rfl
  walk_at "go"
  exact ⟨⟨by decide,by decide⟩,q'⟩
theorem OJ {n:Nat} {f h:I3} (hf:B3 n f) (hh:B3 n h) (hm:meas f=meas h):Bt n (jS f h):=by
  have:=Q9 hm
  have h1:=hf.2.1
  have h2:=hh.2.1
  unfold Bt at *
  omega
noncomputable def Common (f h:I3) (g j k:Int):Prop:=g=gJ f h∧(∃ i,i*f.1+j*h.1+k*jS f h=g)∧Bt 4001 j∧Bt 2000 k
noncomputable def JG (f h:I3) (g j k:Int):Prop:=g=gJ f h∧∃ x y u v,Yb f.1 h.1 x y∧Yb ((Int.gcd f.1 h.1:Nat):Int) (jS f h) u v∧j=u*y∧k=v
theorem JG.uniq {f h:I3} {g j k g' j' k':Int} (A:JG f h g j k) (B:JG f h g' j' k'):g=g'∧j=j'∧k=k':=by
  obtain ⟨rfl,x,y,u,v,a1,a2,rfl,rfl⟩:=A
  obtain ⟨rfl,x',y',u',v',b1,b2,rfl,rfl⟩:=B
  obtain ⟨_,rfl⟩:=a1.uniq b1
  obtain ⟨rfl,rfl⟩:=a2.uniq b2
  exact ⟨rfl,rfl,rfl⟩
noncomputable abbrev HF:DSp:=spec (fun p:I3 × I3=>[t3 p.1,t3 p.2]) (fun p=>Pair p.1 p.2) fun p d=>∃ g j k,d=T3 g j k∧Common p.1 p.2 g j k∧JG p.1 p.2 g j k
theorem Ma (T:Txt K mg)
    (G_shares:Pm P w K mg base 2 "shares" HX ["one","other"] Ro)
    (G_half_of_middles:Pm P w K mg base 1 "half_of_middles" Bw ["one","other"] Di)
    : Pm P w K mg base 3 "common_shares" Cw ["one","other"] HF:=by
  obtain ⟨f,fd,F⟩:=T.t_common_shares
  refine ⟨f,fd,F,F.fn.okD Ga (by walk_at "lE") fun cdv A outer s H E hr=>⟨_,(Ad (Al 2 Ga.nd (Ag Af G_shares (hr.mono (by decide)) rfl (Aa (Ac (dv 0) Ab) (Aa (Ac (dv 1) Ab) Ae)))) (Ad (Al 3 Ga.nd (Ag Af G_shares (hr.mono (by decide)) rfl (Aa (Ac (dv 2) Ab) (Aa (Ag Af G_half_of_middles (hr.mono (by decide)) rfl (Aa (dv 0) (Aa (dv 1) Ae))) Ae)))) (Ah (Aq (Ba (Aa (Ac (dv 3) Ab) (Aa (Ak (Ac (dv 3) Ab) (Ac (dv 2) Ab)) (Aa (Ac (dv 3) Ab) Ae)))))))),fun ds Q h=>?_⟩⟩
  obtain ⟨⟨f,h⟩,rfl,hP,q⟩:=h
  have hP:Pair f h:=hP
  have q:∀ d,(∃ g j k,d=T3 g j k∧Common f h g j k∧JG f h g j k)→Q d:=q
  walk_at "go"
  refine Br (f.1,h.1) ⟨hP.bf.1,hP.bh.1⟩ ?_
  rintro _ ⟨x,y,rfl,e1,bx,by',s1⟩
  have e1:x*f.1+y*h.1=((Int.gcd f.1 h.1:Nat):Int):=e1
  walk_at "rd"
  refine Aj (f,h) trivial (Br (((Int.gcd f.1 h.1:Nat):Int),jS f h) ⟨Km hP.bf.1 hP.bh.1,OJ hP.bf hP.bh hP.m⟩ ?_)
  rintro _ ⟨u,v,rfl,e2,bu,bv,s2⟩
  have e2:u*((Int.gcd f.1 h.1:Nat):Int)+v*jS f h=gJ f h:=e2
  walk_at "rd"
  refine ⟨bu.mulOk by',Am (by decide),q _ ⟨_,_,_,rfl,⟨rfl,⟨u*x,?_⟩,(bu.mul by').le (by decide),bv⟩,rfl,_,_,_,_,s1,s2,rfl,rfl⟩⟩
  show _=gJ f h
  rw [←e2,←e1]
  grind
theorem Ad3 {f h:I3} {g j k:Int} (h0:jA f h g≠0):(jB f h g j k).natAbs < 2*(jA f h g).natAbs:=by
  have:=Ih (a:=h.2.1+2*h.1.fdiv g*(j*(jS f h - h.2.1) - k*h.2.2)) (b:=2*jA f h g) (by omega)
  unfold jB
  omega
theorem Agz {A B C D:Int} (e:B*B - D=4*A*C) (h0:A≠0) (hB:B.natAbs < 2*A.natAbs) (hA:Bt 1400 A) (hD:Bt 600 D):Bt 1401 C:=by
  have e1:4*(A.natAbs*C.natAbs)=(B*B - D).natAbs:=by rw [e,Int.mul_assoc,Int.natAbs_mul,Int.natAbs_mul];rfl
  have e2:(B*B - D).natAbs≤B.natAbs*B.natAbs+D.natAbs:=by
    have:=Int.natAbs_mul B B
    omega
  have e3:B.natAbs*B.natAbs≤(2*A.natAbs)*(2*A.natAbs):=Nat.mul_le_mul (by omega) (by omega)
  have e4:(2*A.natAbs)*(2*A.natAbs)=4*(A.natAbs*A.natAbs):=by grind
  have a1:1≤A.natAbs:=by omega
  have e5:A.natAbs*C.natAbs≤A.natAbs*(A.natAbs+D.natAbs):=by
    have:D.natAbs≤4*(A.natAbs*D.natAbs):=by
      have:=Nat.le_mul_of_pos_left D.natAbs a1
      omega
    rw [Nat.mul_add]
    omega
  have e6:C.natAbs≤A.natAbs+D.natAbs:=Nat.le_of_mul_le_mul_left e5 a1
  have d1:D.natAbs < 2 ^ 1400:=Nat.lt_of_lt_of_le hD (Nat.pow_le_pow_right (by decide) (by decide))
  unfold Bt at *
  have:(2:Nat) ^ 1401=2*2 ^ 1400:=by rw [Nat.pow_succ];omega
  omega
theorem Pair.joint {f h:I3} {g j k:Int} (P:Pair f h) (C:Common f h g j k):FA (jP f h g (jB f h g j k)) (jQ f h g)=f∧FB (jP f h g (jB f h g j k)) (jQ f h g)=h∧FC (jP f h g (jB f h g j k)) (jQ f h g)=jF f h g j k:=by
  obtain ⟨rfl,⟨i,e⟩,_⟩:=C
  have g0:=Mt (h:=h) (Fe P.kf)
  exact ZW (Fe P.kf) (Fe P.kh) P.m (by omega) Kp.1 Kp.2.1 Kp.2.2 e
theorem Pair.ja {f h:I3} {g j k:Int} (P:Pair f h) (C:Common f h g j k):jA f h g*(g*g)=f.1*h.1:=by
  obtain ⟨rfl,_⟩:=C
  have g0:=Mt (h:=h) (Fe P.kf)
  obtain ⟨x,hx⟩:=(Kp (f:=f) (h:=h)).1
  obtain ⟨y,hy⟩:=(Kp (f:=f) (h:=h)).2.1
  unfold jA
  have:f.1*h.1=gJ f h*gJ f h*(x*y):=by
    have:f.1*h.1=(gJ f h*x)*(gJ f h*y):=by rw [←hx,←hy]
    rw [this];grind
  rw [this,Int.mul_fdiv_cancel_left _ (Int.mul_ne_zero (by omega) (by omega)),Int.mul_comm]
theorem Pair.ja0 {f h:I3} {g j k:Int} (P:Pair f h) (C:Common f h g j k):jA f h g≠0:=fun z=>by
  have e:=P.ja C
  rw [z,Int.zero_mul] at e
  exact Int.mul_ne_zero (Fe P.kf) (Fe P.kh) e.symm
theorem Pair.comp {f h:I3} {g j k:Int} (P:Pair f h) (C:Common f h g j k):Comp f h (jF f h g j k):=⟨_,_,P.joint C⟩
theorem Pair.kind {f h:I3} {g j k:Int} (P:Pair f h) (C:Common f h g j k):Bo (jF f h g j k)∨Sad (jF f h g j k):=by
  have hm:=(P.comp C).meas.2
  rw [←P.m] at hm
  rcases P.kf with kf | kf
  · refine .inl ⟨?_,by rw [hm];exact kf.2⟩
    have kh:0 < h.1:=by
      rcases P.kh with z | z
      · exact z.1
      · have h1:=kf.2;have h2:=z.pos;have h3:=P.m;omega
    have e:=P.ja C
    have p1:=Int.mul_pos kf.1 kh
    show 0 < jA f h g
    rcases Int.lt_or_le 0 (jA f h g) with z | z
    · exact z
    · have:=Int.mul_nonneg (show 0≤-jA f h g by omega) (sq_nonneg g)
      have:-jA f h g*(g*g)=-(jA f h g*(g*g)):=by grind
      omega
  · exact .inr ⟨by rw [hm];exact kf.no,by rw [hm];exact kf.pos,by rw [hm];exact kf.most⟩
theorem Pair.bF {f h:I3} {g j k:Int} (P:Pair f h) (C:Common f h g j k):B3 1402 (jF f h g j k):=by
  have h0:=P.ja0 C
  have hB:=Ad3 (j:=j) (k:=k) h0
  have hA:Bt 1400 (jA f h g):=by rw [C.1];exact P.bA
  have hm:(jB f h g j k)*(jB f h g j k) - 4*(jF f h g j k).1*(jF f h g j k).2.2=meas f:=by
    have:=(P.comp C).meas.2
    rw [P.m];exact this
  refine ⟨hA.le (by decide),?_,(Agz (A:=jA f h g) (B:=jB f h g j k) (D:=meas f) ?_ h0 hB hA P.bm).le (by decide)⟩
  · show Bt 1402 (jB f h g j k)
    have:(2:Nat) ^ 1402=4*2 ^ 1400:=by decide +kernel
    unfold Bt at *
    omega
  · show _=4*(jF f h g j k).1*(jF f h g j k).2.2
    omega
noncomputable abbrev J8:DSp:=BJ (fun p:(I3 × I3) × I3=>[t3 p.1.1,t3 p.1.2,t3 p.2]) (fun p=>Pair p.1.1 p.1.2∧Common p.1.1 p.1.2 p.2.1 p.2.2.1 p.2.2.2) fun p=>t3 (jF p.1.1 p.1.2 p.2.1 p.2.2.1 p.2.2.2)
theorem Qy (T:Txt K mg)
    (G_half_of_middles:Pm P w K mg base 1 "half_of_middles" Bw ["one","other"] Di)
    (G_measure:Pm P w K mg base 1 "measure" Cv ["form"] DP)
    : Pm P w K mg base 2 "joint_form" Ef ["one","other","common"] J8:=by
  obtain ⟨f,fd,F⟩:=T.t_joint_form
  refine ⟨f,fd,F,F.fn.okD CP (by walk_at "lE") fun cdv A outer s H E hr=>⟨_,(Ad (Al 3 CP.nd (Ac (dv 2) Ab)) (Ad (Al 4 CP.nd (Ac (dv 1) Ab)) (Ad (Al 5 CP.nd (Ac (dv 1) Ab)) (Ad (Al 6 CP.nd (Bu (Ak (Ac (dv 0) Ab) (dv 4)) (Ak (dv 3) (dv 3)))) (Ad (Al 7 CP.nd (Bl (Ak (Ac (dv 2) Ab) (Bl (Ag Af G_half_of_middles (hr.mono (by decide)) rfl (Aa (dv 0) (Aa (dv 1) Ae))) (dv 5))) (Ak (Ac (dv 2) Ab) (Ac (dv 1) Ab)))) (Ad (Al 8 CP.nd (Dz (Bh (dv 5) (Ak (Ak Ab (Bu (dv 4) (dv 3))) (dv 7))) (Ak Ab (dv 6)))) (Ah (Aq (Ba (Aa (dv 6) (Aa (dv 8) (Aa (Bu (Bl (Ak (dv 8) (dv 8)) (Ag Af G_measure (hr.mono (by decide)) rfl (Aa (dv 0) Ae))) (Ak Ab (dv 6))) Ae)))))))))))),fun ds Q h=>?_⟩⟩
  obtain ⟨⟨⟨f,h⟩,g,j,k⟩,rfl,⟨hP,hC⟩,q⟩:=h
  have hP:Pair f h:=hP
  have hC:Common f h g j k:=hC
  have q':Q (t3 (jF f h g j k)):=q _ rfl
  have g0:0 < g:=by rw [hC.1];exact Mt (Fe hP.kf)
  have bg:Bt 800 g:=by rw [hC.1];exact Km (Km hP.bf.1 hP.bh.1) (OJ hP.bf hP.bh hP.m)
  have bs:=OJ hP.bf hP.bh hP.m
  have h0:=hP.ja0 hC
  have hF:=hP.bF hC
  have hA:Bt 1400 (jA f h g):=by rw [hC.1];exact hP.bA
  have hB:Bt 1402 (jB f h g j k):=hF.2.1
  have two:Bt 2 2:=Bt.of_abs (by decide)
  have four:Bt 3 4:=Bt.of_abs (by decide)
  have bd:Bt 801 (h.1.fdiv g):=Gm hP.bh.1 (by omega)
  have bj:=hC.2.2.1
  have bk:=hC.2.2.2
  have bm2:Bt 4803 (j*(jS f h - h.2.1) - k*h.2.2):=((bj.mul (bs.sub hP.bh.2.1)).sub ((bk.mul hP.bh.2.2).le (m:=4802) (by decide))).le (by decide)
  have A0:(f.1*h.1).fdiv (g*g)≠0:=h0
  walk_at "go"
  refine ⟨hP.bf.1.mulOk hP.bh.1,bg.mulOk bg,Bt.divOk (bg.mul bg) (Int.mul_ne_zero (by omega) (by omega)),Aj (f,h) trivial ⟨bj.mulOk (bs.sub hP.bh.2.1),bk.mulOk hP.bh.2.2,Bt.divOk bg (by omega),two.mulOk bd,(two.mul bd).mulOk bm2,two.mulOk hA,by omega,hB.mulOk hB,Aj f (hP.bf.le (by decide)) ⟨four.mulOk hA,Bt.divOk (four.mul hA) (by show 4*(f.1*h.1).fdiv (g*g)≠0;omega),Am (by decide),q'⟩⟩⟩
noncomputable abbrev Er (p q:I4):Dt:=.tup [t4 p,t4 q]
noncomputable abbrev J2:DSp:=BJ (fun p:(I3 × I3) × I3=>[t3 p.1.1,t3 p.1.2,.int p.2.1,.int (jB p.1.1 p.1.2 p.2.1 p.2.2.1 p.2.2.2)]) (fun p=>Pair p.1.1 p.1.2∧Common p.1.1 p.1.2 p.2.1 p.2.2.1 p.2.2.2) fun p=>Er (jP p.1.1 p.1.2 p.2.1 (jB p.1.1 p.1.2 p.2.1 p.2.2.1 p.2.2.2)) (jQ p.1.1 p.1.2 p.2.1)
theorem Qt (T:Txt K mg)
    (G_half_of_middles:Pm P w K mg base 1 "half_of_middles" Bw ["one","other"] Di)
    (G_measure:Pm P w K mg base 1 "measure" Cv ["form"] DP)
    : Pm P w K mg base 2 "joint_rows" Em ["one","other","g","middle"] J2:=by
  obtain ⟨f,fd,F⟩:=T.t_joint_rows
  refine ⟨f,fd,F,F.fn.okD Ci (by walk_at "lE") fun cdv A outer s H E hr=>⟨_,(Ad (Al 4 Ci.nd (Ac (dv 0) Ab)) (Ad (Al 5 Ci.nd (Ac (dv 0) Ab)) (Ad (Al 6 Ci.nd (Ac (dv 1) Ab)) (Ad (Al 7 Ci.nd (Ac (dv 1) Ab)) (Ad (Al 8 Ci.nd (Ag Af G_half_of_middles (hr.mono (by decide)) rfl (Aa (dv 0) (Aa (dv 1) Ae)))) (Ad (Al 9 Ci.nd (Bu (Ak (dv 2) (Bl (Bh (Ak (dv 5) (dv 7)) (Ag Af G_measure (hr.mono (by decide)) rfl (Aa (dv 0) Ae))) (Ak (Ak Ab (dv 3)) (dv 8)))) (Ak (Ak Ab (dv 4)) (dv 6)))) (Ad (Al 10 Ci.nd (Ba (Aa (dv 2) (Aa (Bu (Ak (dv 2) (Bl (dv 7) (dv 3))) (Ak Ab (dv 6))) (Aa (Bu (Ak (dv 2) (Bl (dv 5) (dv 3))) (Ak Ab (dv 4))) (Aa (dv 9) Ae)))))) (Ah (Aq (Ba (Aa (dv 10) (Aa (Ba (Aa Ab (Aa (Bu (dv 4) (dv 2)) (Aa (Bu (dv 6) (dv 2)) (Aa (Bu (dv 8) (dv 2)) Ae))))) Ae)))))))))))),fun ds Q h=>?_⟩⟩
  obtain ⟨⟨⟨f,h⟩,g,j,k⟩,rfl,⟨hP,hC⟩,q⟩:=h
  have hP:Pair f h:=hP
  have hC:Common f h g j k:=hC
  have q':Q (Er (jP f h g (jB f h g j k)) (jQ f h g)):=q _ rfl
  have g0:0 < g:=by rw [hC.1];exact Mt (Fe hP.kf)
  have bg:Bt 800 g:=by rw [hC.1];exact Km (Km hP.bf.1 hP.bh.1) (OJ hP.bf hP.bh hP.m)
  have bs:=OJ hP.bf hP.bh hP.m
  have hB:Bt 1402 (jB f h g j k):=(hP.bF hC).2.1
  have a0:=Fe hP.kf
  have d0:=Fe hP.kh
  have two:Bt 2 2:=Bt.of_abs (by decide)
  have four:Bt 3 4:=Bt.of_abs (by decide)
  walk_at "go"
  dsimp only at *
  generalize jB f h g j k=B at *
  have bme:Bt 2300 (f.2.1*h.2.1+meas f - 2*B*jS f h):=(((hP.bf.2.1.mul hP.bh.2.1).add (hP.bm.le (m:=1600) (by decide))).sub (((two.mul hB).mul bs).le (m:=2299) (by decide))).le (by decide)
  have n4:4*f.1*h.1≠0:=Int.mul_ne_zero (by omega) d0
  refine Aj (f,h) trivial ⟨hP.bf.2.1.mulOk hP.bh.2.1,Aj f (hP.bf.le (by decide)) ⟨two.mulOk hB,(two.mul hB).mulOk bs,bg.mulOk bme,four.mulOk hP.bf.1,(four.mul hP.bf.1).mulOk hP.bh.1,Bt.divOk ((four.mul hP.bf.1).mul hP.bh.1) n4,bg.mulOk ((hP.bh.2.1.le (m:=1402) (by decide)).sub hB),two.mulOk hP.bh.1,Bt.divOk (two.mul hP.bh.1) (by omega),bg.mulOk ((hP.bf.2.1.le (m:=1402) (by decide)).sub hB),two.mulOk hP.bf.1,Bt.divOk (two.mul hP.bf.1) (by omega),Am (by decide),Bt.divOk bg (by omega),Bt.divOk bg (by omega),Bt.divOk bg (by omega),Am (by decide),Am (by decide),q'⟩⟩
theorem AfE {f h:I3} {g j k:Int} (hP:Pair f h) (hC:Common f h g j k):B4 9000 (jP f h g (jB f h g j k))∧B4 9000 (jQ f h g):=by
  have g0:0 < g:=by rw [hC.1];exact Mt (Fe hP.kf)
  have bg:Bt 800 g:=by rw [hC.1];exact Km (Km hP.bf.1 hP.bh.1) (OJ hP.bf hP.bh hP.m)
  have bs:=OJ hP.bf hP.bh hP.m
  have hB:Bt 1402 (jB f h g j k):=(hP.bF hC).2.1
  have a0:=Fe hP.kf
  have d0:=Fe hP.kh
  have two:Bt 2 2:=Bt.of_abs (by decide)
  generalize jB f h g j k=B at *
  have bme:Bt 2300 (f.2.1*h.2.1+meas f - 2*B*jS f h):=(((hP.bf.2.1.mul hP.bh.2.1).add (hP.bm.le (m:=1600) (by decide))).sub (((two.mul hB).mul bs).le (m:=2299) (by decide))).le (by decide)
  have n4:4*f.1*h.1≠0:=Int.mul_ne_zero (by omega) d0
  exact ⟨⟨bg.le (by decide),(Gm (bg.mul ((hP.bh.2.1.le (m:=1402) (by decide)).sub hB)) (by omega)).le (by decide),(Gm (bg.mul ((hP.bf.2.1.le (m:=1402) (by decide)).sub hB)) (by omega)).le (by decide),(Gm (bg.mul bme) n4).le (by decide)⟩,
    Bt.zero.le (by decide),(Gm hP.bf.1 (by omega)).le (by decide),(Gm hP.bh.1 (by omega)).le (by decide),(Gm bs (by omega)).le (by decide)⟩
noncomputable def Aki (t:I4):Dt→Dt
  | .tup [.int x,.int y]=>t2 (Ho t (x,y))
  | _=>.non
noncomputable def Akw:Dt→Dt
  | .tup [.int x,.int _]=>.int x
  | _=>.non
noncomputable def AkL:Dt→Dt
  | .tup [.int _,.int y]=>.int y
  | _=>.non
noncomputable abbrev MK:DSp:=BJ (fun p:I4 × I4 × I4=>[t4 (Av p.1),Er p.2.1 p.2.2]) (fun p=>B4 90000 p.1∧det p.1=1∧B4 9000 p.2.1∧B4 9000 p.2.2) fun p=>Er (Lw p.2.1 p.2.2 p.1) (MF p.2.1 p.2.2 p.1)
theorem U6 (T:Txt K mg)
    (G_led:Pm P w K mg base 3 "led" QZ ["turn","point"] Yu)
    : Pm P w K mg base 4 "rows_led" Df ["turn","rows"] MK:=by
  obtain ⟨f,fd,F⟩:=T.t_rows_led
  refine ⟨f,fd,F,F.fn.okD M4 (by walk_at "lE") fun cdv A outer s H E hr=>⟨_,(Ad (Aan 2 M4.nd (Fg (sc:=Ai Df) (NN:=["turn","rows","pairs"]) (x:="pair") (N:=["turn"]) (sl:=[0]) rfl rfl (by decide +kernel)) rfl (Ae7 rfl T.z_zip (Aa (Ac (dv 1) Ab) (Aa (Ac (dv 1) Ab) Ae))) (fun cl C s0 H0 ex=>(Ag Af G_led (hr.mono (by decide)) rfl (Aa (dv 1) (Aa (dv 0) Ae))))) (Ah (Aq (Ba (Aa (Rj T.z_tuple (Aa (Np (Fg (sc:=Ai Df) (NN:=["turn","rows","pairs"]) (x:="pair") (N:=[]) (sl:=[]) rfl rfl (by decide +kernel)) rfl (Ml (dv 2)) (fun cl C s0 H0 ex=>(Ac (dv 0) Ab))) Ae)) (Aa (Rj T.z_tuple (Aa (Np (Fg (sc:=Ai Df) (NN:=["turn","rows","pairs"]) (x:="pair") (N:=[]) (sl:=[]) rfl rfl (by decide +kernel)) rfl (Ml (dv 2)) (fun cl C s0 H0 ex=>(Ac (dv 0) Ab))) Ae)) Ae)))))),fun ds Q h=>?_⟩⟩
  obtain ⟨⟨t,⟨p0,p1,p2,p3⟩,q0,q1,q2,q3⟩,rfl,⟨bt,dt,bp,bq⟩,q⟩:=h
  have q':=q _ rfl
  have bt:B4 90000 t:=bt
  have dt:det t=1:=dt
  obtain ⟨p0b,p1b,p2b,p3b⟩:B4 9000 (p0,p1,p2,p3):=bp
  obtain ⟨q0b,q1b,q2b,q3b⟩:B4 9000 (q0,q1,q2,q3):=bq
  have bx:∀ x∈[(p0,q0),(p1,q1),(p2,q2),(p3,q3)],B2 300000 x:=fun x hx=>by
    simp only [List.mem_cons,List.not_mem_nil,or_false] at hx
    rcases hx with rfl | rfl | rfl | rfl
    · exact ⟨p0b.le (by decide),q0b.le (by decide)⟩
    · exact ⟨p1b.le (by decide),q1b.le (by decide)⟩
    · exact ⟨p2b.le (by decide),q2b.le (by decide)⟩
    · exact ⟨p3b.le (by decide),q3b.le (by decide)⟩
  walk_at "go"
  refine FZ ([(p0,q0),(p1,q1),(p2,q2),(p3,q3)].map t2) (Aki (Av t)) (fun R hR=>?_) (Am (by show 4≤1000;decide)) (CG rfl DQ) (fun d hd R hR=>?_) ?_
  · walk_at "rd"
    exact ⟨_,_,rfl,rfl,hR⟩
  · obtain ⟨x,hx,rfl⟩:=List.mem_map.mp hd
    unfold inner
    walk_at "rd"
    exact Aj (Av t,x) ⟨bt.back.le (by decide),by rw [Et];exact dt,bx x hx⟩ hR
  refine FZ ([Ho (Av t) (p0,q0),Ho (Av t) (p1,q1),Ho (Av t) (p2,q2),Ho (Av t) (p3,q3)].map t2) Akw (fun R hR=>hR) (Am (by show 4≤1000;decide)) DQ (fun d hd R hR=>?_) ?_
  · obtain ⟨x,hx,rfl⟩:=List.mem_map.mp hd
    unfold inner
    walk_at "rd"
    exact hR
  refine ⟨_,rfl,FZ ([Ho (Av t) (p0,q0),Ho (Av t) (p1,q1),Ho (Av t) (p2,q2),Ho (Av t) (p3,q3)].map t2) AkL (fun R hR=>hR) (Am (by show 4≤1000;decide)) DQ (fun d hd R hR=>?_) ?_⟩
  · obtain ⟨x,hx,rfl⟩:=List.mem_map.mp hd
    unfold inner
    walk_at "rd"
    exact hR
  refine ⟨_,rfl,Am (by decide),?_⟩
  have e:Er (Lw (p0,p1,p2,p3) (q0,q1,q2,q3) t) (MF (p0,p1,p2,p3) (q0,q1,q2,q3) t)=Dt.tup [Dt.tup ([Ho (Av t) (p0,q0),Ho (Av t) (p1,q1),Ho (Av t) (p2,q2),Ho (Av t) (p3,q3)].map fun x=>Dt.int x.1),Dt.tup ([Ho (Av t) (p0,q0),Ho (Av t) (p1,q1),Ho (Av t) (p2,q2),Ho (Av t) (p3,q3)].map fun x=>Dt.int x.2)]:=by
    obtain ⟨a,b,c,d⟩:=t
    simp only [Er,Lw,MF,Ho,Av,List.map_cons,List.map_nil,T4,Dt.tup.injEq,List.cons.injEq,Dt.int.injEq,and_true]
    refine ⟨⟨?_,?_,?_,?_⟩,?_,?_,?_,?_⟩ <;> grind
  dsimp only at q'
  rw [e] at q'
  exact q'
noncomputable def Jy (f h:I3) (d:Dt):Prop:=∃ (F G:I3) (p q:I4),Comp f h F∧LF F G∧FA p q=f∧FB p q=h∧FC p q=G∧d=.tup [t3 G,Er p q]∧B4 110000 p∧B4 110000 q
noncomputable def QS (f h:I3) (d:Dt):Prop:=∃ g j k,∃ (G:I3) (t:I4),JG f h g j k∧LR (jF f h g j k) (.tup [t3 G,t4 t])∧d=.tup [t3 G,Er (Lw (jP f h g (jB f h g j k)) (jQ f h g) t) (MF (jP f h g (jB f h g j k)) (jQ f h g) t)]
theorem t4i {a b:I4} (h:t4 a=t4 b):a=b:=by
  obtain ⟨a1,a2,a3,a4⟩:=a
  obtain ⟨b1,b2,b3,b4⟩:=b
  simp only [T4,Dt.tup.injEq,List.cons.injEq,Dt.int.injEq,and_true] at h
  obtain ⟨rfl,rfl,rfl,rfl⟩:=h
  rfl
theorem QS.uniq {f h:I3} {d e:Dt} (A:QS f h d) (B:QS f h e):d=e:=by
  obtain ⟨g,j,k,G,t,c1,l1,rfl⟩:=A
  obtain ⟨g',j',k',G',t',c2,l2,rfl⟩:=B
  obtain ⟨rfl,rfl,rfl⟩:=c1.uniq c2
  have e:=l1.uniq l2
  simp only [Dt.tup.injEq,List.cons.injEq,and_true] at e
  obtain ⟨e1,e2⟩:=e
  have e2:t4 t=t4 t':=by simp only [T4,Dt.tup.injEq,List.cons.injEq,and_true];exact e2
  obtain rfl:=t4i e2
  have e3:t3 G=t3 G':=by simp only [T3,Dt.tup.injEq,List.cons.injEq,and_true];exact e1
  rw [e3]
noncomputable abbrev N5:DSp:=spec (fun p:I3 × I3=>[t3 p.1,t3 p.2]) (fun p=>Pair p.1 p.2) fun p d=>Jy p.1 p.2 d∧QS p.1 p.2 d
theorem Vx (T:Txt K mg)
    (GM_least:PmM P w K mg base 1 ["Bowl","Saddle"] "least" Q8)
    (G_check_pair:Pm P w K mg base 11 "check_pair" Ei ["one","other"] J5)
    (G_common_shares:Pm P w K mg base 3 "common_shares" Cw ["one","other"] HF)
    (G_joint_form:Pm P w K mg base 2 "joint_form" Ef ["one","other","common"] J8)
    (G_rows_led:Pm P w K mg base 4 "rows_led" Df ["turn","rows"] MK)
    (G_shape_of:Pm P w K mg base 10 "shape_of" EY ["form"] Jm)
    (G_back:Pm P w K mg base 3 "back" LQ ["turn"] Xb)
    (G_joint_rows:Pm P w K mg base 2 "joint_rows" Em ["one","other","g","middle"] J2)
    : Pm P w K mg base 12 "product" GX ["one","other"] N5:=by
  obtain ⟨f,fd,F⟩:=T.t_product
  refine ⟨f,fd,F,F.fn.okD IV (by walk_at "lE") fun cdv A outer s H E hr=>⟨_,(Ad (Gj (Ag Af G_check_pair (hr.mono (by decide)) rfl (Aa (dv 0) (Aa (dv 1) Ae)))) (Ad (Al 2 IV.nd (Ag Af G_common_shares (hr.mono (by decide)) rfl (Aa (dv 0) (Aa (dv 1) Ae)))) (Ad (Al 3 IV.nd (Ag Af G_joint_form (hr.mono (by decide)) rfl (Aa (dv 0) (Aa (dv 1) (Aa (dv 2) Ae))))) (Ad (Al 4 IV.nd (Xu Af GM_least (hr.mono (by decide)) (Ag Af G_shape_of (hr.mono (by decide)) rfl (Aa (dv 3) Ae)))) (Ah (Aq (Ba (Aa (Ac (dv 4) Ab) (Aa (Ag Af G_rows_led (hr.mono (by decide)) rfl (Aa (Ag Af G_back (hr.mono (by decide)) rfl (Aa (Ac (dv 4) Ab) Ae)) (Aa (Ag Af G_joint_rows (hr.mono (by decide)) rfl (Aa (dv 0) (Aa (dv 1) (Aa (Ac (dv 2) Ab) (Aa (Ac (dv 3) Ab) Ae))))) Ae))) Ae))))))))),fun ds Q h=>?_⟩⟩
  obtain ⟨⟨f,h⟩,rfl,hP,q⟩:=h
  have hP:Pair f h:=hP
  have q:∀ d,Jy f h d∧QS f h d→Q d:=q
  walk_at "go"
  refine Aj (f,h) hP (Br (f,h) hP ?_)
  rintro _ ⟨g,j,k,rfl,hC,hD⟩
  have hC:Common f h g j k:=hC
  refine Aj ((f,h),g,j,k) ⟨hP,hC⟩ ?_
  dsimp only
  have bF:=hP.bF hC
  have kF:=hP.kind hC
  have cF:=hP.comp hC
  obtain ⟨j1,j2,j3⟩:=hP.joint hC
  have jb:=AfE hP hC
  refine Br (jF f h g j k) ⟨bF.le (by decide),kF⟩ ?_
  rintro _ ho
  obtain ⟨c,l,hc,rfl,h1⟩:=Tp ho
  obtain ⟨G,t,rfl,L,dt,mt,bt⟩:=Ag5 h1
  have cm:c∈([Str.ofString "Bowl",Str.ofString "Saddle"]:List Str):=by rcases hc with e | e <;> rw [e] <;> simp
  refine ⟨⟨cm,by decide⟩,Aj (c,_,_) hc ?_⟩
  walk_at "rd"
  refine Aj t ⟨bt.le (by decide),dt⟩ (Aj ((f,h),g,j,k) ⟨hP,hC⟩ (Aj (t,jP f h g (jB f h g j k),jQ f h g) ⟨bt,dt,jb.1,jb.2⟩ ⟨Am (by decide),q _ ⟨?_,⟨g,j,k,G,t,hD,h1,rfl⟩⟩⟩))
  dsimp only
  generalize jP f h g (jB f h g j k)=p at *
  generalize jQ f h g=r at *
  refine ⟨_,G,Lw p r t,MF p r t,cF,L,by rw [Aj9 dt,j1],by rw [Aky dt,j2],by rw [AhH,j3,mt],rfl,?_,?_⟩
  · obtain ⟨⟨a1,a2,a3,a4⟩,b1,b2,b3,b4⟩:=jb
    obtain ⟨t1,t2,t3,t4⟩:=bt
    exact ⟨((t4.mul a1).sub (t2.mul b1)).le (by decide),((t4.mul a2).sub (t2.mul b2)).le (by decide),((t4.mul a3).sub (t2.mul b3)).le (by decide),((t4.mul a4).sub (t2.mul b4)).le (by decide)⟩
  · obtain ⟨⟨a1,a2,a3,a4⟩,b1,b2,b3,b4⟩:=jb
    obtain ⟨t1,t2,t3,t4⟩:=bt
    exact ⟨((t1.mul b1).sub (t3.mul a1)).le (by decide),((t1.mul b2).sub (t3.mul a2)).le (by decide),((t1.mul b3).sub (t3.mul a3)).le (by decide),((t1.mul b4).sub (t3.mul a4)).le (by decide)⟩
noncomputable abbrev Fx:DSp:=BJ (fun p:List Int × Int=>[.lst (p.1.map Dt.int),.int p.2]) (fun p=>0≤p.2) fun p=>.int (p.1.getD p.2.toNat 0)
theorem Io {Q:Dt→Prop} (ns:List Int) (k:Int) (h:0≤k) (q:Q (.int (ns.getD k.toNat 0))):Fx [.lst (ns.map Dt.int),.int k] Q:=Aj (ns,k) h q
theorem Rz (T:Txt K mg)
    : Pm P w K mg base 1 "_law_cell" Dd ["_law_script","_law_k"] Fx:=by
  obtain ⟨f,fd,F⟩:=T.t__law_cell
  refine ⟨f,fd,F,F.fn.okD Rt (by walk_at "lE") fun cdv A outer s H E hr=>⟨_,(Ad (Ca (Jx (dv 1) (Ka T.z_len (Aa (dv 0) Ae))) (Ah (Aq (Ac (dv 0) (dv 1)))) Bd) (Ah (Aq Ab))),fun ds Q h=>?_⟩⟩
  obtain ⟨⟨ns,k⟩,rfl,h0,q⟩:=h
  walk_at "go"
  by_cases hk:k < ns.length
  · simp only [decide_eq_true hk,RN h0 hk,if_true]
    exact q _ rfl
  · simp only [decide_eq_false hk]
    have e:ns.getD k.toNat 0=0:=by
      have:ns.length≤k.toNat:=by have h0':0≤k:=h0;omega
      simp [this]
    have q':=q _ rfl
    dsimp only at q'
    rw [e] at q'
    exact q'
noncomputable abbrev J0:DSp:=BJ (fun n:Int=>[.int n]) (fun _=>True) fun _=>.bl true
theorem Qa (T:Txt K mg)
    : Pm P w K mg base 1 "_law_whole" Ek ["_law_found"] J0:=by
  obtain ⟨f,fd,F⟩:=T.t__law_whole
  refine ⟨f,fd,F,F.fn.okD Qe (by walk_at "lE") fun cdv A outer s H E hr=>⟨_,(Ah (Aq (SM (O5 T.z_isinstance T.z_int AcE (dv 0)) (Oc (Ad9 (O5 T.z_isinstance T.z_bool Zf (dv 0))))))),fun ds Q h=>?_⟩⟩
  obtain ⟨n,rfl,_,q⟩:=h
  have q':Q (.bl true):=q _ rfl
  walk_at "go"
  exact q'
noncomputable def isI:Dt→Bool
  | .int _=>true
  | _=>false
noncomputable abbrev CZ:DSp:=BJ (fun p:List Int × Int=>[.tup (p.1.map Dt.int),.int p.2]) (fun p=>p.1.length≤1000) fun p=>.bl (decide ((p.1.length:Int)=p.2))
theorem Lz {Q:Dt→Prop} (ns:List Int) (k:Int) (h:(ns.length:Int)=k) (hl:ns.length≤1000) (q:Q (.bl true)):CZ [.tup (ns.map Dt.int),.int k] Q :=
  Aj (ns,k) hl (by dsimp only;rw [decide_eq_true h];exact q)
theorem Abt {Q:Dt→Prop} (p:I2) (q:Q (.bl true)):CZ [t2 p,.int 2] Q:=Lz [p.1,p.2] 2 rfl (by show 2≤1000;decide) q
theorem Xj {Q:Dt→Prop} (p:I4) (q:Q (.bl true)):CZ [t4 p,.int 4] Q:=Lz [p.1,p.2.1,p.2.2.1,p.2.2.2] 4 rfl (by show 4≤1000;decide) q
theorem Ab9 {Q:Dt→Prop} (p:I3) (q:Q (.bl true)):CZ [t3 p,.int 3] Q:=Lz [p.1,p.2.1,p.2.2] 3 rfl (by show 3≤1000;decide) q
theorem PJ (T:Txt K mg)
    (G__law_whole:Pm P w K mg base 1 "_law_whole" Ek ["_law_found"] J0)
    : Pm P w K mg base 2 "_law_wholes" CN ["_law_found","_law_many"] CZ:=by
  obtain ⟨f,fd,F⟩:=T.t__law_wholes
  refine ⟨f,fd,F,F.fn.okD Od (by walk_at "lE") fun cdv A outer s H E hr=>⟨_,(Ad (Ca (DW.dt (Jc (FN (Fb (O5 T.z_isinstance T.z_tuple Mj (dv 0)))) (Jl (FW hr.units (Ka T.z_len (Aa (dv 0) Ae)) (dv 1))))) (Ah (Aq Jf)) Bd) (Ah (Aq (QM hr.units (Ka T.z_len (Aa (Aas (Fg (sc:=Ai CN) (NN:=["_law_found","_law_many"]) (x:="_law_one") (N:=[]) (sl:=[]) rfl rfl (by decide +kernel)) rfl (Afv (dv 0)) (fun cl C s0 H0 ex=>(Fb (Ag Af G__law_whole (hr.mono (by decide)) rfl (Aa (dv 0) Ae)))) (fun cl C s0 H0 ex=>(dv 0))) Ae)) (dv 1))))),fun ds Q h=>?_⟩⟩
  obtain ⟨⟨ns,k⟩,rfl,h0,q⟩:=h
  walk_at "go"
  have q':=q _ rfl
  dsimp only at q'
  by_cases hk:(ns.length:Int)=k
  · rw [decide_eq_true hk] at q'
    simp only [decide_eq_true hk]
    walk_at "rd"
    refine SJ (ns.map Dt.int) isI id (fun R h=>h) (by rw [List.length_map];exact Am h0) DQ (fun d hd R hR=>?_) (fun d hd hp R hR=>hR) ?_
    · unfold inner
      walk_at "rd"
      obtain ⟨n,_,rfl⟩:=List.mem_map.mp hd
      exact Aj n trivial hR
    · have e:(List.filter isI (ns.map Dt.int)).map id=ns.map Dt.int:=by
        rw [List.map_id,List.filter_eq_self]
        intro d hd
        obtain ⟨n,_,rfl⟩:=List.mem_map.mp hd
        rfl
      rw [e]
      walk_at "rd"
      rw [decide_eq_true hk]
      exact q'
  · rw [decide_eq_false hk] at q'
    simp only [decide_eq_false hk]
    exact q'
noncomputable abbrev Gn:DSp:=BJ (fun f:I3=>[t3 f]) (fun f=>B3 2000 f) fun f=>.int (meas f)
theorem Uu (T:Txt K mg)
    : Pm P w K mg base 1 "_law_bar" Dm ["_law_form"] Gn:=by
  obtain ⟨f,fd,F⟩:=T.t__law_bar
  refine ⟨f,fd,F,F.fn.okD UG (by walk_at "lE") fun cdv A outer s H E hr=>⟨_,(Ah (Aq (Bl (Ak (Ac (dv 0) Ab) (Ac (dv 0) Ab)) (Ak (Ak Ab (Ac (dv 0) Ab)) (Ac (dv 0) Ab))))),fun ds Q h=>?_⟩⟩
  obtain ⟨f,rfl,hf,q⟩:=h
  have hf:B3 2000 f:=hf
  have q':=q _ rfl
  have four:Bt 3 4:=Bt.of_abs (by decide)
  walk_at "go"
  exact ⟨hf.2.1.mulOk hf.2.1,four.mulOk hf.1,(four.mul hf.1).mulOk hf.2.2,q'⟩
noncomputable abbrev Ik:DSp:=spec (fun n:Int=>[.int n]) (fun n=>0≤n∧Bt 4000 n) fun n d=>∃ r,d=.int r∧Sq n r∧Bt 2001 r
theorem Rv (T:Txt K mg)
    : Pm P w K mg base 1 "_law_root" DR ["_law_number"] Ik:=by
  obtain ⟨f,fd,F⟩:=T.t__law_root
  refine ⟨f,fd,F,F.fn.okD Ir (by walk_at "lE") fun cdv A outer s H E hr=>⟨_,(Ad (Al 1 Ir.nd (Aaf Ab (Bu (Bh (WT (dv 0)) Ab) Ab))) (Ad (DK PassesOwn.never (QG (Ak (dv 1) (dv 1)) (dv 0)) (Ah (Al 1 Ir.nd (Bu (Bh (dv 1) (Bu (dv 0) (dv 1))) Ab)))) (Ah (Aq (dv 1))))),fun ds Q h=>?_⟩⟩
  obtain ⟨n,rfl,⟨h0,hb⟩,q⟩:=h
  walk_at "go"
  obtain ⟨c1,c2,c3⟩:=MP hb
  have hu:=Ua h0
  refine ⟨⟨by decide,by decide⟩,c1,?_⟩
  generalize (1*2 ^ ((((Builtin.Int.intBits n:Nat):Int)+1).fdiv 2).toNat:Int)=g at *
  refine DY (fun m ρ=>∃ g:Int,ρ=[some (.is (.int n)),some (.is (.int g))]∧0≤g∧Bt 2001 g∧n < (g+1)*(g+1)∧m=g.toNat) _ ⟨g,rfl,by omega,c2,hu,rfl⟩ ?_
  rintro m _ ⟨g,rfl,hg,hgb,hgu,rfl⟩
  walk_at "rd"
  refine ⟨hgb.mulOk hgb,Eb (fun hw=>?_) (fun hw=>?_)⟩
  · have hw:=of_decide_eq_true hw
    have hg0:0 < g:=by
      rcases Int.lt_or_le 0 g with z | z
      · exact z
      · have:g=0:=by omega
        subst this
        omega
    have hd:=T5 hg0 hw
    have hu':=Rk h0 hg0
    have hp:0≤(g+n / g) / 2:=by
      have:=Int.ediv_nonneg h0 (show 0≤g by omega)
      omega
    have hbb:Bt 2001 ((g+n / g) / 2):=by unfold Bt at *;omega
    refine ⟨Bt.divOk hgb (by omega),⟨by decide,by decide⟩,?_⟩
    rw [Td hg0]
    exact ⟨_,by omega,_,rfl,hp,hbb,hu',rfl⟩
  · have hw:¬ n < g*g:=fun z=>hw (decide_eq_true z)
    exact q _ ⟨g,rfl,⟨by omega,by omega,hgu⟩,hgb⟩
noncomputable abbrev K4:DSp:=spec (fun f:I3=>[t3 f]) (fun f=>B3 1500 f∧0≤meas f) fun f d=>∃ b:Bool,d=.bl b∧(b=true↔JQ (meas f))
theorem RB (T:Txt K mg)
    (G__law_bar:Pm P w K mg base 1 "_law_bar" Dm ["_law_form"] Gn)
    (G__law_root:Pm P w K mg base 1 "_law_root" DR ["_law_number"] Ik)
    : Pm P w K mg base 2 "_law_flat" Fp ["_law_form"] K4:=by
  obtain ⟨f,fd,F⟩:=T.t__law_flat
  refine ⟨f,fd,F,F.fn.okD Ip (by walk_at "lE") fun cdv A outer s H E hr=>⟨_,(Ad (Al 1 Ip.nd (Ag Af G__law_bar (hr.mono (by decide)) rfl (Aa (dv 0) Ae))) (Ad (Al 2 Ip.nd (Ag Af G__law_root (hr.mono (by decide)) rfl (Aa (dv 1) Ae))) (Ah (Aq (QM hr.units (Ak (dv 2) (dv 2)) (dv 1)))))),fun ds Q h=>?_⟩⟩
  obtain ⟨f,rfl,⟨hf,h0⟩,q⟩:=h
  have hf:B3 1500 f:=hf
  have h0:0≤meas f:=h0
  have four:Bt 3 4:=Bt.of_abs (by decide)
  have bm:Bt 4000 (meas f):=((hf.2.1.mul hf.2.1).sub (((four.mul hf.1).mul hf.2.2).le (m:=3010) (by decide))).le (by decide)
  walk_at "go"
  refine Aj f (hf.le (by decide)) (Br (meas f) ⟨h0,bm⟩ ?_)
  rintro _ ⟨r,rfl,hs,hb⟩
  walk_at "rd"
  refine ⟨hb.mulOk hb,q _ ⟨_,rfl,?_⟩⟩
  rw [decide_eq_true_eq]
  refine ⟨fun e=>⟨r,e⟩,fun ⟨x,e⟩=>?_⟩
  obtain ⟨r0,r1,r2⟩:=hs
  have e2:(x.natAbs:Int)*x.natAbs=meas f:=(Int.natAbs_mul_self' x).trans e
  obtain ⟨k,ek,k0⟩:∃ k:Int,(x.natAbs:Int)=k∧0≤k:=⟨_,rfl,by omega⟩
  rw [ek] at e2
  rcases Int.lt_trichotomy r k with z | z | z
  · have:=Int.mul_le_mul (show r+1≤k by omega) (show r+1≤k by omega) (by omega) k0
    omega
  · rw [z];exact e2
  · have:=Int.mul_le_mul (show k+1≤r by omega) (show k+1≤r by omega) (by omega) r0
    have:(k+1)*(k+1)=k*k+2*k+1:=by grind
    omega
noncomputable abbrev K3:DSp:=BJ (fun p:I2=>[.int p.1,.int p.2]) (fun _=>True) fun p=>.int ((Int.gcd p.1 p.2:Nat):Int)
theorem SN (T:Txt K mg)
    : Pm P w K mg base 1 "_law_rest" Fl ["_law_one","_law_other"] K3:=by
  obtain ⟨f,fd,F⟩:=T.t__law_rest
  refine ⟨f,fd,F,F.fn.okD Ky (by walk_at "lE") fun cdv A outer s H E hr=>⟨_,(Ad (DK PassesOwn.never (FW hr.units (dv 1) Ab) (Ah (Xc rfl Ky.nd 0 1 (Aa (dv 1) (Aa (Dz (dv 0) (dv 1)) Ae))))) (Ah (Aq (Jq T.z_abs (Aa (dv 0) Ae))))),fun ds Q h=>?_⟩⟩
  obtain ⟨⟨a,b⟩,rfl,_,q⟩:=h
  simp only [OD,Pq,PL]
  refine DY (fun m ρ=>∃ x y,ρ=[some (.is (.int x)),some (.is (.int y))]∧Int.gcd x y=Int.gcd a b∧m=y.natAbs) _ ⟨a,b,rfl,rfl,rfl⟩ ?_
  rintro m _ ⟨x,y,rfl,hg,rfl⟩
  walk_at "rd"
  by_cases hy:y=0
  · subst hy
    simp only [decide_true,Bool.not_true]
    walk_at "rd"
    have q':=q _ rfl
    have e:(if x < 0 then -x else x)=((Int.gcd a b:Nat):Int):=by rw [←hg,Int.gcd_zero_right];split <;> omega
    rw [e]
    exact q'
  · simp only [decide_eq_false hy,Bool.not_false,if_true]
    exact ⟨hy,_,Ih hy,y,x.fmod y,rfl,(KQ x y).trans hg,rfl⟩
noncomputable abbrev K7:DSp:=spec (fun p:Int × List Int=>[.int p.1,.lst (p.2.map Dt.int)]) (fun p=>p.1=0∧p.2.length≤63) fun p d=>∃ t:I4,d=t4 t∧det t=1∧B4 (2+5*p.2.length) t
theorem RT (T:Txt K mg)
    : Pm P w K mg base 1 "_law_turn" Fq ["_law_first","_law_cells"] K7:=by
  obtain ⟨f,fd,F⟩:=T.t__law_turn
  refine ⟨f,fd,F,F.fn.okD BW (by walk_at "lE") fun cdv A outer s H E hr=>⟨_,(Ad (Hy (Ba (Aa Ab (Aa (dv 0) (Aa Ab (Aa Ab Ae))))) (IW (n:=4) rfl (Az (Bc 2 BW.nd) (Az (Bc 3 BW.nd) (Az (Bc 4 BW.nd) (Az (Bc 5 BW.nd) Ez)))))) (Ad (Og PassesOwn.never rfl (Ml (dv 1)) (Bc 6 BW.nd) (Ad (Al 7 BW.nd (Bl (Dz (dv 6) Ab) Ab)) (Ah (Hy (Ba (Aa (dv 3) (Aa (Bl (Ak (dv 7) (dv 3)) (dv 2)) (Aa (dv 5) (Aa (Bl (Ak (dv 7) (dv 5)) (dv 4)) Ae))))) (IW (n:=4) rfl (Az (Bc 2 BW.nd) (Az (Bc 3 BW.nd) (Az (Bc 4 BW.nd) (Az (Bc 5 BW.nd) Ez))))))))) (Ah (Aq (Ba (Aa (dv 2) (Aa (dv 3) (Aa (dv 4) (Aa (dv 5) Ae))))))))),fun ds Q h=>?_⟩⟩
  obtain ⟨⟨f,cs⟩,rfl,⟨hf,hl⟩,q⟩:=h
  have hf:f=0:=hf
  walk_at "go"
  refine ⟨Am (by decide),?_⟩
  refine Lk (cs.map Dt.int) (fun R h=>h) (fun i ρ=>∃ p q r s x y,ρ=[some (.is (.int f)),some (.is (.lst (cs.map Dt.int))),some (.is (.int p)),some (.is (.int q)),some (.is (.int r)),some (.is (.int s)),x,y]∧p*s - q*r=1∧B4 (2+5*i) (p,q,r,s)) ?_ ?_ ?_
  · exact ⟨1,f,0,1,none,none,rfl,by omega,Bt.one.le (by decide),by rw [hf];exact Bt.zero.le (by decide),Bt.zero.le (by decide),Bt.one.le (by decide)⟩
  · rintro i d _ hi ⟨p,q,r,s,x,y,rfl,hd,hp,hq,hr,hs⟩
    obtain ⟨n,hn,rfl⟩:=ints_get hi
    have hk:Bt 4 (n.fmod 19 - 9):=by
      have h1:n.fmod 19=n % 19:=Int.fmod_eq_emod_of_nonneg n (by decide)
      rw [h1]
      exact Bt.of (by omega) (by omega)
    have hi6:i < 63:=by
      have:=(List.getElem?_eq_some_iff.mp hn).1
      have hl':cs.length≤63:=hl
      omega
    have hq':Bt 500 q:=hq.le (by omega)
    have hs':Bt 500 s:=hs.le (by omega)
    walk_at "rd"
    refine ⟨by decide,by walk_at "mul",by walk_at "mul",Am (by decide),?_⟩
    refine ⟨q,(n.fmod 19 - 9)*q - p,s,(n.fmod 19 - 9)*s - r,_,_,rfl,by grind,?_,?_,?_,?_⟩
    · exact hq.le (by omega)
    · exact ((hk.mul hq).sub hp).le (by omega)
    · exact hs.le (by omega)
    · exact ((hk.mul hs).sub hr).le (by omega)
  · rintro _ ⟨p,q',r,s,x,y,rfl,hd,hb⟩
    walk_at "rd"
    refine ⟨Am (by decide),q _ ⟨(p,q',r,s),rfl,hd,hb.le (by rw [List.length_map];exact Nat.le_refl _)⟩⟩
noncomputable abbrev Hz:DSp:=BJ (fun p:I3 × I2=>[t3 p.1,.int p.2.1,.int p.2.2]) (fun p=>B3 2000 p.1∧B2 200000 p.2) fun p=>.int (val p.1 p.2)
theorem Qq (T:Txt K mg)
    : Pm P w K mg base 1 "_law_value" Dk ["_law_form","_law_x","_law_y"] Hz:=by
  obtain ⟨f,fd,F⟩:=T.t__law_value
  refine ⟨f,fd,F,F.fn.okD Qj (by walk_at "lE") fun cdv A outer s H E hr=>⟨_,(Ah (Aq (Bh (Bh (Ak (Ak (Ac (dv 0) Ab) (dv 1)) (dv 1)) (Ak (Ak (Ac (dv 0) Ab) (dv 1)) (dv 2))) (Ak (Ak (Ac (dv 0) Ab) (dv 2)) (dv 2))))),fun ds Q h=>?_⟩⟩
  obtain ⟨⟨⟨a,b,c⟩,x,y⟩,rfl,⟨⟨ha,hb,hc⟩,hx,hy⟩,q⟩:=h
  have q':=q _ rfl
  walk_at "go"
  refine ⟨by walk_at "mul",by walk_at "mul",by walk_at "mul",by walk_at "mul",by walk_at "mul",by walk_at "mul",?_⟩
  exact q'
noncomputable abbrev JZ:DSp:=BJ (fun p:I3 × I4=>[t3 p.1,t4 p.2]) (fun p=>B3 2000 p.1∧B4 15000 p.2) fun p=>t3 (mov p.1 p.2)
theorem PN (T:Txt K mg)
    (G__law_value:Pm P w K mg base 1 "_law_value" Dk ["_law_form","_law_x","_law_y"] Hz)
    : Pm P w K mg base 2 "_law_moved" Ec ["_law_form","_law_turn_here"] JZ:=by
  obtain ⟨f,fd,F⟩:=T.t__law_moved
  refine ⟨f,fd,F,F.fn.okD Du (by walk_at "lE") fun cdv A outer s H E hr=>⟨_,(Ad (Hy (dv 1) (IW (n:=4) rfl (Az (Bc 2 Du.nd) (Az (Bc 3 Du.nd) (Az (Bc 4 Du.nd) (Az (Bc 5 Du.nd) Ez)))))) (Ad (Al 6 Du.nd (Bl (Bl (Ag Af G__law_value (hr.mono (by decide)) rfl (Aa (dv 0) (Aa (Bh (dv 2) (dv 3)) (Aa (Bh (dv 4) (dv 5)) Ae)))) (Ag Af G__law_value (hr.mono (by decide)) rfl (Aa (dv 0) (Aa (dv 2) (Aa (dv 4) Ae))))) (Ag Af G__law_value (hr.mono (by decide)) rfl (Aa (dv 0) (Aa (dv 3) (Aa (dv 5) Ae)))))) (Ah (Aq (Ba (Aa (Ag Af G__law_value (hr.mono (by decide)) rfl (Aa (dv 0) (Aa (dv 2) (Aa (dv 4) Ae)))) (Aa (dv 6) (Aa (Ag Af G__law_value (hr.mono (by decide)) rfl (Aa (dv 0) (Aa (dv 3) (Aa (dv 5) Ae)))) Ae)))))))),fun ds Q h=>?_⟩⟩
  obtain ⟨⟨f,e,g,i,j⟩,rfl,⟨hf,he,hg,hi,hj⟩,q⟩:=h
  walk_at "go"
  have h1:B2 200000 (e+g,i+j):=⟨(he.add hg).le (by decide),(hi.add hj).le (by decide)⟩
  have h2:B2 200000 (e,i):=⟨he.le (by decide),hi.le (by decide)⟩
  have h3:B2 200000 (g,j):=⟨hg.le (by decide),hj.le (by decide)⟩
  refine Aj (f,(e+g,i+j)) ⟨hf,h1⟩ (Aj (f,(e,i)) ⟨hf,h2⟩ ?_)
  walk_at "rd"
  refine Aj (f,(g,j)) ⟨hf,h3⟩ ?_
  walk_at "rd"
  refine Aj (f,(e,i)) ⟨hf,h2⟩ (Aj (f,(g,j)) ⟨hf,h3⟩ ⟨Am (by decide),?_⟩)
  have q':=q _ rfl
  dsimp only [mov] at q'
  have em:val f (e+g,i+j) - val f (e,i) - val f (g,j)=mid f (e,i) (g,j):=by
    obtain ⟨a,b,c⟩:=f
    simp only [val,mid];grind
  rw [em]
  exact q'
noncomputable def ZM (sort both:Int) (b last:Int):Prop:=(sort.fmod 3 < 2→b*b - 4*(both*last) < 0∧Bt 121 b∧Bt 123 last)∧(¬ sort.fmod 3 < 2→0≤b*b - 4*(both*last)∧b*b - 4*(both*last)≤4000∧Bt 121 b∧Bt 123 last)
noncomputable abbrev MJ:DSp:=spec (fun p:List Int × I3=>[.lst (p.1.map Dt.int),.int p.2.1,.int p.2.2.1,.int p.2.2.2]) (fun p=>0 < p.2.2.1∧0 < p.2.2.2∧p.2.2.2≤10 ^ 12∧p.2.2.1 < 2 ^ 120∧(¬ p.2.1.fmod 3 < 2→p.2.2.1≤1000)) fun p d=>∃ b last,d=.lst [.int b,.int last]∧ZM p.2.1 p.2.2.1 b last
theorem Uq (T:Txt K mg)
    (G__law_cell:Pm P w K mg base 1 "_law_cell" Dd ["_law_script","_law_k"] Fx)
    : Pm P w K mg base 2 "_law_sum" Gb ["_law_script","_law_sort","_law_both","_law_size"] MJ:=by
  obtain ⟨f,fd,F⟩:=T.t__law_sum
  refine ⟨f,fd,F,F.fn.okD Hq (by walk_at "lE") fun cdv A outer s H E hr=>⟨_,(Ad (Al 4 Hq.nd (Dz (Ag Af G__law_cell (hr.mono (by decide)) rfl (Aa (dv 0) (Aa Ab Ae))) (Ak Ab (dv 2)))) (Ad (Ca (Jx (Dz (dv 1) Ab) Ab) (Ah (Aq (G8 (Aa (Bl (dv 4) (dv 2)) (Aa (Bh (Bh (Bu (Ak (Bl (dv 4) (dv 2)) (Bl (dv 4) (dv 2))) (Ak Ab (dv 2))) Ab) (Dz (Ag Af G__law_cell (hr.mono (by decide)) rfl (Aa (dv 0) (Aa Ab Ae))) (dv 3))) Ae))))) Bd) (Ad (Al 5 Hq.nd (Dz (Ak (dv 4) (dv 4)) (Ak Ab (dv 2)))) (Ad (Al 6 Hq.nd (Bh (dv 5) (Ak (Ak Ab (dv 2)) (Dz (Ag Af G__law_cell (hr.mono (by decide)) rfl (Aa (dv 0) (Aa Ab Ae))) (Bh Ab (Bu (Bl Ab (dv 5)) (Ak Ab (dv 2)))))))) (Ah (Aq (G8 (Aa (dv 4) (Aa (Bu (Bl (Ak (dv 4) (dv 4)) (dv 6)) (Ak Ab (dv 2))) Ae))))))))),fun ds Q h=>?_⟩⟩
  obtain ⟨⟨ns,sort,both,size⟩,rfl,⟨h1,h2,h3,h4,h5⟩,q⟩:=h
  have h1:0 < both:=h1
  have h2:0 < size:=h2
  have h3:size≤10 ^ 12:=h3
  have h4:both < 2 ^ 120:=h4
  have h5:¬ sort.fmod 3 < 2→both≤1000:=h5
  have q:∀ d,(∃ b last,d=.lst [.int b,.int last]∧ZM sort both b last)→Q d:=q
  have bb:Bt 120 both:=Bt.of (by omega) (by omega)
  have two:Bt 2 2:=Bt.of_abs (by decide)
  have four:Bt 3 4:=Bt.of_abs (by decide)
  have e12:(10:Int) ^ 12=1000000000000:=by decide
  walk_at "go"
  refine Io ns 5 (by decide) ⟨two.mulOk bb,?_⟩
  have rb:=Ew (ns.getD (Int.toNat 5) 0) (m:=2*both) (by omega)
  refine ⟨by omega,by decide,Eb (fun hw=>?_) (fun hw=>?_)⟩
  · generalize (ns.getD (Int.toNat 5) 0).fmod (2*both)=x at *
    have hw:=of_decide_eq_true hw
    obtain ⟨b,eb,b1,b2⟩:∃ b,x - both=b∧-both≤b∧b < both:=⟨_,rfl,by omega,by omega⟩
    rw [eb]
    have Bb:Bt 121 b:=Bt.of (by omega) (by omega)
    have rc:=Ew (ns.getD (Int.toNat 1) 0) (m:=size) h2
    refine ⟨Bb.mulOk Bb,four.mulOk bb,Bt.divOk (four.mul bb) (by omega),Io ns 1 (by decide) ⟨by omega,Am (by decide),q _ ⟨b,_,rfl,fun _=>?_,fun z=>absurd hw z⟩⟩⟩
    generalize (ns.getD (Int.toNat 1) 0).fmod size=c at *
    have hr:=Ew (b*b) (m:=4*both) (by omega)
    have hk:=Int.fmod_def (b*b) (4*both)
    generalize (b*b).fdiv (4*both)=k at *
    generalize (b*b).fmod (4*both)=r at *
    have e1:4*(both*(k+1+c))=4*both*k+4*both+4*(both*c):=by grind
    have p1:=Int.mul_nonneg (show 0≤both by omega) rc.1
    have bbl:b*b≤both*both:=by
      rcases Int.le_total 0 b with z | z
      · exact Int.mul_le_mul (by omega) (by omega) z (by omega)
      · have:=Int.mul_le_mul (show -b≤both by omega) (show -b≤both by omega) (by omega) (by omega)
        have e:-b * -b=b*b:=by grind
        omega
    have sq:=sq_nonneg b
    have k4:4*k≤both:=by
      rcases Int.lt_or_le both (4*k) with z | z
      · have:=Int.mul_lt_mul_of_pos_left z h1
        have e:both*(4*k)=4*both*k:=by grind
        omega
      · exact z
    have k0:0≤k:=by
      rcases Int.lt_or_le k 0 with z | z
      · have:=Int.mul_le_mul_of_nonneg_left (show k≤-1 by omega) (show 0≤4*both by omega)
        omega
      · exact z
    exact ⟨by omega,Bb,Bt.of (by omega) (by omega)⟩
  · generalize (ns.getD (Int.toNat 5) 0).fmod (2*both)=x at *
    have hw:¬ sort.fmod 3 < 2:=fun z=>hw (decide_eq_true z)
    have b10:=h5 hw
    have Bx:Bt 121 x:=Bt.of (by omega) (by omega)
    have hr:=Ew (x*x) (m:=4*both) (by omega)
    have hk:=Int.fmod_def (x*x) (4*both)
    have hd:=Int.fmod_def (4000 - (x*x).fmod (4*both)) (4*both)
    have hd2:=Ew (4000 - (x*x).fmod (4*both)) (m:=4*both) (by omega)
    have sq:=sq_nonneg x
    have xx:x*x≤4*both*both:=by
      have:=Int.mul_le_mul (show x≤2*both by omega) (show x≤2*both by omega) rb.1 (by omega)
      have e:2*both*(2*both)=4*both*both:=by grind
      omega
    refine ⟨Bx.mulOk Bx,four.mulOk bb,by omega,four.mulOk bb,Io ns 1 (by decide) ⟨four.mulOk bb,Bt.divOk (four.mul bb) (by omega),?_⟩⟩
    dsimp only
    generalize (x*x).fdiv (4*both)=k at *
    generalize (x*x).fmod (4*both)=r at *
    have hm0:0≤(4000 - r).fdiv (4*both):=Int.fdiv_nonneg (by omega) (by omega)
    generalize (4000 - r).fdiv (4*both)=n at *
    generalize (4000 - r).fmod (4*both)=s at *
    have rc:=Ew (ns.getD (Int.toNat 1) 0) (m:=1+n) (by omega)
    generalize (ns.getD (Int.toNat 1) 0).fmod (1+n)=c at *
    have cn:=Int.mul_le_mul_of_nonneg_left (show c≤n by omega) (show 0≤4*both by omega)
    have c0:=Int.mul_nonneg (show 0≤4*both by omega) rc.1
    have n4:n≤4000:=by
      have:=Int.mul_le_mul_of_nonneg_right (show 1≤4*both by omega) hm0
      omega
    have k0:0≤k:=by
      rcases Int.lt_or_le k 0 with z | z
      · have:=Int.mul_le_mul_of_nonneg_left (show k≤-1 by omega) (show 0≤4*both by omega)
        omega
      · exact z
    have kb:k≤both:=by
      rcases Int.lt_or_le both k with z | z
      · have:=Int.mul_lt_mul_of_pos_left z (show 0 < 4*both by omega)
        omega
      · exact z
    have el:(x*x - (r+4*both*c)).fdiv (4*both)=k - c:=by
      have:x*x - (r+4*both*c)=4*both*(k - c):=by
        have:4*both*(k - c)=4*both*k - 4*both*c:=by grind
        omega
      rw [this]
      exact Int.mul_fdiv_cancel_left _ (by omega)
    have bc:Bt 20 c:=Bt.of (by omega) (by omega)
    have e4:4*(both*(k - c))=4*both*k - 4*both*c:=by grind
    refine ⟨by omega,(four.mul bb).mulOk bc,Bx.mulOk Bx,four.mulOk bb,Bt.divOk (four.mul bb) (by omega),Am (by decide),q _ ⟨x,_,rfl,fun z=>absurd z hw,fun _=>?_⟩⟩
    rw [el]
    exact ⟨by omega,by omega,Bx,Bt.of (by omega) (by omega)⟩
noncomputable def Eu:List Int→Int
  | []=>1
  | x :: xs=>x*Eu xs
theorem Iu (x:Int):∀ l:List Int,Eu (l ++ [x])=Eu l*x
  | []=>by simp [Eu]
  | y :: l=>by
    show y*Eu (l ++ [x])=y*Eu l*x
    rw [Iu x l];grind
theorem Hs {a b:Int} (h0:0≤a) (h:a≤b):∀ n:Nat,a ^ n≤b ^ n
  | 0=>by simp
  | n+1=>by
    rw [Int.pow_succ,Int.pow_succ]
    exact Int.mul_le_mul (Hs h0 h n) h h0 (Int.pow_nonneg (by omega))
theorem T8 {S:Int} (s0:0 < S):∀ l:List Int,(∀ x∈l,1≤x∧x≤S)→1≤Eu l∧Eu l≤S ^ l.length
  | [],_=>by simp [Eu]
  | x :: l,h=>by
    have hx:=h x List.mem_cons_self
    have ih:=T8 s0 l fun y hy=>h y (List.mem_cons_of_mem _ hy)
    have e:S ^ (x :: l).length=S*S ^ l.length:=by rw [List.length_cons,Int.pow_succ];grind
    rw [e]
    refine ⟨?_,Int.mul_le_mul hx.2 ih.2 (by omega) (by omega)⟩
    have:=Int.mul_le_mul hx.1 ih.1 (by decide) (by omega)
    show 1≤x*Eu l
    omega
theorem Rh {x:Int}:∀ {l:List Int},x∈l→x∣Eu l
  | y :: l,h=>by
    rcases List.mem_cons.mp h with rfl | h
    · exact Int.dvd_mul_right ..
    · exact Int.dvd_trans (Rh h) (Int.dvd_mul_left ..)
structure Uni (m:Nat) (b tot:Int) (ps:List Int):Prop where
  len:ps.length=m
  ne:∀ p∈ps,p≠0∧p∣tot∧g3 (p,b,tot.fdiv p)=1∧B3 245 (p,b,tot.fdiv p)
  pr:Eu ps∣tot
  me:(b*b - 4*tot < 0∧∀ p∈ps,0 < p)∨(0≤b*b - 4*tot∧b*b - 4*tot≤4000)
noncomputable abbrev Jp:DSp:=spec (fun p:List Int × Nat=>[.lst (p.1.map Dt.int),.int p.2]) (fun p=>p.2=2∨p.2=3) fun p d=>∃ b tot ps,d=.lst (ps.map fun x=>t3 (x,b,tot.fdiv x))∧Uni p.2 b tot ps
theorem Oe (T:Txt K mg)
    (G__law_cell:Pm P w K mg base 1 "_law_cell" Dd ["_law_script","_law_k"] Fx)
    (G__law_sum:Pm P w K mg base 2 "_law_sum" Gb ["_law_script","_law_sort","_law_both","_law_size"] MJ)
    (G__law_rest:Pm P w K mg base 1 "_law_rest" Fl ["_law_one","_law_other"] K3)
    : Pm P w K mg base 3 "_law_united" CJ ["_law_script","_law_many"] Jp:=by
  obtain ⟨f,fd,F⟩:=T.t__law_united
  refine ⟨f,fd,F,F.fn.okD Ay (by walk_at "lE") fun cdv A outer s H E hr=>⟨_,(Ad (Al 2 Ay.nd (Ag Af G__law_cell (hr.mono (by decide)) rfl (Aa (dv 0) (Aa Ab Ae)))) (Ad (Al 3 Ay.nd (Ac (G8 (Aa Ab (Aa Ab Ae))) (Bl (dv 1) Ab))) (Ad (Ca (Jx (Dz (dv 2) Ab) Ab) (Ah (Al 3 Ay.nd (Ac (G8 (Aa (Vr Ab Ab) (Aa Ab Ae))) (Dz (Bu (dv 2) Ab) Ab)))) Bd) (Ad (Xl 4 Ay.nd (Fg (sc:=Ai CJ) (NN:=["_law_script","_law_many","_law_sort","_law_size","_law_pieces","_law_both","_law_piece","_law_b","_law_last","_law_total","_law_forms","_law_k"]) (x:="_law_k") (N:=["_law_size","_law_script"]) (sl:=[3,0]) rfl rfl (by decide +kernel)) rfl (Nv rfl T.z_range (Aa (dv 1) Ae)) (fun cl C s0 H0 ex=>(Bh Ab (Dz (Ag Af G__law_cell (hr.mono (by decide)) rfl (Aa (dv 2) (Aa (Bh Ab (dv 0)) Ae))) (dv 1))))) (Ad (Al 5 Ay.nd Ab) (Ad (Og PassesOwn.never rfl (Ml (dv 4)) (Bc 6 Ay.nd) (Ah (Al 5 Ay.nd (Ak (dv 5) (dv 6))))) (Ad (Hy (Ag Af G__law_sum (hr.mono (by decide)) rfl (Aa (dv 0) (Aa (dv 2) (Aa (dv 5) (Aa (dv 3) Ae))))) (Vi (n:=2) rfl (Az (Bc 7 Ay.nd) (Az (Bc 8 Ay.nd) Ez)))) (Ad (Al 9 Ay.nd (Ak (dv 5) (dv 8))) (Ad (ZV 10 Ay.nd Ae) (Ad (Og PassesOwn.never rfl (Nv rfl T.z_range (Aa (dv 1) Ae)) (Bc 11 Ay.nd) (Ad (Al 6 Ay.nd (Ac (dv 4) (dv 11))) (Ad (Ca (DW.dt (Rr (Le hr.units (Dz (dv 2) Ab) Ab) (Nt (Le hr.units (Dz (Bu (Bu (dv 2) Ab) (Bh (Ak Ab (dv 11)) Ab)) Ab) Ab)))) (Ah (Al 6 Ay.nd (Bl Ab (dv 6)))) Bd) (Ad (Ca (QG (Ag Af G__law_rest (hr.mono (by decide)) rfl (Aa (Ag Af G__law_rest (hr.mono (by decide)) rfl (Aa (dv 6) (Aa (dv 7) Ae))) (Aa (Bu (dv 9) (dv 6)) Ae))) Ab) (Ah (Al 6 Ay.nd Ab)) Bd) (Ah (Wc 10 (Ba (Aa (dv 6) (Aa (dv 7) (Aa (Bu (dv 9) (dv 6)) Ae)))))))))) (Ah (Aag 10 (Aq (dv 10)))))))))))))),fun ds Q h=>?_⟩⟩
  obtain ⟨⟨ns,m⟩,rfl,hm,q⟩:=h
  have hm:m=2∨m=3:=hm
  have q:∀ d,(∃ b tot ps,d=.lst (ps.map fun x=>t3 (x,b,tot.fdiv x))∧Uni m b tot ps)→Q d:=q
  have c12:Vz 10 12:=⟨by decide,by decide,by decide⟩
  have e12:(10 ^ Int.toNat 12:Int)=1000000000000:=by decide
  have e12':(10:Int) ^ 12=1000000000000:=by decide
  walk_at "go"
  refine Io ns 0 (by decide) ⟨Am (by decide),?_⟩
  have hs1:∃ z,ixD ((m:Int) - 2) (Dt.lst [Dt.int 30,Dt.int 9])=some (Dt.int z)∧((m=2∧z=30)∨(m=3∧z=9)):=by
    rcases hm with rfl | rfl
    · exact ⟨30,rfl,.inl ⟨rfl,rfl⟩⟩
    · exact ⟨9,rfl,.inr ⟨rfl,rfl⟩⟩
  obtain ⟨z0,ez,hz⟩:=hs1
  rw [ez]
  dsimp only
  generalize ns.getD (Int.toNat 0) 0=sort at *
  refine ⟨by decide,Eb (fun hw=>?_) (fun hw=>?_)⟩
  case' refine_1 =>
    have hw:=of_decide_eq_true hw
    have r2:=Ew (sort.fdiv 3) (m:=2) (by decide)
    obtain ⟨size,ej,hj⟩:=Acw (zs:=[10 ^ Int.toNat 12,50]) (P:=fun z=>0 < z∧z≤10 ^ 12) r2.1 r2.2 (by
      simp only [List.mem_cons,List.not_mem_nil,or_false]
      rintro z (rfl | rfl)
      · rw [e12,e12'];decide
      · rw [e12'];decide)
    simp only [List.map_cons,List.map_nil] at ej
    refine ⟨c12,Am (by decide),⟨by decide,by decide⟩,by decide,?_⟩
    rw [ej]
    dsimp only
    have hS:0 < size∧size≤10 ^ 12∧(¬ sort.fmod 3 < 2→(m=2∧size≤30)∨(m=3∧size≤9)):=⟨hj.1,hj.2,fun z=>absurd hw z⟩
  case' refine_2 =>
    obtain ⟨size,es,hS⟩:∃ size,z0=size∧(0 < size∧size≤10 ^ 12∧(¬ sort.fmod 3 < 2→(m=2∧size≤30)∨(m=3∧size≤9))):=⟨z0,rfl,by omega,by omega,fun _=>by omega⟩
    rw [es]
  all_goals
    obtain ⟨s0,s12,s3⟩:=hS
    refine FZ (ups 0 m) (fun d=>match d with | .int k=>.int (1+(ns.getD (2+k).toNat 0).fmod size) | _=>.non) (fun R h=>?_) (by rw [RW];exact Am (by omega)) (CG rfl (CG rfl DQ)) (fun d hd R hR=>?_) ?_
    · walk_at "rd"
      exact ⟨⟨by omega,by omega⟩,h⟩
    · obtain ⟨k,hk⟩:=List.getElem?_of_mem hd
      obtain ⟨hk,rfl⟩:=Ti hk
      unfold inner
      walk_at "rd"
      refine Io ns _ (by omega) ⟨by omega,hR⟩
    obtain ⟨pc,epc,lpc,hpc⟩:∃ pc:List Int,(ups 0 m).map (fun d=>match d with | .int k=>Dt.int (1+(ns.getD (2+k).toNat 0).fmod size) | _=>.non)=pc.map Dt.int∧pc.length=m∧∀ x∈pc,1≤x∧x≤size:=by
      refine ⟨(List.range m).map fun (k:Nat)=>1+(ns.getD (2+(0+(k:Int))).toNat 0).fmod size,by unfold ups;rw [List.map_map,List.map_map];rfl,by simp,fun x hx=>?_⟩
      obtain ⟨k,_,rfl⟩:=List.mem_map.mp hx
      have:=Ew (ns.getD (2+(0+(k:Int))).toNat 0) s0
      omega
    rw [epc]
    have pw:∀ i,i≤m→1≤Eu (pc.take i)∧Eu (pc.take i)≤size ^ i:=fun i hi=>by
      have:=T8 s0 (pc.take i) fun x hx=>hpc x (List.mem_of_mem_take hx)
      rw [List.length_take,Nat.min_eq_left (by omega)] at this
      exact this
    have pB:∀ i,i≤m→Bt 120 (Eu (pc.take i)):=fun i hi=>by
      have h1:=pw i hi
      have h2:size ^ i≤(10 ^ 12) ^ 3:=by
        have a1:size ^ i≤(10 ^ 12) ^ i:=Hs (by omega) s12 i
        have a2:((10:Int) ^ 12) ^ i≤(10 ^ 12) ^ 3:=by
          rcases (show i=0∨i=1∨i=2∨i=3 by omega) with rfl | rfl | rfl | rfl <;> decide
        omega
      have h3:((10:Int) ^ 12) ^ 3 < 2 ^ 120:=by decide
      exact Bt.of (by omega) (by omega)
    refine Lk (pc.map Dt.int) (fun R h=>h) (fun i ρ=>∃ x:Option En,ρ=[some (En.is (Dt.lst (List.map Dt.int ns))),some (En.is (Dt.int ↑m)),some (En.is (Dt.int sort)),some (En.is (Dt.int size)),some (En.is (Dt.lst (pc.map Dt.int))),some (En.is (Dt.int (Eu (pc.take i)))),x,none,none,none,none,none]) ⟨none,rfl⟩ ?_ ?_
    · rintro i d _ hi ⟨x,rfl⟩
      obtain ⟨p,hp,rfl⟩:=ints_get hi
      have il:i < pc.length:=(List.getElem?_eq_some_iff.mp hp).1
      have pp:=hpc p (List.mem_of_getElem? hp)
      have bp:Bt 41 p:=Bt.of (by omega) (by omega)
      walk_at "rd"
      refine ⟨(pB i (by omega)).mulOk bp,some (En.is (Dt.int p)),?_⟩
      rw [show pc.take (i+1)=pc.take i ++ [p] by rw [List.take_succ,hp];rfl,Iu]
    · rintro _ ⟨x,rfl⟩
      dsimp only
      rw [List.length_map,List.take_length]
      have b1:=pw m (Nat.le_refl _)
      have b2:=pB m (Nat.le_refl _)
      rw [←lpc,List.take_length] at b1 b2
      generalize hboth:Eu pc=both at *
      have both10:¬ sort.fmod 3 < 2→both≤1000:=fun z=>by
        have h1:=s3 z
        rcases h1 with ⟨rfl,h1⟩ | ⟨rfl,h1⟩
        · have:=Hs (show 0≤size by omega) h1 2
          rw [lpc] at b1
          have e:(30:Int) ^ 2=900:=by decide
          omega
        · have:=Hs (show 0≤size by omega) h1 3
          rw [lpc] at b1
          have e:(9:Int) ^ 3=729:=by decide
          omega
      have blt:both < 2 ^ 120:=by unfold Bt at b2;omega
      walk_at "rd"
      refine Br (ns,sort,both,size) ⟨by show 0 < both;omega,s0,s12,blt,both10⟩ ?_
      rintro _ ⟨b,last,rfl,hSum⟩
      have hSum:ZM sort both b last:=hSum
      obtain ⟨bb,bl,bme⟩:Bt 121 b∧Bt 123 last∧((b*b - 4*(both*last) < 0∧sort.fmod 3 < 2)∨(0≤b*b - 4*(both*last)∧b*b - 4*(both*last)≤4000)):=by
        by_cases z:sort.fmod 3 < 2
        · have:=hSum.1 z;exact ⟨this.2.1,this.2.2,.inl ⟨this.1,z⟩⟩
        · have:=hSum.2 z;exact ⟨this.2.2.1,this.2.2.2,.inr ⟨this.1,this.2.1⟩⟩
      walk_at "rd"
      refine ⟨b2.mulOk bl,Am (by decide),?_⟩
      obtain ⟨tot,etot⟩:∃ tot,both*last=tot:=⟨_,rfl⟩
      have btot:Bt 243 tot:=by rw [←etot];exact (b2.mul bl).le (by decide)
      rw [etot] at bme ⊢
      have dtot:both∣tot:=⟨last,etot.symm⟩
      have form_ok:∀ p:Int,p≠0→p∣both→Bt 41 p→p∣tot∧B3 245 (p,b,tot.fdiv p):=fun p h1 h2 h3=>⟨Int.dvd_trans h2 dtot,h3.le (by decide),bb.le (by decide),(Gm btot h1).le (by decide)⟩
      refine Lk (ups 0 m) (fun R h=>?_) (fun i ρ=>∃ (ps:List Int) (x y:Option En),ρ=[some (En.is (Dt.lst (List.map Dt.int ns))),some (En.is (Dt.int ↑m)),some (En.is (Dt.int sort)),some (En.is (Dt.int size)),some (En.is (Dt.lst (pc.map Dt.int))),some (En.is (Dt.int both)),x,some (En.is (Dt.int b)),some (En.is (Dt.int last)),some (En.is (Dt.int tot)),some (En.own (ps.map fun x=>t3 (x,b,tot.fdiv x))),y]∧ps.length=i∧(∀ p∈ps,p≠0∧p∣tot∧g3 (p,b,tot.fdiv p)=1∧B3 245 (p,b,tot.fdiv p))∧Eu ps∣Eu (pc.take i)∧(sort.fmod 3 < 2→∀ p∈ps,0 < p)) ⟨[],_,_,rfl,rfl,fun _ h=>(nomatch h),⟨1,rfl⟩,fun _ _ h=>(nomatch h)⟩ ?_ ?_
      · walk_at "rd"
        exact ⟨⟨by omega,by omega⟩,h⟩
      · rintro i d _ hi ⟨ps,x1,y1,rfl,lps,hps,dps,sps⟩
        obtain ⟨im,rfl⟩:=Ti hi
        have il:i < pc.length:=by omega
        obtain ⟨p,hp⟩:∃ p,pc[i]? = some p:=⟨pc[i],by simp [il]⟩
        have ep:pc.getD (0+(i:Int)).toNat 0=p:=by
          rw [show (0+(i:Int)).toNat=i by omega]
          simp [List.getD,hp]
        have pp:=hpc p (List.mem_of_getElem? hp)
        have bp:Bt 41 p:=Bt.of (by omega) (by omega)
        have pd:p∣both:=by rw [←hboth];exact Rh (List.mem_of_getElem? hp)
        have tk:pc.take (i+1)=pc.take i ++ [p]:=by rw [List.take_succ,hp];rfl
        have two:Bt 2 2:=Bt.of_abs (by decide)
        have bi:Bt 3 (0+(i:Int)):=Bt.of (by omega) (by omega)
        walk_at "rd"
        rw [RN (by omega) (by omega),ep]
        dsimp only
        have last':∀ p':Int,p'≠0→p'∣p→Bt 41 p'→(sort.fmod 3 < 2→0 < p')→g3 (p',b,tot.fdiv p')=1→∀ x2 y2:Option En,CDv tot p'∧3≤sizeLine∧ps.length < sizeLine∧∃ (ps_1:List Int) (x y:Option En),[some (En.is (Dt.lst (List.map Dt.int ns))),some (En.is (Dt.int ↑m)),some (En.is (Dt.int sort)),some (En.is (Dt.int size)),some (En.is (Dt.lst (pc.map Dt.int))),some (En.is (Dt.int both)),x2,some (En.is (Dt.int b)),some (En.is (Dt.int last)),some (En.is (Dt.int tot)),some (En.own ((ps.map fun x=>t3 (x,b,tot.fdiv x)) ++ [Dt.tup [Dt.int p',Dt.int b,Dt.int (tot.fdiv p')]])),y2]=[some (En.is (Dt.lst (List.map Dt.int ns))),some (En.is (Dt.int ↑m)),some (En.is (Dt.int sort)),some (En.is (Dt.int size)),some (En.is (Dt.lst (pc.map Dt.int))),some (En.is (Dt.int both)),x,some (En.is (Dt.int b)),some (En.is (Dt.int last)),some (En.is (Dt.int tot)),some (En.own (ps_1.map fun x=>t3 (x,b,tot.fdiv x))),y]∧ps_1.length=i+1∧(∀ p∈ps_1,p≠0∧p∣tot∧g3 (p,b,tot.fdiv p)=1∧B3 245 (p,b,tot.fdiv p))∧Eu ps_1∣Eu (pc.take (i+1))∧(sort.fmod 3 < 2→∀ p∈ps_1,0 < p):=fun p' h1 h2 h3 h4 h5 x2 y2=>by
          refine ⟨Bt.divOk h3 h1,Am (by decide),Nat.lt_of_lt_of_le (show ps.length < 1000 by omega) (Am (by decide)),ps ++ [p'],x2,y2,by rw [List.map_append];rfl,by rw [List.length_append,lps];rfl,fun r hr=>?_,?_,fun z r hr=>?_⟩
          · rcases List.mem_append.mp hr with hr | hr
            · exact hps r hr
            · rw [List.mem_singleton.mp hr]
              have:=form_ok p' h1 (Int.dvd_trans h2 pd) h3
              exact ⟨h1,this.1,h5,this.2⟩
          · rw [tk,Iu,Iu]
            exact Int.mul_dvd_mul dps h2
          · rcases List.mem_append.mp hr with hr | hr
            · exact sps z r hr
            · rw [List.mem_singleton.mp hr];exact h4 z
        refine ⟨by decide,Eb (fun h1=>⟨⟨by decide,by decide⟩,two.mulOk bi,Bt.divOk (n:=10) (Bt.of (by omega) (by omega)) (by omega),by decide,Eb (fun _=>?_) (fun _=>?_)⟩) (fun h1=>?_)⟩
        case' refine_1 =>
          have h1:=of_decide_eq_true h1
          obtain ⟨p',ep',f1,f2,f3,f4⟩:∃ p',0 - p=p'∧p'≠0∧p'∣p∧Bt 41 p'∧(sort.fmod 3 < 2→0 < p'):=⟨_,rfl,by omega,⟨-1,by omega⟩,Bt.of (by omega) (by omega),fun z=>by omega⟩
          rw [ep']
        case' refine_2 =>
          obtain ⟨p',ep',f1,f2,f3,f4⟩:∃ p',p=p'∧p'≠0∧p'∣p∧Bt 41 p'∧(sort.fmod 3 < 2→0 < p'):=⟨_,rfl,by omega,⟨1,by omega⟩,bp,fun z=>by omega⟩
          rw [ep']
        case' refine_3 =>
          obtain ⟨p',ep',f1,f2,f3,f4⟩:∃ p',p=p'∧p'≠0∧p'∣p∧Bt 41 p'∧(sort.fmod 3 < 2→0 < p'):=⟨_,rfl,by omega,⟨1,by omega⟩,bp,fun z=>by omega⟩
          rw [ep']
        all_goals
          refine Aj (p',b) trivial ⟨Bt.divOk f3 f1,Aj (((Int.gcd p' b:Nat):Int),tot.fdiv p') trivial ?_⟩
          refine Eb (fun _=>last' 1 (by decide) ⟨p,by omega⟩ (Bt.one.le (by decide)) (fun _=>by decide) ?_ _ _) (fun hg=>last' p' f1 f2 f3 f4 ?_ _ _)
          · unfold g3
            simp
          · have hg:=fun z=>hg (decide_eq_true z)
            have g0:=AeL (f:=(p',b,tot.fdiv p')) f1
            have hg:¬ (1:Int) < ((g3 (p',b,tot.fdiv p'):Nat):Int):=hg
            omega
      · rintro _ ⟨ps,x1,y1,rfl,lps,hps,dps,sps⟩
        rw [RW] at lps dps
        dsimp only
        walk_at "rd"
        refine q _ ⟨b,tot,ps,rfl,lps,hps,?_,?_⟩
        · rw [←lpc,List.take_length,hboth] at dps
          exact Int.dvd_trans dps dtot
        · rcases bme with ⟨z1,z2⟩ | z
          · exact .inl ⟨z1,sps z2⟩
          · exact .inr z
theorem AaJ (ds:List Dt) (k:Nat) (h:k≤ds.length):cutD ds (some (k:Int)) none=ds.drop k:=by
  unfold cutD
  rw [HT.W2,HT.TV,Nat.min_eq_left h,List.take_of_length_le (by rw [List.length_drop];omega)]
theorem ZF (ds:List Dt) (k:Nat) (h:k≤ds.length):cutD ds none (some (k:Int))=ds.take k:=by
  unfold cutD
  rw [HT.W2,HT.TV,Nat.min_eq_left h,List.drop_zero,Nat.sub_zero]
theorem Vd (cs:List Int):∃ u v:List Int,cutD (cs.map Dt.int) none (some ((((cs.map Dt.int).length:Nat):Int).fdiv 2))=u.map Dt.int∧cutD (cs.map Dt.int) (some ((((cs.map Dt.int).length:Nat):Int).fdiv 2)) none=v.map Dt.int∧u.length=cs.length / 2∧v.length=cs.length - cs.length / 2:=by
  have e:(((cs.map Dt.int).length:Nat):Int).fdiv 2=((cs.length / 2:Nat):Int):=by
    rw [List.length_map,Int.fdiv_eq_ediv_of_nonneg _ (by decide)]
    omega
  have l:cs.length / 2≤(cs.map Dt.int).length:=by rw [List.length_map];omega
  rw [e,ZF _ _ l,AaJ _ _ l]
  exact ⟨cs.take (cs.length / 2),cs.drop (cs.length / 2),by rw [List.map_take],by rw [List.map_drop],by rw [List.length_take];omega,by rw [List.length_drop]⟩
theorem JN {f:I3}:meas (f.1,0 - f.2.1,f.2.2)=meas f:=by
  show (0 - f.2.1)*(0 - f.2.1) - 4*f.1*f.2.2=f.2.1*f.2.1 - 4*f.1*f.2.2
  grind
theorem AdJ {f:I3}:g3 (f.1,0 - f.2.1,f.2.2)=g3 f:=by
  unfold g3
  rw [Int.zero_sub]
  simp
theorem Pg {f:I3} {t:I4} (h:Bo f∨Sad f) (dt:det t=1):Bo (mov f t)∨Sad (mov f t):=by
  rcases h with h | h
  · exact .inl (KN h dt)
  · exact .inr (h.mov dt)
theorem Aif {f h:I3} {n m:Nat} (bf:Bt n f.1) (bh:Bt m h.1) (ha:f.1≠0):Bt (n+m) (jA f h (gJ f h)):=by
  have g0:=Mt (h:=h) ha
  obtain ⟨x,hx⟩:=(Kp (f:=f) (h:=h)).1
  obtain ⟨y,hy⟩:=(Kp (f:=f) (h:=h)).2.1
  have e:f.1*h.1=gJ f h*gJ f h*(x*y):=by
    have:f.1*h.1=(gJ f h*x)*(gJ f h*y):=by rw [←hx,←hy]
    rw [this];grind
  unfold jA
  rw [e,Int.mul_fdiv_cancel_left _ (Int.mul_ne_zero (by omega) (by omega))]
  refine Rg (b:=gJ f h*gJ f h) ?_ (Int.mul_ne_zero (by omega) (by omega))
  rw [Int.mul_comm,←e]
  exact bf.mul bh
theorem Pair.of {f h:I3} (bf:B3 690 f) (bh:B3 690 h) (kf:Bo f∨Sad f) (kh:Bo h∨Sad h) (m:meas f=meas h) (pf:g3 f=1) (ph:g3 h=1) (bm:Bt 600 (meas f)):Pair f h :=
  ⟨bf.le (by decide),bh.le (by decide),kf,kh,m,pf,ph,bm,(Aif bf.1 bh.1 (Fe kf)).le (by decide)⟩
theorem Jy.same {f h:I3} {t u:I4} {d e:Dt} (A:Jy f h d) (B:Jy (mov f t) (mov h u) e) (dt:det t=1) (du:det u=1) (pf:g3 f=1):∃ G p q r s,d=.tup [t3 G,Er p q]∧e=.tup [t3 G,Er r s]:=by
  obtain ⟨F,G,p,q,c1,L1,_,_,_,e1,_⟩:=A
  obtain ⟨F',G',r,s,c2,L2,_,_,_,e2,_⟩:=B
  obtain ⟨x,dx,ex⟩:=((c1.movL dt).movR du).same c2 (by rw [Tn dt];exact pf)
  have eG:G=G':=L1.same L2 dx ex
  subst eG
  exact ⟨G,p,q,r,s,e1,e2⟩
theorem Jy.turn {f h:I3} {t u:I4} {d e:Dt} (A:Jy f h d) (B:Jy (mov h u) (mov f t) e) (dt:det t=1) (du:det u=1) (pf:g3 f=1):∃ G p q r s,d=.tup [t3 G,Er p q]∧e=.tup [t3 G,Er r s]:=by
  obtain ⟨F,G,p,q,c1,L1,_,_,_,e1,_⟩:=A
  obtain ⟨F',G',r,s,c2,L2,_,_,_,e2,_⟩:=B
  obtain ⟨x,dx,ex⟩:=((c1.movL dt).movR du).same c2.swap (by rw [Tn dt];exact pf)
  have eG:G=G':=L1.same L2 dx ex
  subst eG
  exact ⟨G,p,q,r,s,e1,e2⟩
theorem Aex {ps:List Int} (h:ps.length=2):∃ a b,ps=[a,b]:=by
  match ps,h with
  | [a,b],_=>exact ⟨a,b,rfl⟩
theorem U0 {p b tot:Int} (h0:p≠0) (h:p∣tot):meas (p,b,tot.fdiv p)=b*b - 4*tot:=by
  obtain ⟨k,rfl⟩:=h
  rw [Int.mul_fdiv_cancel_left _ h0]
  show b*b - 4*p*k=_
  grind
structure Akf (f h:I3) (b tot x y:Int):Prop where
  mf:meas f=b*b - 4*tot
  mh:meas h=b*b - 4*tot
  pf:g3 f=1
  ph:g3 h=1
  bf:B3 245 f
  bh:B3 245 h
  bm:Bt 600 (meas f)
  bowl:b*b - 4*tot < 0→Bo f∧Bo h
  sad:0≤b*b - 4*tot→¬ JQ (b*b - 4*tot)→Sad f∧Sad h
  one:∃ e,tot=x*y*e∧f=(x,b,y*e)∧h=(y,b,x*e)
theorem Abi {b tot x y:Int} {f h:I3} (U:Uni 2 b tot [x,y]) (ef:(x,b,tot.fdiv x)=f) (eh:(y,b,tot.fdiv y)=h):Akf f h b tot x y:=by
  have hx:=U.ne x (by simp)
  have hy:=U.ne y (by simp)
  have mf:meas f=b*b - 4*tot:=by rw [←ef];exact U0 hx.1 hx.2.1
  have mh:meas h=b*b - 4*tot:=by rw [←eh];exact U0 hy.1 hy.2.1
  have bf:B3 245 f:=by rw [←ef];exact hx.2.2.2
  have four:Bt 3 4:=Bt.of_abs (by decide)
  refine ⟨mf,mh,by rw [←ef];exact hx.2.2.1,by rw [←eh];exact hy.2.2.1,bf,by rw [←eh];exact hy.2.2.2,((bf.2.1.mul bf.2.1).sub (((four.mul bf.1).mul bf.2.2).le (m:=500) (by decide))).le (by decide),fun z=>?_,fun z n=>?_,?_⟩
  · rcases U.me with ⟨_,w⟩ | ⟨w,_⟩
    · exact ⟨⟨by rw [←ef];exact w x (by simp),by rw [mf];exact z⟩,⟨by rw [←eh];exact w y (by simp),by rw [mh];exact z⟩⟩
    · omega
  · have h4:b*b - 4*tot≤4000:=by
      rcases U.me with ⟨w,_⟩ | ⟨_,w⟩
      · omega
      · exact w
    have h0':b*b - 4*tot≠0:=fun e=>n ⟨0,by rw [e];rfl⟩
    exact ⟨⟨by rw [mf];exact n,by rw [mf];omega,by rw [mf];exact h4⟩,⟨by rw [mh];exact n,by rw [mh];omega,by rw [mh];exact h4⟩⟩
  · obtain ⟨e,he⟩:=U.pr
    have he:tot=x*(y*1)*e:=he
    have e1:tot=x*(y*e):=by rw [he];grind
    have e2:tot=y*(x*e):=by rw [he];grind
    refine ⟨e,by rw [he];grind,?_,?_⟩
    · rw [←ef]
      have:tot.fdiv x=y*e:=by rw [e1];exact Int.mul_fdiv_cancel_left _ hx.1
      rw [this]
    · rw [←eh]
      have:tot.fdiv y=x*e:=by rw [e2];exact Int.mul_fdiv_cancel_left _ hy.1
      rw [this]
theorem Ais (f:I3):Dt.flat 8 (t3 f)=true:=by simp only [S8,RV,RX,Iw,Bool.and_true]
noncomputable abbrev J7:DSp:=BJ (fun p:I3 × Int=>[t3 p.1,.int p.2]) (fun p=>B3 20000 p.1) fun p=>.bl (decide (Level p.1 p.2))
theorem Qu (T:Txt K mg)
    : Pm P w K mg base 1 "_law_level" Ed ["_law_form","_law_far"] J7:=by
  obtain ⟨f,fd,F⟩:=T.t__law_level
  refine ⟨f,fd,F,F.fn.okD Qs (by walk_at "lE") fun cdv A outer s H E hr=>⟨_,(Ah (Aq (SM (KR O6 JV Dc Dc Ab (Ac (dv 0) Ab) (dv 1)) (Oc (KR O6 JV Dc Dc (Bl (dv 1) (Ac (dv 0) Ab)) (Ak Ab (Jq T.z_abs (Aa (Ac (dv 0) Ab) Ae))) (Bh (dv 1) (Ac (dv 0) Ab))))))),fun ds Q h=>?_⟩⟩
  obtain ⟨⟨⟨a,b,c⟩,far⟩,rfl,hb,q⟩:=h
  have q':=q _ rfl
  obtain ⟨ha,_,_⟩:=(show B3 20000 (a,b,c) from hb)
  have ha:Bt 20000 a:=ha
  have two:Bt 2 2:=Bt.of_abs (by decide)
  have ha':Bt 20000 (if a < 0 then -a else a):=by split <;> first | exact ha.neg | exact ha
  have q':Q (.bl (decide (Level (a,b,c) far))):=q'
  walk_at "go"
  have hL:Level (a,b,c) far↔(0 < b∧b≤far)∧far - b < 2*(if a < 0 then -a else a)∧2*(if a < 0 then -a else a)≤far+b:=Iff.rfl
  generalize (if a < 0 then -a else a)=A at *
  by_cases h1:0 < b
  · refine ift (decide_eq_true h1) ?_
    by_cases h2:b≤far
    · refine ift (decide_eq_true h2) ⟨two.mulOk ha',?_⟩
      by_cases h3:far - b < 2*A
      · refine ift (decide_eq_true h3) ?_
        have e:decide (Level (a,b,c) far)=decide (2*A≤far+b):=decide_eq_decide.mpr (hL.trans ⟨fun z=>z.2.2,fun z=>⟨⟨h1,h2⟩,h3,z⟩⟩)
        rw [e] at q'
        exact q'
      · refine FQ (decide_eq_false h3) ?_
        rw [decide_eq_false fun z=>h3 (hL.mp z).2.1] at q'
        exact q'
    · refine FQ (decide_eq_false h2) ?_
      rw [decide_eq_false fun z=>h2 (hL.mp z).1.2] at q'
      exact q'
  · refine FQ (decide_eq_false h1) ?_
    rw [decide_eq_false fun z=>h1 (hL.mp z).1.1] at q'
    exact q'
noncomputable abbrev Jw:DSp:=BJ (fun p:I3 × Int=>[t3 p.1,.int p.2]) (fun p=>B3 2000 p.1∧p.1.2.2≠0∧Bt 2000 p.2) fun p=>t3 (mov p.1 (Cg p.1 p.2))
theorem Ow (T:Txt K mg)
    (G__law_bar:Pm P w K mg base 1 "_law_bar" Dm ["_law_form"] Gn)
    : Pm P w K mg base 2 "_law_behind" Dr ["_law_form","_law_top"] Jw:=by
  obtain ⟨f,fd,F⟩:=T.t__law_behind
  refine ⟨f,fd,F,F.fn.okD DN (by walk_at "lE") fun cdv A outer s H E hr=>⟨_,(Ad (Hy (dv 0) (IW (n:=3) rfl (Az (Bc 2 DN.nd) (Az (Bc 3 DN.nd) (Az (Bc 4 DN.nd) Ez))))) (Ad (Al 5 DN.nd (Bl (dv 1) (Dz (Bh (dv 1) (dv 3)) (Ak Ab (Jq T.z_abs (Aa (dv 4) Ae)))))) (Ah (Aq (Ba (Aa (dv 4) (Aa (dv 5) (Aa (Bu (Bl (Ak (dv 5) (dv 5)) (Ag Af G__law_bar (hr.mono (by decide)) rfl (Aa (dv 0) Ae))) (Ak Ab (dv 4))) Ae)))))))),fun ds Q h=>?_⟩⟩
  obtain ⟨⟨f,top⟩,rfl,⟨hf,h0,ht⟩,q⟩:=h
  have hf:B3 2000 f:=hf
  have h0:f.2.2≠0:=h0
  have ht:Bt 2000 top:=ht
  have q':=q _ rfl
  dsimp only at q'
  obtain ⟨e,he⟩:=K1 (top:=top) h0
  have hm:=Bs (f:=f) (t:=Cg f top) Cq
  rw [he] at q' hm
  have two:Bt 2 2:=Bt.of_abs (by decide)
  have four:Bt 3 4:=Bt.of_abs (by decide)
  have hac:2*ab f.2.2≠0:=by rcases Ax f.2.2 with ⟨_,e⟩ | ⟨_,e⟩ <;> omega
  have ⟨d1,d2⟩:=Jh (top:=top) h0
  have hd:Bt 2005 (dB f top):=by
    have h1:=two.mul (Wj hf.2.2)
    have h2:=ht.sub h1
    have h3:Bt 2004 (top - 2*ab f.2.2):=h2.le (by decide)
    unfold Bt at *
    omega
  have em:dB f top*dB f top - meas f=4*f.2.2*e:=by rw [←hm];simp only [meas];omega
  obtain ⟨a,b,c⟩:=f
  walk_at "go"
  refine ⟨two.mulOk (Wj hf.2.2),hac,?_⟩
  have edB:top - (top+b).fmod (2*ab c)=dB (a,b,c) top:=rfl
  rw [edB]
  refine ⟨hd.mulOk hd,Aj (a,b,c) (hf.le (by decide)) ⟨four.mulOk hf.2.2,Bt.divOk (four.mul hf.2.2) (by have:c≠0:=h0;omega),Am (by decide),?_⟩⟩
  rw [em,Int.mul_fdiv_cancel_left _ (by have:c≠0:=h0;show 4*c≠0;omega)]
  exact q'
theorem Ie {a b c:Int} (h0:0 < a):(-a < b∧b≤a∧a < c)∨(0≤b∧b≤a∧a=c)↔Ck (a,b,c):=by
  constructor
  · rintro (⟨h1,h2,h3⟩ | ⟨h1,h2,h3⟩)
    · exact ⟨h0,by show -a≤b;omega,h2,by show a≤c;omega,fun z=>by rcases z with z | z <;> (have z:_=_:=z;dsimp only at z;omega)⟩
    · exact ⟨h0,by show -a≤b;omega,h2,by show a≤c;omega,fun _=>h1⟩
  · rintro ⟨h1,h2,h3,h4,h5⟩
    have h2:-a≤b:=h2
    have h3:b≤a:=h3
    have h4:a≤c:=h4
    have h5:b=-a∨a=c→0≤b:=h5
    by_cases z:a=c
    · exact .inr ⟨h5 (.inr z),h3,z⟩
    · refine .inl ⟨?_,h3,by omega⟩
      rcases Int.lt_or_eq_of_le h2 with w | w
      · exact w
      · have:=h5 (.inl w.symm);omega
noncomputable abbrev Ln:DSp:=spec (fun f:I3=>[t3 f]) (fun f=>B3 1500 f∧Bo f) fun f d=>∃ g,d=t3 g∧LF f g
theorem ZS {a b k:Int} (h0:0 < a) (hk:k=(a - b).fdiv (2*a)):-a < b+2*a*k∧b+2*a*k≤a:=by
  have h1:=Ew (a - b) (m:=2*a) (by omega)
  have h2:=Int.fmod_def (a - b) (2*a)
  rw [←hk] at h2
  omega
noncomputable def Mz (f:I3) (m:Nat) (ρ:Ce):Prop:=∃ (a b c:Int) (t:I4) (x:Option En),ρ=[some (.is (t3 f)),some (.is (.int a)),some (.is (.int b)),some (.is (.int c)),x]∧mov f t=(a,b,c)∧det t=1∧Bt 1500 a∧Bt 1500 b∧(Ck (a,b,c)→m=2*a.toNat)∧(¬ Ck (a,b,c)→m=2*a.toNat+1)
theorem RD (T:Txt K mg)
    : Pm P w K mg base 1 "_law_bowl" Ft ["_law_form"] Ln:=by
  obtain ⟨f,fd,F⟩:=T.t__law_bowl
  refine ⟨f,fd,F,F.fn.okD Dh (by walk_at "lE") fun cdv A outer s H E hr=>⟨_,(Ad (Hy (dv 0) (IW (n:=3) rfl (Az (Bc 1 Dh.nd) (Az (Bc 2 Dh.nd) (Az (Bc 3 Dh.nd) Ez))))) (Ad (DK PassesOwn.never (FN (DW.dt (Jc (Mq O6 JV O6 Dc Dc Dc  (Bl Ab (dv 1)) (dv 2) (dv 1) (dv 3)) (Jl (Mq JV JV (V1 hr.units) Dc Dc V5  Ab (dv 2) (dv 1) (dv 3)))))) (Ad (Al 4 Dh.nd (Bu (Bl (dv 1) (dv 2)) (Ak Ab (dv 1)))) (Ad (Xc rfl Dh.nd 2 3 (Aa (Bh (dv 2) (Ak (Ak Ab (dv 1)) (dv 4))) (Aa (Bh (Bh (Ak (Ak (dv 1) (dv 4)) (dv 4)) (Ak (dv 2) (dv 4))) (dv 3)) Ae))) (Ah (Ca (DW.dt (Jc (QG (dv 1) (dv 3)) (Jl (DW.dt (Rr (Le hr.units (dv 1) (dv 3)) (Nt (Jx (dv 2) Ab))))))) (Ah (Acy rfl Dh.nd 1 2 3 (Aa (dv 3) (Aa (Bl Ab (dv 2)) (Aa (dv 1) Ae))))) Bd))))) (Ah (Aq (Ba (Aa (dv 1) (Aa (dv 2) (Aa (dv 3) Ae)))))))),fun ds Q h=>?_⟩⟩
  obtain ⟨f,rfl,⟨hb,hw⟩,q⟩:=h
  have hw:Bo f:=hw
  have hb:B3 1500 f:=hb
  have q:∀ d,(∃ g,d=t3 g∧LF f g)→Q d:=q
  have hm:Bt 3010 (meas f):=by
    obtain ⟨h1,h2,h3⟩:=hb
    have h4:Bt 3 4:=Bt.of_abs (by decide)
    exact ((h2.mul h2).sub ((h4.mul h1).mul h3)).le (by decide)
  have two:Bt 2 2:=Bt.of_abs (by decide)
  walk_at "go"
  obtain ⟨m0,hm1,hm2⟩:∃ m0,(Ck f→m0=2*f.1.toNat)∧(¬ Ck f→m0=2*f.1.toNat+1):=by
    by_cases z:Ck f
    · exact ⟨_,fun _=>rfl,fun h=>absurd z h⟩
    · exact ⟨_,fun h=>absurd h z,fun _=>rfl⟩
  refine DY (Mz f) m0 ⟨f.1,f.2.1,f.2.2,(1,0,0,1),none,rfl,Dp,rfl,hb.1,hb.2.1,hm1,hm2⟩ ?_
  rintro m _ ⟨a,b,c,t,x,rfl,et,dt,ba,bb,m1,m2⟩
  have hg:Bo (a,b,c):=by rw [←et];exact KN hw dt
  have hgb:B3 7000 (a,b,c):=(Wy hg ba bb (by rw [←et,Bs dt];exact hm)).le (by decide)
  have a0:0 < a:=hg.1
  have c0:0 < c:=Mu hg
  have bk:Bt 1502 ((a - b).fdiv (2*a)):=Gm (ba.sub bb) (by omega)
  have ⟨s1,s2⟩:=ZS (b:=b) a0 rfl
  walk_at "rd"
  obtain ⟨K,eK⟩:∃ K,(a - b).fdiv (2*a)=K:=⟨_,rfl⟩
  rw [eK] at bk s1 s2 ⊢
  obtain ⟨b',eb⟩:∃ x,b+2*a*K=x:=⟨_,rfl⟩
  obtain ⟨c',ec⟩:∃ x,a*K*K+b*K+c=x:=⟨_,rfl⟩
  rw [eb] at s1 s2
  have em:mov f (Ar t (1,K,0,1))=(a,b',c'):=by
    rw [←Bj,et,←eb,←ec]
    simp only [mov,val,mid,Prod.mk.injEq]
    refine ⟨?_,?_,?_⟩ <;> grind
  have dm:det (Ar t (1,K,0,1))=1:=by
    rw [Cm,dt]
    show 1*(1*1 - K*0)=1
    omega
  have hg':Bo (a,b',c'):=by rw [←em];exact KN hw dm
  have c0':0 < c':=Mu hg'
  have es:mov f (Ar (Ar t (1,K,0,1)) (0,-1,1,0))=(c',0 - b',a):=by
    rw [←Bj,em]
    simp only [mov,val,mid,Prod.mk.injEq]
    refine ⟨?_,?_,?_⟩ <;> grind
  have ds:det (Ar (Ar t (1,K,0,1)) (0,-1,1,0))=1:=by rw [Cm,dm];rfl
  have bb':Bt 1500 b':=by unfold Bt at *;omega
  have stay:¬ Ck (a,b,c)→Ck (a,b',c')→∃ m',m' < m∧Mz f m' [some (.is (t3 f)),some (.is (.int a)),some (.is (.int b')),some (.is (.int c')),some (.is (.int K))]:=fun n L=>⟨2*a.toNat,by rw [m2 n];omega,a,b',c',_,_,rfl,em,dm,ba,bb',fun _=>rfl,fun z=>absurd L z⟩
  have body:¬ Ck (a,b,c)→(IntMulOk 2 a∧CDv (a - b) (2*a)∧IntMulOk 2 a∧IntMulOk (2*a) K∧IntMulOk a K∧IntMulOk (a*K) K∧IntMulOk b K∧if decide (a*K*K+b*K+c < a)=true then ∃ m',m' < m∧Mz f m' [some (.is (t3 f)),some (.is (.int (a*K*K+b*K+c))),some (.is (.int (0 - (b+2*a*K)))),some (.is (.int a)),some (.is (.int K))] else
      if decide (a=a*K*K+b*K+c)=true then if decide (b+2*a*K < 0)=true then ∃ m',m' < m∧Mz f m' [some (.is (t3 f)),some (.is (.int (a*K*K+b*K+c))),some (.is (.int (0 - (b+2*a*K)))),some (.is (.int a)),some (.is (.int K))] else ∃ m',m' < m∧Mz f m' [some (.is (t3 f)),some (.is (.int a)),some (.is (.int (b+2*a*K))),some (.is (.int (a*K*K+b*K+c))),some (.is (.int K))]
      else ∃ m',m' < m∧Mz f m' [some (.is (t3 f)),some (.is (.int a)),some (.is (.int (b+2*a*K))),some (.is (.int (a*K*K+b*K+c))),some (.is (.int K))]):=fun n=>by
    rw [eb,ec]
    refine ⟨two.mulOk ba,Bt.divOk (two.mul ba) (by omega),two.mulOk ba,(two.mul ba).mulOk bk,ba.mulOk bk,(ba.mul bk).mulOk bk,bb.mulOk bk,Eb (fun h1=>?_) (fun h1=>Eb (fun h2=>Eb (fun h3=>?_) (fun h3=>?_)) (fun h2=>?_))⟩
    · have h1:=of_decide_eq_true h1
      have bc':Bt 1500 c':=by unfold Bt at *;omega
      have bn:Bt 1500 (0 - b'):=by unfold Bt at *;omega
      by_cases z:Ck (c',0 - b',a)
      · exact ⟨2*c'.toNat,by rw [m2 n];omega,c',0 - b',a,_,_,rfl,es,ds,bc',bn,fun _=>rfl,fun w=>absurd z w⟩
      · exact ⟨2*c'.toNat+1,by rw [m2 n];omega,c',0 - b',a,_,_,rfl,es,ds,bc',bn,fun w=>absurd w z,fun _=>rfl⟩
    · have h2:=of_decide_eq_true h2
      have h3:=of_decide_eq_true h3
      have bc':Bt 1500 c':=by unfold Bt at *;omega
      have bn:Bt 1500 (0 - b'):=by unfold Bt at *;omega
      have L:Ck (c',0 - b',a):=(Ie c0').mp (.inr ⟨by omega,by omega,by omega⟩)
      exact ⟨2*c'.toNat,by rw [m2 n];omega,c',0 - b',a,_,_,rfl,es,ds,bc',bn,fun _=>rfl,fun w=>absurd L w⟩
    · have h2:=of_decide_eq_true h2
      have h3:¬ b' < 0:=fun z=>h3 (decide_eq_true z)
      exact stay n ((Ie a0).mp (.inr ⟨by omega,by omega,h2⟩))
    · have h1:¬ c' < a:=fun z=>h1 (decide_eq_true z)
      have h2:¬ a=c':=fun z=>h2 (decide_eq_true z)
      exact stay n ((Ie a0).mp (.inl ⟨by omega,by omega,by omega⟩))
  by_cases hL:Ck (a,b,c)
  · have fin:3≤sizeLine∧Q (Dt.tup [Dt.int a,Dt.int b,Dt.int c]):=⟨Am (by decide),q _ ⟨(a,b,c),rfl,.inl ⟨hw,t,dt,by rw [et];exact hL,et.symm⟩⟩⟩
    rcases (Ie a0).mpr hL with ⟨h1,h2,h3⟩ | ⟨h1,h2,h3⟩
    · exact ift (decide_eq_true (by omega)) (ift (decide_eq_true h2) (ift (decide_eq_true h3) fin))
    · exact ift (decide_eq_true (by omega)) (ift (decide_eq_true h2) (FQ (decide_eq_false (by omega)) (ift (decide_eq_true h1) (ift (decide_eq_true h2) (FQ (by rw [decide_eq_true h3];rfl) fin)))))
  · have bd:=body hL
    have nx:¬ ((-a < b∧b≤a∧a < c)∨(0≤b∧b≤a∧a=c)):=fun z=>hL ((Ie a0).mp z)
    refine Eb (fun h1=>Eb (fun h2=>Eb (fun h3=>absurd (.inl ⟨?_,of_decide_eq_true h2,of_decide_eq_true h3⟩) nx) (fun _=>Eb (fun h4=>Eb (fun h5=>Eb (fun _=>bd) (fun h6=>absurd (.inr ⟨of_decide_eq_true h4,of_decide_eq_true h5,?_⟩) nx)) (fun _=>bd)) (fun _=>bd))) (fun _=>Eb (fun h4=>Eb (fun h5=>Eb (fun _=>bd) (fun h6=>absurd (.inr ⟨of_decide_eq_true h4,of_decide_eq_true h5,?_⟩) nx)) (fun _=>bd)) (fun _=>bd))) (fun _=>Eb (fun h4=>Eb (fun h5=>Eb (fun _=>bd) (fun h6=>absurd (.inr ⟨of_decide_eq_true h4,of_decide_eq_true h5,?_⟩) nx)) (fun _=>bd)) (fun _=>bd))
    · have:=of_decide_eq_true h1;omega
    all_goals
      simp only [Bool.not_eq_true',decide_eq_false_iff_not,Decidable.not_not] at h6
      exact h6
noncomputable abbrev J1:DSp:=spec (fun f:I3=>[t3 f]) (fun f=>B3 1500 f∧(Bo f∨Sad f)) fun f d=>∃ g,d=t3 g∧LF f g
theorem Aeb (f g:I3):HT.lexLt (Fv f) (Fv g)=true↔f.1 < g.1∨(f.1=g.1∧(f.2.1 < g.2.1∨(f.2.1=g.2.1∧f.2.2 < g.2.2))):=by
  unfold Fv
  rw [HT.Fd,HT.Fd,HT.Fd,HT.Gk]
  split
  · split
    · split
      · simp;omega
      · simp;omega
    · simp;omega
  · simp;omega
theorem Acl {f g h:I3} (h1:HT.lexLt (Fv g) (Fv f)=true) (h2:HT.lexLt (Fv h) (Fv f)=false):HT.lexLt (Fv h) (Fv g)=false:=by
  rw [Bool.eq_false_iff] at h2 ⊢
  intro z
  rw [Ne,Aeb] at h2
  rw [Aeb] at h1 z
  omega
theorem Xe (f:I3):HT.lexLt (Fv f) (Fv f)=false:=by
  rw [Bool.eq_false_iff,Ne,Aeb]
  omega
theorem Qk (T:Txt K mg)
    (G__law_root:Pm P w K mg base 1 "_law_root" DR ["_law_number"] Ik)
    (G__law_behind:Pm P w K mg base 2 "_law_behind" Dr ["_law_form","_law_top"] Jw)
    (G__law_bar:Pm P w K mg base 1 "_law_bar" Dm ["_law_form"] Gn)
    (G__law_bowl:Pm P w K mg base 1 "_law_bowl" Ft ["_law_form"] Ln)
    (G__law_level:Pm P w K mg base 1 "_law_level" Ed ["_law_form","_law_far"] J7)
    : Pm P w K mg base 3 "_law_least" Eo ["_law_form"] J1:=by
  obtain ⟨f,fd,F⟩:=T.t__law_least
  refine ⟨f,fd,F,F.fn.okD CQ (by walk_at "lE") fun cdv A outer s H E hr=>⟨_,(Ad (Ca (Jx (Ag Af G__law_bar (hr.mono (by decide)) rfl (Aa (dv 0) Ae)) Ab) (Ah (Aq (Ag Af G__law_bowl (hr.mono (by decide)) rfl (Aa (dv 0) Ae)))) Bd) (Ad (Al 1 CQ.nd (Ag Af G__law_root (hr.mono (by decide)) rfl (Aa (Ag Af G__law_bar (hr.mono (by decide)) rfl (Aa (dv 0) Ae)) Ae))) (Ad (DK PassesOwn.never (FN (Fb (Ag Af G__law_level (hr.mono (by decide)) rfl (Aa (dv 0) (Aa (dv 1) Ae))))) (Ah (Al 0 CQ.nd (Ag Af G__law_behind (hr.mono (by decide)) rfl (Aa (dv 0) (Aa (Z6 T.z_max (Aa (dv 1) (Aa (Jq T.z_abs (Aa (Ac (dv 0) Ab) Ae)) Ae))) Ae)))))) (Ad (Al 2 CQ.nd (dv 0)) (Ad (Al 3 CQ.nd (Ag Af G__law_behind (hr.mono (by decide)) rfl (Aa (dv 0) (Aa (dv 1) Ae)))) (Ad (DK PassesOwn.never (FW hr.units (dv 3) (dv 0)) (Ad (Al 2 CQ.nd (Ab5 T.z_min (Afm hr.units) (Aa (dv 2) (Aa (dv 3) Ae)))) (Ah (Al 3 CQ.nd (Ag Af G__law_behind (hr.mono (by decide)) rfl (Aa (dv 3) (Aa (dv 1) Ae))))))) (Ah (Aq (dv 2))))))))),fun ds Q h=>?_⟩⟩
  obtain ⟨f,rfl,⟨hb,hw⟩,q⟩:=h
  have hb:B3 1500 f:=hb
  have hw:Bo f∨Sad f:=hw
  have q:∀ d,(∃ g,d=t3 g∧LF f g)→Q d:=q
  walk_at "go"
  rcases hw with hw | hS
  · have:=hw.2
    exact Aj f (hb.le (by decide)) (ift (decide_eq_true this) (Br f ⟨hb,hw⟩ q))
  have hp:=hS.pos
  refine Aj f (hb.le (by decide)) (FQ (decide_eq_false (by omega)) (Aj f (hb.le (by decide)) (Br (meas f) (Ou hS) ?_)))
  rintro _ ⟨far,rfl,hr',hfb⟩
  have f63:=N8 hr' hS.most
  have far0:=hr'.1
  have hfar:Bt 7 far:=Bt.of (by omega) (by omega)
  refine DY (fun m ρ=>∃ k,(∀ i,i < k→¬ Level (mov f (EI far f i)) far)∧ρ=[some (.is (t3 (mov f (EI far f k)))),some (.is (.int far)),none,none]∧Ng 1500 far f (EI far f k)∧m=eM far (mov f (EI far f k))) _ ⟨0,fun _ h=>absurd h (by omega),by show _=[some (En.is (t3 (mov f (1,0,0,1)))),_,_,_];rw [Dp],Ng.start (by decide) hb,rfl⟩ ?_
  rintro m _ ⟨k,nl0,rfl,hI,rfl⟩
  have ek:EI far f (k+1)=Ar (EI far f k) (Cg (mov f (EI far f k)) (if far > ab (mov f (EI far f k)).2.2 then far else ab (mov f (EI far f k)).2.2)):=rfl
  obtain ⟨t,et⟩:∃ t,t=EI far f k:=⟨_,rfl⟩
  rw [←et] at hI ek ⊢
  have hd:=hI.1
  have hg:=hI.2.1
  have ht:=hI.b4
  walk_at "rd"
  refine Aj (mov f t,far) (hg.le (by decide)) ?_
  walk_at "rd"
  by_cases hL:Level (mov f t) far
  · refine FQ (by rw [decide_eq_true hL];rfl) ?_
    have hv:Lv far (mov f t):=⟨hS.mov hd,by rw [Bs hd];exact hr',hL⟩
    obtain ⟨N,n0,nm,ne,nl⟩:=M8 hv
    have R:Ko f t far N:=⟨hd,hr',hv,ht.le (by decide),n0,nm,ne,nl,k,et,nl0,by rw [←et];exact hL⟩
    have b3:=Ls hv.S hv.r hv.L
    refine Aj (mov f t,far) ⟨b3.le (by decide),Gy hv.S,hfar.le (by decide)⟩ ?_
    dsimp only
    refine DY (fun m ρ=>∃ (i j:Nat),0 < i∧i≤N∧j < i∧(∀ l,l < i→HT.lexLt (Fv (rF far l (mov f t))) (Fv (rF far j (mov f t)))=false)∧ρ=[some (En.is (t3 (mov f t))),some (En.is (Dt.int far)),some (En.is (t3 (rF far j (mov f t)))),some (En.is (t3 (rF far i (mov f t))))]∧m=N - i) _ ⟨1,0,by omega,by omega,by omega,fun l hl=>by rw [show l=0 by omega];exact Xe _,rfl,rfl⟩ ?_
    rintro m _ ⟨i,j,i0,iN,ji,lj,rfl,rfl⟩
    have hi':=Lv.rF i hv
    have bi:=Ls hi'.S hi'.r hi'.L
    have lastF:=(RQ (far:=far) (n:=i) (f:=mov f t)).symm
    walk_at "rd"
    by_cases e:rF far i (mov f t)=mov f t
    · have hN:i=N:=by
        rcases Nat.lt_or_ge i N with z | z
        · exact absurd e (nl i i0 z)
        · omega
      subst hN
      refine FQ (by rw [e];simp) (q _ ⟨_,rfl,.inr ⟨hS,t,far,i,j,R,by omega,fun l hl=>?_,rfl⟩⟩)
      rcases Nat.lt_or_ge l i with z | z
      · exact lj l z
      · rw [show l=i by omega,e]
        exact lj 0 i0
    · have hlt:i < N:=by
        rcases Nat.lt_or_ge i N with z | z
        · exact z
        · exact absurd (by rw [show i=N by omega];exact ne) e
      refine ift ?_ ?_
      · rw [Bool.not_eq_true',Bool.eq_false_iff]
        intro w
        simp only [Bool.and_eq_true,decide_eq_true_eq] at w
        exact e (Prod.ext w.1 (Prod.ext w.2.1 w.2.2))
      · refine ⟨Fv (rF far j (mov f t)),Fv (rF far i (mov f t)),rfl,?_⟩
        refine Aj (rF far i (mov f t),far) ⟨bi.le (by decide),Gy hi'.S,hfar.le (by decide)⟩ ?_
        dsimp only
        by_cases hl:HT.lexLt (Fv (rF far i (mov f t))) (Fv (rF far j (mov f t)))=true
        · refine ⟨N - (i+1),by omega,i+1,i,by omega,by omega,by omega,fun l hl'=>?_,?_,rfl⟩
          · rcases Nat.lt_or_ge l i with z | z
            · exact Acl hl (lj l z)
            · rw [show l=i by omega];exact Xe _
          · rw [if_pos hl,←lastF]
            rfl
        · refine ⟨N - (i+1),by omega,i+1,j,by omega,by omega,by omega,fun l hl'=>?_,?_,rfl⟩
          · rcases Nat.lt_or_ge l i with z | z
            · exact lj l z
            · rw [show l=i by omega];simpa using hl
          · rw [if_neg hl,←lastF]
            rfl
  · refine ift (by rw [decide_eq_false hL];rfl) ?_
    have hst:=Rq (by decide) hS hr' hI hL
    have em:(if ab (mov f t).2.2 > far then ab (mov f t).2.2 else far)=(if far > ab (mov f t).2.2 then far else ab (mov f t).2.2):=by split <;> split <;> omega
    have btop:Bt 2000 (if far > ab (mov f t).2.2 then far else ab (mov f t).2.2):=by
      split
      · exact hfar.le (by decide)
      · exact (Wj hg.2.2).le (by decide)
    refine Aj (mov f t,if ab (mov f t).2.2 > far then ab (mov f t).2.2 else far) ⟨hg.le (by decide),Gy (hS.mov hd),by rw [em];exact btop⟩ ?_
    dsimp only
    rw [em,Bj]
    refine ⟨_,hst.2.1,k+1,fun i hi=>?_,by rw [ek],by rw [ek];exact hst.1,by rw [ek]⟩
    rcases Nat.lt_or_ge i k with z | z
    · exact nl0 i z
    · rw [show i=k by omega,←et];exact hL
theorem LF.btn {f g:I3} {n:Nat} (L:LF f g) (h:Bt n (meas f)) (hn:7≤n):B3 n g:=by
  rcases L with ⟨_,t,dt,L,rfl⟩ | ⟨hS,t0,far,N,j,R,_,_,rfl⟩
  · exact L.bt (by rw [Bs dt];exact h)
  · have hv:=Lv.rF j R.v
    exact (Ls hv.S hv.r hv.L).le hn
theorem LF.turn {f g:I3} (L:LF f g):∃ x,det x=1∧mov f x=g:=by
  rcases L with ⟨_,t,dt,_,rfl⟩ | ⟨_,t0,far,N,j,R,_,_,rfl⟩
  · exact ⟨t,dt,rfl⟩
  · exact ⟨Ar t0 (rT far j (mov f t0)),by rw [Cm,R.d,Oo];rfl,by rw [←Bj,Gu]⟩
noncomputable def Kd (s:Bool) (f:I3):Prop:=(s=true→Bo f)∧(s=false→Sad f)
theorem Kd.kind {s:Bool} {f:I3} (h:Kd s f):Bo f∨Sad f:=by
  cases s with
  | true=>exact .inl (h.1 rfl)
  | false=>exact .inr (h.2 rfl)
theorem Kd.of {s:Bool} {f g:I3} (h:Kd s f) (m:meas g=meas f) (p:s=true→0 < g.1):Kd s g :=
  ⟨fun z=>⟨p z,by rw [m];exact (h.1 z).2⟩,fun z=>⟨by rw [m];exact (h.2 z).no,by rw [m];exact (h.2 z).pos,by rw [m];exact (h.2 z).most⟩⟩
theorem Wn (x:Int):Bt 300 (x.fmod (2*10 ^ Int.toNat 60+1) - 10 ^ Int.toNat 60):=by
  have e:(10:Int) ^ Int.toNat 60=1000000000000000000000000000000000000000000000000000000000000:=by decide
  rw [e,Int.fmod_eq_emod_of_nonneg x (by decide)]
  exact Bt.of (by omega) (by omega)
noncomputable def jn (p:I4) (a b:I2):Int:=p.1*(a.1*b.1)+p.2.1*(a.1*b.2)+p.2.2.1*(a.2*b.1)+p.2.2.2*(a.2*b.2)
noncomputable abbrev Li:DSp:=BJ (fun p:I4 × I2 × I2=>[t4 p.1,t2 p.2.1,t2 p.2.2]) (fun p=>B4 110000 p.1∧B2 300 p.2.1∧B2 300 p.2.2) fun p=>.int (jn p.1 p.2.1 p.2.2)
theorem Ru (T:Txt K mg)
    : Pm P w K mg base 1 "joined_by" Fi ["row","one","other"] Li:=by
  obtain ⟨f,fd,F⟩:=T.t_joined_by
  refine ⟨f,fd,F,F.fn.okD IK (by walk_at "lE") fun cdv A outer s H E hr=>⟨_,(Ad (Al 3 IK.nd (Bh (Ak (Ac (dv 0) Ab) (Ac (dv 1) Ab)) (Ak (Ac (dv 0) Ab) (Ac (dv 1) Ab)))) (Ad (Al 4 IK.nd (Bh (Ak (Ac (dv 0) Ab) (Ac (dv 1) Ab)) (Ak (Ac (dv 0) Ab) (Ac (dv 1) Ab)))) (Ah (Aq (Bh (Ak (dv 3) (Ac (dv 2) Ab)) (Ak (dv 4) (Ac (dv 2) Ab))))))),fun ds Q h=>?_⟩⟩
  obtain ⟨⟨r,a,b⟩,rfl,⟨hr0,ha,hb⟩,q⟩:=h
  obtain ⟨r1,r2,r3,r4⟩:B4 110000 r:=hr0
  have ha:B2 300 a:=ha
  have hb:B2 300 b:=hb
  have q':Q (.int (jn r a b)):=q _ rfl
  walk_at "go"
  have e:(r.1*a.1+r.2.2.1*a.2)*b.1+(r.2.1*a.1+r.2.2.2*a.2)*b.2=jn r a b:=by unfold jn;grind
  refine ⟨r1.mulOk ha.1,r3.mulOk ha.2,r2.mulOk ha.1,r4.mulOk ha.2,((r1.mul ha.1).add (r3.mul ha.2)).mulOk hb.1,((r2.mul ha.1).add (r4.mul ha.2)).mulOk hb.2,?_⟩
  rw [e]
  exact q'
noncomputable abbrev Ri:DSp:=BJ (fun p:(I4 × I4) × I2 × I2=>[Er p.1.1 p.1.2,t2 p.2.1,t2 p.2.2]) (fun p=>B4 110000 p.1.1∧B4 110000 p.1.2∧B2 300 p.2.1∧B2 300 p.2.2) fun p=>t2 (jn p.1.1 p.2.1 p.2.2,jn p.1.2 p.2.1 p.2.2)
theorem Xr (T:Txt K mg)
    (G_joined_by:Pm P w K mg base 1 "joined_by" Fi ["row","one","other"] Li)
    : Pm P w K mg base 2 "joined" Ia ["rows","one","other"] Ri:=by
  obtain ⟨f,fd,F⟩:=T.t_joined
  refine ⟨f,fd,F,F.fn.okD Yl (by walk_at "lE") fun cdv A outer s H E hr=>⟨_,(Ah (Aq (Ba (Aa (Ag Af G_joined_by (hr.mono (by decide)) rfl (Aa (Ac (dv 0) Ab) (Aa (dv 1) (Aa (dv 2) Ae)))) (Aa (Ag Af G_joined_by (hr.mono (by decide)) rfl (Aa (Ac (dv 0) Ab) (Aa (dv 1) (Aa (dv 2) Ae)))) Ae))))),fun ds Q h=>?_⟩⟩
  obtain ⟨⟨⟨r,s0⟩,a,b⟩,rfl,⟨h1,h2,ha,hb⟩,q⟩:=h
  have q':=q _ rfl
  walk_at "go"
  exact Aj (r,a,b) ⟨h1,ha,hb⟩ (Aj (s0,a,b) ⟨h2,ha,hb⟩ ⟨Am (by decide),q'⟩)
noncomputable def jnD (p:I4) (a b:I2):Dt→Dt
  | .int k=>.int (if k=0 then p.1*(a.1*b.1) else if k=1 then p.2.1*(a.1*b.2) else if k=2 then p.2.2.1*(a.2*b.1) else p.2.2.2*(a.2*b.2))
  | _=>.non
theorem YB (p:I4) (a b:I2):(ups 0 4).map (jnD p a b)=([p.1*(a.1*b.1),p.2.1*(a.1*b.2),p.2.2.1*(a.2*b.1),p.2.2.2*(a.2*b.2)]:List Int).map Dt.int:=rfl
theorem Zm (p:I4) (a b:I2):([p.1*(a.1*b.1),p.2.1*(a.1*b.2),p.2.2.1*(a.2*b.1),p.2.2.2*(a.2*b.2)]:List Int).sum=jn p a b:=by
  simp only [List.sum_cons,List.sum_nil]
  unfold jn
  omega
noncomputable abbrev Hi:DSp:=BJ (fun p:(I4 × I4) × I2 × I2=>[Er p.1.1 p.1.2,t2 p.2.1,t2 p.2.2]) (fun p=>B4 110000 p.1.1∧B4 110000 p.1.2∧B2 300 p.2.1∧B2 300 p.2.2) fun p=>t2 (jn p.1.1 p.2.1 p.2.2,jn p.1.2 p.2.1 p.2.2)
theorem PB (T:Txt K mg)
    : Pm P w K mg base 1 "_law_joined" BZ ["_law_rows","_law_one","_law_other"] Hi:=by
  obtain ⟨f,fd,F⟩:=T.t__law_joined
  refine ⟨f,fd,F,F.fn.okD Hg (by walk_at "lE") fun cdv A outer s H E hr=>⟨_,(Ad (Al 3 Hg.nd (G8 (Aa (Ak (Ac (dv 1) Ab) (Ac (dv 2) Ab)) (Aa (Ak (Ac (dv 1) Ab) (Ac (dv 2) Ab)) (Aa (Ak (Ac (dv 1) Ab) (Ac (dv 2) Ab)) (Aa (Ak (Ac (dv 1) Ab) (Ac (dv 2) Ab)) Ae)))))) (Ad (Al 4 Hg.nd (AaH T.z_sum (Aa (Np (Fg (sc:=Ai BZ) (NN:=["_law_rows","_law_one","_law_other","_law_pairs","_law_x"]) (x:="_law_k") (N:=["_law_pairs","_law_rows"]) (sl:=[3,0]) rfl rfl (by decide +kernel)) rfl (Nv rfl T.z_range (Aa Ab Ae)) (fun cl C s0 H0 ex=>(Ak (Ac (Ac (dv 2) Ab) (dv 0)) (Ac (dv 1) (dv 0))))) Ae))) (Ah (Aq (Ba (Aa (dv 4) (Aa (AaH T.z_sum (Aa (Np (Fg (sc:=Ai BZ) (NN:=["_law_rows","_law_one","_law_other","_law_pairs","_law_x"]) (x:="_law_k") (N:=["_law_pairs","_law_rows"]) (sl:=[3,0]) rfl rfl (by decide +kernel)) rfl (Nv rfl T.z_range (Aa Ab Ae)) (fun cl C s0 H0 ex=>(Ak (Ac (Ac (dv 2) Ab) (dv 0)) (Ac (dv 1) (dv 0))))) Ae)) Ae))))))),fun ds Q h=>?_⟩⟩
  obtain ⟨⟨⟨r,s0⟩,a,b⟩,rfl,⟨h1,h2,ha,hb⟩,q⟩:=h
  have h1:B4 110000 r:=h1
  have h2:B4 110000 s0:=h2
  have ha:B2 300 a:=ha
  have hb:B2 300 b:=hb
  have q':Q (t2 (jn r a b,jn s0 a b)):=q _ rfl
  walk_at "go"
  refine ⟨ha.1.mulOk hb.1,ha.1.mulOk hb.2,ha.2.mulOk hb.1,ha.2.mulOk hb.2,Am (by decide),FZ (ups 0 4) (jnD r a b) (fun R hR=>?_) (Am (by decide)) (CG rfl (CG rfl DQ)) (fun d hd R hR=>?_) ⟨_,by rw [YB],FZ (ups 0 4) (jnD s0 a b) (fun R hR=>?_) (Am (by decide)) (CG rfl (CG rfl DQ)) (fun d hd R hR=>?_) ⟨_,by rw [YB],Am (by decide),?_⟩⟩⟩
  · walk_at "rd"
    exact ⟨⟨by decide,by decide⟩,hR⟩
  · have hd:d=.int 0∨d=.int 1∨d=.int 2∨d=.int 3:=by simpa [ups,List.range,List.range.loop] using hd
    unfold inner
    rcases hd with rfl | rfl | rfl | rfl
    · walk_at "rd"
      exact ⟨h1.1.mulOk (ha.1.mul hb.1),hR⟩
    · walk_at "rd"
      exact ⟨h1.2.1.mulOk (ha.1.mul hb.2),hR⟩
    · walk_at "rd"
      exact ⟨h1.2.2.1.mulOk (ha.2.mul hb.1),hR⟩
    · walk_at "rd"
      exact ⟨h1.2.2.2.mulOk (ha.2.mul hb.2),hR⟩
  · walk_at "rd"
    exact ⟨⟨by decide,by decide⟩,hR⟩
  · have hd:d=.int 0∨d=.int 1∨d=.int 2∨d=.int 3:=by simpa [ups,List.range,List.range.loop] using hd
    unfold inner
    rcases hd with rfl | rfl | rfl | rfl
    · walk_at "rd"
      exact ⟨h2.1.mulOk (ha.1.mul hb.1),hR⟩
    · walk_at "rd"
      exact ⟨h2.2.1.mulOk (ha.1.mul hb.2),hR⟩
    · walk_at "rd"
      exact ⟨h2.2.2.1.mulOk (ha.2.mul hb.1),hR⟩
    · walk_at "rd"
      exact ⟨h2.2.2.2.mulOk (ha.2.mul hb.2),hR⟩
  · rw [Zm,Zm]
    exact q'
noncomputable def pairF (f h:I3) (k:Int):I3 × I3:=if k=0 then (f,h) else if k=1 then (f,f) else if k=2 then (f,(f.1,0 - f.2.1,f.2.2)) else (h,(f.1,0 - f.2.1,f.2.2))
noncomputable abbrev Lh:DSp:=BJ (fun p:I3 × I3 × Int=>[.lst [t3 p.1,t3 p.2.1],.int p.2.2]) (fun _=>True) fun p=>.lst [t3 (pairF p.1 p.2.1 p.2.2).1,t3 (pairF p.1 p.2.1 p.2.2).2]
theorem SX (T:Txt K mg)
    : Pm P w K mg base 1 "_law_pair" Fj ["_law_forms","_law_way"] Lh:=by
  obtain ⟨f,fd,F⟩:=T.t__law_pair
  refine ⟨f,fd,F,F.fn.okD Im (by walk_at "lE") fun cdv A outer s H E hr=>⟨_,(Ad (Hy (dv 0) (Vi (n:=2) rfl (Az (Bc 2 Im.nd) (Az (Bc 3 Im.nd) Ez)))) (Ad (Ca (Le hr.units (dv 1) Ab) (Ah (Aq (G8 (Aa (dv 2) (Aa (dv 3) Ae))))) Bd) (Ad (Ca (Le hr.units (dv 1) Ab) (Ah (Aq (G8 (Aa (dv 2) (Aa (dv 2) Ae))))) Bd) (Ad (Ca (Le hr.units (dv 1) Ab) (Ah (Aq (G8 (Aa (dv 2) (Aa (Ba (Aa (Ac (dv 2) Ab) (Aa (Bl Ab (Ac (dv 2) Ab)) (Aa (Ac (dv 2) Ab) Ae)))) Ae))))) Bd) (Ah (Aq (G8 (Aa (dv 3) (Aa (Ba (Aa (Ac (dv 2) Ab) (Aa (Bl Ab (Ac (dv 2) Ab)) (Aa (Ac (dv 2) Ab) Ae)))) Ae))))))))),fun ds Q h=>?_⟩⟩
  obtain ⟨⟨f,h0,k⟩,rfl,_,q⟩:=h
  have q':Q (.lst [t3 (pairF f h0 k).1,t3 (pairF f h0 k).2]):=q _ rfl
  unfold pairF at q'
  walk_at "go"
  refine Eb (fun z=>⟨Am (by decide),?_⟩) (fun z=>Eb (fun z1=>⟨Am (by decide),?_⟩) (fun z1=>Eb (fun z2=>⟨Am (by decide),Am (by decide),?_⟩) (fun z2=>⟨Am (by decide),Am (by decide),?_⟩)))
  · rw [if_pos (of_decide_eq_true z)] at q'
    exact q'
  · rw [if_neg (fun e=>z (decide_eq_true e)),if_pos (of_decide_eq_true z1)] at q'
    exact q'
  · rw [if_neg (fun e=>z (decide_eq_true e)),if_neg (fun e=>z1 (decide_eq_true e)),if_pos (of_decide_eq_true z2)] at q'
    exact q'
  · rw [if_neg (fun e=>z (decide_eq_true e)),if_neg (fun e=>z1 (decide_eq_true e)),if_neg (fun e=>z2 (decide_eq_true e))] at q'
    exact q'
theorem Ada {n m k:Nat} {p:I4} {a b:I2} (hp:B4 n p) (ha:B2 m a) (hb:B2 k b):Bt (n+(m+k)+2) (jn p a b):=by
  have e:jn p a b=(p.1*(a.1*b.1)+p.2.1*(a.1*b.2))+(p.2.2.1*(a.2*b.1)+p.2.2.2*(a.2*b.2)):=by unfold jn;omega
  rw [e]
  exact (((hp.1.mul (ha.1.mul hb.1)).add (hp.2.1.mul (ha.1.mul hb.2))).add ((hp.2.2.1.mul (ha.2.mul hb.1)).add (hp.2.2.2.mul (ha.2.mul hb.2)))).le (by omega)
theorem Y6 {n m:Nat} {f:I3} {v:I2} (hf:B3 n f) (hv:B2 m v):Bt (n+m+m+2) (val f v):=by
  obtain ⟨a,b,c⟩:=f
  obtain ⟨x,y⟩:=v
  exact ((((hf.1.mul hv.1).mul hv.1).add ((hf.2.1.mul hv.1).mul hv.2)).add ((hf.2.2.mul hv.2).mul hv.2)).le (by omega)
noncomputable abbrev J9:DSp:=BJ (fun p:(I3 × I3 × I3) × I4 × I4=>[t3 p.1.1,t3 p.1.2.1,t3 p.1.2.2,Er p.2.1 p.2.2]) (fun p=>FA p.2.1 p.2.2=p.1.1∧FB p.2.1 p.2.2=p.1.2.1∧FC p.2.1 p.2.2=p.1.2.2∧B3 800 p.1.1∧B3 800 p.1.2.1∧B3 1500 p.1.2.2∧B4 110000 p.2.1∧B4 110000 p.2.2) fun _=>.bl true
theorem Qn (T:Txt K mg)
    (G__law_joined:Pm P w K mg base 1 "_law_joined" BZ ["_law_rows","_law_one","_law_other"] Hi)
    (G__law_value:Pm P w K mg base 1 "_law_value" Dk ["_law_form","_law_x","_law_y"] Hz)
    : Pm P w K mg base 2 "_law_walks" El ["_law_one","_law_other","_law_form","_law_rows"] J9:=by
  obtain ⟨f,fd,F⟩:=T.t__law_walks
  refine ⟨f,fd,F,F.fn.okD Cj (by walk_at "lE") fun cdv A outer s H E hr=>⟨_,(Ad (Og PassesOwn.never rfl (Ml (G8 (Aa (Ba (Aa Ab (Aa Ab Ae))) (Aa (Ba (Aa Ab (Aa Ab Ae))) (Aa (Ba (Aa Ab (Aa Ab Ae))) Ae))))) (IW (n:=2) rfl (Az (Bc 4 Cj.nd) (Az (Bc 5 Cj.nd) Ez))) (Ah (Og PassesOwn.never rfl (Ml (G8 (Aa (Ba (Aa Ab (Aa Ab Ae))) (Aa (Ba (Aa Ab (Aa Ab Ae))) (Aa (Ba (Aa Ab (Aa Ab Ae))) Ae))))) (IW (n:=2) rfl (Az (Bc 6 Cj.nd) (Az (Bc 7 Cj.nd) Ez))) (Ad (Al 8 Cj.nd (Ag Af G__law_joined (hr.mono (by decide)) rfl (Aa (dv 3) (Aa (Ba (Aa (dv 4) (Aa (dv 5) Ae))) (Aa (Ba (Aa (dv 6) (Aa (dv 7) Ae))) Ae))))) (Ah (Ca (FW hr.units (Ak (Ag Af G__law_value (hr.mono (by decide)) rfl (Aa (dv 0) (Aa (dv 4) (Aa (dv 5) Ae)))) (Ag Af G__law_value (hr.mono (by decide)) rfl (Aa (dv 1) (Aa (dv 6) (Aa (dv 7) Ae))))) (Ag Af G__law_value (hr.mono (by decide)) rfl (Aa (dv 2) (Aa (Ac (dv 8) Ab) (Aa (Ac (dv 8) Ab) Ae))))) (Ah (Aq Jf)) Bd)))))) (Ad (Hy (dv 3) (IW (n:=2) rfl (Az (Bc 9 Cj.nd) (Az (Bc 10 Cj.nd) Ez)))) (Ad (Ca (FW hr.units (Bl (Ak (Ac (dv 9) Ab) (Ac (dv 10) Ab)) (Ak (Ac (dv 9) Ab) (Ac (dv 10) Ab))) (Ac (dv 0) Ab)) (Ah (Aq Jf)) Bd) (Ah (Aq (QM hr.units (Bl (Ak (Ac (dv 9) Ab) (Ac (dv 10) Ab)) (Ak (Ac (dv 9) Ab) (Ac (dv 10) Ab))) (Ac (dv 1) Ab))))))),fun ds Q h=>?_⟩⟩
  obtain ⟨⟨⟨f,h0,G⟩,r,s0⟩,rfl,⟨e1,e2,e3,b1,b2,b3,h1,h2⟩,q⟩:=h
  have e1:FA r s0=f:=e1
  have e2:FB r s0=h0:=e2
  have e3:FC r s0=G:=e3
  have h1:B4 110000 r:=h1
  have h2:B4 110000 s0:=h2
  have q':Q (.bl true):=q _ rfl
  walk_at "go"
  have pts:∀ (k:Nat) (d:Dt),[t2 (1,0),t2 (0,1),t2 (1,1)][k]? = some d→∃ x y:Int,d=t2 (x,y)∧B2 2 (x,y):=fun k d hk=>by
    match k,hk with
    | 0,hk=>exact ⟨1,0,(Option.some.inj hk).symm,Bt.one.le (by decide),Bt.zero.le (by decide)⟩
    | 1,hk=>exact ⟨0,1,(Option.some.inj hk).symm,Bt.zero.le (by decide),Bt.one.le (by decide)⟩
    | 2,hk=>exact ⟨1,1,(Option.some.inj hk).symm,Bt.one.le (by decide),Bt.one.le (by decide)⟩
    | k+3,hk=>simp at hk
  refine Lk [t2 (1,0),t2 (0,1),t2 (1,1)] (fun R hR=>?_) (fun i ρ=>∃ x1 x2 x3 x4 x5,ρ=[some (.is (t3 f)),some (.is (t3 h0)),some (.is (t3 G)),some (.is (Er r s0)),x1,x2,x3,x4,x5,none,none]) ⟨_,_,_,_,_,rfl⟩ ?_ ?_
  · walk_at "rd"
    exact ⟨Am (by decide),Am (by decide),Am (by decide),Am (by decide),hR⟩
  · rintro i d _ hi ⟨x1,x2,x3,x4,x5,rfl⟩
    obtain ⟨x,y,rfl,bxy⟩:=pts i d hi
    walk_at "rd"
    refine Lk [t2 (1,0),t2 (0,1),t2 (1,1)] (fun R hR=>?_) (fun i ρ=>∃ x3 x4 x5,ρ=[some (.is (t3 f)),some (.is (t3 h0)),some (.is (t3 G)),some (.is (Er r s0)),some (.is (.int x)),some (.is (.int y)),x3,x4,x5,none,none]) ⟨_,_,_,rfl⟩ ?_ ?_
    · walk_at "rd"
      exact ⟨Am (by decide),Am (by decide),Am (by decide),Am (by decide),hR⟩
    · rintro i' d _ hi' ⟨x3,x4,x5,rfl⟩
      obtain ⟨z,w,rfl,bzw⟩:=pts i' d hi'
      walk_at "rd"
      refine ⟨Am (by decide),Am (by decide),Aj ((r,s0),(x,y),(z,w)) ⟨h1,h2,bxy.le (by decide),bzw.le (by decide)⟩ (Aj (f,(x,y)) ⟨b1.le (by decide),bxy.le (by decide)⟩ (Aj (h0,(z,w)) ⟨b2.le (by decide),bzw.le (by decide)⟩ ⟨?_,Aj (G,(jn r (x,y) (z,w),jn s0 (x,y) (z,w))) ⟨b3.le (by decide),?_,?_⟩ ⟨Iw,FQ ?_ ⟨_,_,_,rfl⟩⟩⟩))⟩
      · exact (Y6 b1 bxy).mulOk (Y6 b2 bzw)
      · exact (Ada h1 bxy bzw).le (by decide)
      · exact (Ada h2 bxy bzw).le (by decide)
      · have cv:=Aaq (p:=r) (q:=s0) x y z w
        rw [e1,e2,e3] at cv
        dsimp only
        rw [M6,decide_eq_true (show val f (x,y)*val h0 (z,w)=val G (jn r (x,y) (z,w),jn s0 (x,y) (z,w)) from cv.symm)]
        rfl
    · rintro _ ⟨x3,x4,x5,rfl⟩
      exact ⟨_,_,_,_,_,rfl⟩
  · rintro _ ⟨x1,x2,x3,x4,x5,rfl⟩
    walk_at "rd"
    have f1:r.1*s0.2.1 - r.2.1*s0.1=f.1:=by rw [←e1];rfl
    have f2:r.1*s0.2.2.1 - r.2.2.1*s0.1=h0.1:=by rw [←e2];rfl
    refine ⟨h1.1.mulOk h2.2.1,h1.2.1.mulOk h2.1,FQ (by rw [decide_eq_true f1];rfl) ⟨h1.1.mulOk h2.2.2.1,h1.2.2.1.mulOk h2.1,?_⟩⟩
    rw [decide_eq_true f2]
    exact q'
theorem WL {f:I3} (h:Bo f∨Sad f):Bo (f.1,0 - f.2.1,f.2.2)∨Sad (f.1,0 - f.2.1,f.2.2):=by
  rcases h with h | h
  · exact .inl ⟨h.1,by rw [JN];exact h.2⟩
  · exact .inr ⟨by rw [JN];exact h.no,by rw [JN];exact h.pos,by rw [JN];exact h.most⟩
theorem Ahy (v:I2):Dt.flat 8 (t2 v)=true:=by simp only [S8,RV,RX,Iw,Bool.and_true]
theorem Ai7 (G:I3) (p r:I4):Dt.flat 8 (.tup [t3 G,Er p r])=true:=by
  show Dt.flats 7 [t3 G,Er p r]=true
  rfl
theorem Ab2 {G:I3} {p r:I4}:Dt.eq (.tup [t3 G,Er p r]) (.tup [t3 G,Er p r])=true:=by
  simp [Dt.eq,Dt.eqs]
noncomputable def Adv (ns:List Int):Dt→Dt
  | .int k=>.int ((ns.getD k.toNat 0).fmod (2*10 ^ Int.toNat 60+1) - 10 ^ Int.toNat 60)
  | _=>.non
theorem Ze (ns:List Int):(ups 6 4).map (Adv ns)=[.int ((ns.getD 6 0).fmod (2*10 ^ Int.toNat 60+1) - 10 ^ Int.toNat 60),.int ((ns.getD 7 0).fmod (2*10 ^ Int.toNat 60+1) - 10 ^ Int.toNat 60),.int ((ns.getD 8 0).fmod (2*10 ^ Int.toNat 60+1) - 10 ^ Int.toNat 60),.int ((ns.getD 9 0).fmod (2*10 ^ Int.toNat 60+1) - 10 ^ Int.toNat 60)]:=rfl
structure Two (f h:I3):Prop where
  bf:B3 245 f
  bh:B3 245 h
  kf:Bo f∨Sad f
  kh:Bo h∨Sad h
  m:meas f=meas h
  pf:g3 f=1
  ph:g3 h=1
  bm:Bt 600 (meas f)
theorem Ac5 {f:I3} {n:Nat} (h:B3 n f):B3 n (f.1,0 - f.2.1,f.2.2):=⟨h.1,by show Bt n (0 - f.2.1);rw [Int.zero_sub];exact h.2.1.neg,h.2.2⟩
theorem ZQ {f h:I3} (T:Two f h) (k:Int):Two (pairF f h k).1 (pairF f h k).2:=by
  unfold pairF
  split
  · exact T
  · split
    · exact ⟨T.bf,T.bf,T.kf,T.kf,rfl,T.pf,T.pf,T.bm⟩
    · split
      · exact ⟨T.bf,Ac5 T.bf,T.kf,WL T.kf,JN.symm,T.pf,by rw [AdJ];exact T.pf,T.bm⟩
      · exact ⟨T.bh,Ac5 T.bf,T.kh,WL T.kf,by rw [JN];exact T.m.symm,T.ph,by rw [AdJ];exact T.pf,by rw [←T.m];exact T.bm⟩
theorem Ae2 (T:Txt K mg)
    (G__law_united:Pm P w K mg base 3 "_law_united" CJ ["_law_script","_law_many"] Jp)
    (G__law_pair:Pm P w K mg base 1 "_law_pair" Fj ["_law_forms","_law_way"] Lh)
    (G__law_moved:Pm P w K mg base 2 "_law_moved" Ec ["_law_form","_law_turn_here"] JZ)
    (G_product:Pm P w K mg base 12 "product" GX ["one","other"] N5)
    (G_joined:Pm P w K mg base 2 "joined" Ia ["rows","one","other"] Ri)
    (G__law_flat:Pm P w K mg base 2 "_law_flat" Fp ["_law_form"] K4)
    (G__law_turn:Pm P w K mg base 1 "_law_turn" Fq ["_law_first","_law_cells"] K7)
    (G__law_bar:Pm P w K mg base 1 "_law_bar" Dm ["_law_form"] Gn)
    (G__law_cell:Pm P w K mg base 1 "_law_cell" Dd ["_law_script","_law_k"] Fx)
    (G__law_wholes:Pm P w K mg base 2 "_law_wholes" CN ["_law_found","_law_many"] CZ)
    (G__law_least:Pm P w K mg base 3 "_law_least" Eo ["_law_form"] J1)
    (G__law_walks:Pm P w K mg base 2 "_law_walks" El ["_law_one","_law_other","_law_form","_law_rows"] J9)
    (G__law_joined:Pm P w K mg base 1 "_law_joined" BZ ["_law_rows","_law_one","_law_other"] Hi)
    : Pm P w K mg base 13 "law" JR ["_law_script"] S7:=by
  obtain ⟨f,fd,F⟩:=T.t_law
  refine ⟨f,fd,F,F.fn.okD Gd (by walk_at "lE") fun cdv A outer s H E hr=>⟨_,(Ad (Al 1 Gd.nd (Ag Af G__law_united (hr.mono (by decide)) rfl (Aa (dv 0) (Aa Ab Ae)))) (Ad (Ca (DW.dt (Rr (Air (Ag Af G__law_bar (hr.mono (by decide)) rfl (Aa (Ac (dv 1) Ab) Ae)) Ab) (Nt (Fb (Ag Af G__law_flat (hr.mono (by decide)) rfl (Aa (Ac (dv 1) Ab) Ae)))))) (Ah (Aq Jf)) Bd) (Ad (Hy (Ag Af G__law_pair (hr.mono (by decide)) rfl (Aa (dv 1) (Aa (Dz (Ag Af G__law_cell (hr.mono (by decide)) rfl (Aa (dv 0) (Aa Ab Ae))) Ab) Ae))) (Vi (n:=2) rfl (Az (Bc 2 Gd.nd) (Az (Bc 3 Gd.nd) Ez)))) (Ad (Al 4 Gd.nd (Oq (dv 0) (Nq Ab) (Nq Ab))) (Ad (Al 2 Gd.nd (Ag Af G__law_moved (hr.mono (by decide)) rfl (Aa (dv 2) (Aa (Ag Af G__law_turn (hr.mono (by decide)) rfl (Aa Ab (Aa (Oq (dv 4) W3 (Nq (Bu (Ka T.z_len (Aa (dv 4) Ae)) Ab))) Ae))) Ae)))) (Ad (Al 3 Gd.nd (Ag Af G__law_moved (hr.mono (by decide)) rfl (Aa (dv 3) (Aa (Ag Af G__law_turn (hr.mono (by decide)) rfl (Aa Ab (Aa (Oq (dv 4) (Nq (Bu (Ka T.z_len (Aa (dv 4) Ae)) Ab)) W3) Ae))) Ae)))) (Ad (Al 5 Gd.nd (Ag Af G_product (hr.mono (by decide)) rfl (Aa (dv 2) (Aa (dv 3) Ae)))) (Ad (Ca (DW.dt (Jc (FN (Fb (O5 T.z_isinstance T.z_tuple Mj (dv 5)))) (Jc (FW hr.units (Ka T.z_len (Aa (dv 5) Ae)) Ab) (Jl (FN (Fb (Ag Af G__law_wholes (hr.mono (by decide)) rfl (Aa (Ac (dv 5) Ab) (Aa Ab Ae))))))))) (Ah (Aq Jf)) Bd) (Ad (Hy (dv 5) (IW (n:=2) rfl (Az (Bc 6 Gd.nd) (Az (Bc 7 Gd.nd) Ez)))) (Ad (Ca (DW.dt (Jc (FN (Fb (O5 T.z_isinstance T.z_tuple Mj (dv 7)))) (Jc (FW hr.units (Ka T.z_len (Aa (dv 7) Ae)) Ab) (Jc (FN (Fb (Ag Af G__law_wholes (hr.mono (by decide)) rfl (Aa (Ac (dv 7) Ab) (Aa Ab Ae))))) (Jl (FN (Fb (Ag Af G__law_wholes (hr.mono (by decide)) rfl (Aa (Ac (dv 7) Ab) (Aa Ab Ae)))))))))) (Ah (Aq Jf)) Bd) (Ad (Ca (DW.dt (Jc (Le hr.units (Ac (dv 6) Ab) Ab) (Jc (FW hr.units (Ag Af G__law_bar (hr.mono (by decide)) rfl (Aa (dv 6) Ae)) (Ag Af G__law_bar (hr.mono (by decide)) rfl (Aa (dv 2) Ae))) (Jl (DW.dt (Rr (Jx (Ag Af G__law_bar (hr.mono (by decide)) rfl (Aa (dv 6) Ae)) Ab) (Nt (Jx (Ac (dv 6) Ab) Ab)))))))) (Ah (Aq Jf)) Bd) (Ad (Ca (DW.dt (Jc (FW hr.units (Ag Af G__law_least (hr.mono (by decide)) rfl (Aa (dv 6) Ae)) (dv 6)) (Jl (FN (Fb (Ag Af G__law_walks (hr.mono (by decide)) rfl (Aa (dv 2) (Aa (dv 3) (Aa (dv 6) (Aa (dv 7) Ae)))))))))) (Ah (Aq Jf)) Bd) (Ad (Al 8 Gd.nd (Bh (Ak Ab (Vr Ab Ab)) Ab)) (Ad (Xl 9 Gd.nd (Fg (sc:=Ai JR) (NN:=["_law_script","_law_forms","_law_one","_law_other","_law_cells","_law_found","_law_form","_law_rows","_law_far","_law_spots","_law_told"]) (x:="_law_k") (N:=["_law_far","_law_script"]) (sl:=[8,0]) rfl rfl (by decide +kernel)) rfl (Aby rfl T.z_range (Aa Ab (Aa Ab Ae))) (fun cl C s0 H0 ex=>(Bl (Dz (Ag Af G__law_cell (hr.mono (by decide)) rfl (Aa (dv 2) (Aa (dv 0) Ae))) (dv 1)) (Vr Ab Ab)))) (Ad (Al 10 Gd.nd (Ag Af G_joined (hr.mono (by decide)) rfl (Aa (dv 7) (Aa (Ba (Aa (Ac (dv 9) Ab) (Aa (Ac (dv 9) Ab) Ae))) (Aa (Ba (Aa (Ac (dv 9) Ab) (Aa (Ac (dv 9) Ab) Ae))) Ae))))) (Ad (Ca (DW.dt (Jc (FN (Fb (Ag Af G__law_wholes (hr.mono (by decide)) rfl (Aa (dv 10) (Aa Ab Ae))))) (Jl (FW hr.units (dv 10) (Ag Af G__law_joined (hr.mono (by decide)) rfl (Aa (dv 7) (Aa (Ba (Aa (Ac (dv 9) Ab) (Aa (Ac (dv 9) Ab) Ae))) (Aa (Ba (Aa (Ac (dv 9) Ab) (Aa (Ac (dv 9) Ab) Ae))) Ae)))))))) (Ah (Aq Jf)) Bd) (Ah (Aq (QM hr.units (Ag Af G_product (hr.mono (by decide)) rfl (Aa (dv 2) (Aa (dv 3) Ae))) (dv 5)))))))))))))))))))),fun ds Q h=>?_⟩⟩
  obtain ⟨ns,rfl,hn,q⟩:=h
  have hn:ns.length≤63:=hn
  have q':Q (.bl true):=q _ rfl
  have cp:Vz 10 60:=⟨by decide,by decide,by decide⟩
  have two:Bt 2 2:=Bt.of_abs (by decide)
  have t60:Bt 300 ((10:Int) ^ Int.toNat 60):=Bt.of_abs (by decide)
  walk_at "go"
  refine Br (ns,2) (.inl rfl) ?_
  rintro _ ⟨b,tot,ps,rfl,U⟩
  have U:Uni 2 b tot ps:=U
  obtain ⟨x,y,rfl⟩:=Aex U.len
  obtain ⟨f,ef⟩:∃ f,(x,b,tot.fdiv x)=f:=⟨_,rfl⟩
  obtain ⟨h0,eh⟩:∃ h,(y,b,tot.fdiv y)=h:=⟨_,rfl⟩
  have U2:=Abi U ef eh
  simp only [List.map_cons,List.map_nil]
  rw [ef,eh]
  obtain ⟨cs,ec,hcs⟩:=Aaw ns (some 10) (some 70)
  obtain ⟨us,vs,eu,ev,lu,lv⟩:=Vd cs
  walk_at "rd"
  rw [ec] at *
  refine Aj f (U2.bf.le (by decide)) (Eb (fun hz=>Br f ⟨U2.bf.le (by decide),of_decide_eq_true hz⟩ ?_) (fun hz=>?_))
  case' refine_1 =>
    rintro _ ⟨k,rfl,hk⟩
    have hz:=of_decide_eq_true hz
    rw [U2.mf] at hk hz
    refine Eb (fun _=>q') (fun hk'=>?_)
    have kk:=U2.sad hz fun z=>hk' (hk.mpr z)
    have T2:Two f h0:=⟨U2.bf,U2.bh,.inr kk.1,.inr kk.2,by rw [U2.mf,U2.mh],U2.pf,U2.ph,U2.bm⟩
  case' refine_2 =>
    have hz:¬ 0≤meas f:=fun z=>hz (decide_eq_true z)
    rw [U2.mf] at hz
    have kk:=U2.bowl (by omega)
    have T2:Two f h0:=⟨U2.bf,U2.bh,.inl kk.1,.inl kk.2,by rw [U2.mf,U2.mh],U2.pf,U2.ph,U2.bm⟩
  all_goals
    refine Io ns 6 (by decide) ⟨by decide,Aj (f,h0,(ns.getD (Int.toNat 6) 0).fmod 4) trivial ?_⟩
    have T3:=ZQ T2 ((ns.getD (Int.toNat 6) 0).fmod 4)
    dsimp only
    generalize pairF f h0 ((ns.getD (Int.toNat 6) 0).fmod 4)=pr at *
    obtain ⟨f',h'⟩:=pr
    dsimp only at T3 ⊢
    rw [eu,ev]
    refine ⟨rfl,⟨by decide,by decide⟩,Br (0,us) ⟨rfl,by show us.length≤63;omega⟩ ?_⟩
    rintro _ ⟨t,rfl,dt,bt⟩
    have bt:B4 165 t:=bt.le (by show 2+5*us.length≤165;omega)
    refine Aj (f',t) ⟨T3.bf.le (by decide),bt.le (by decide)⟩ ⟨⟨by decide,by decide⟩,Br (0,vs) ⟨rfl,by show vs.length≤63;omega⟩ ?_⟩
    rintro _ ⟨u,rfl,du,bu⟩
    have bu:B4 165 u:=bu.le (by show 2+5*vs.length≤165;omega)
    have bft:=(B3.mov T3.bf bt).le (m:=690) (by decide)
    have bhu:=(B3.mov T3.bh bu).le (m:=690) (by decide)
    have kft:=Pg T3.kf dt
    have khu:=Pg T3.kh du
    have mft:meas (mov f' t)=meas f':=Bs dt
    have mhu:meas (mov h' u)=meas h':=Bs du
    have pft:g3 (mov f' t)=1:=by rw [Tn dt];exact T3.pf
    have phu:g3 (mov h' u)=1:=by rw [Tn du];exact T3.ph
    have P1:Pair (mov f' t) (mov h' u):=Pair.of bft bhu kft khu (by rw [mft,mhu,T3.m]) pft phu (by rw [mft];exact T3.bm)
    refine Aj (h',u) ⟨T3.bh.le (by decide),bu.le (by decide)⟩ ?_
    dsimp only
    generalize mov f' t=F1 at *
    generalize mov h' u=H1 at *
    refine Br (F1,H1) P1 ?_
    rintro _ ⟨⟨F,G,p,r,c1,L,e1,e2,e3,rfl,bp,br⟩,D1⟩
    have c1:Comp F1 H1 F:=c1
    have e1:FA p r=F1:=e1
    have e2:FB p r=H1:=e2
    have D1:QS F1 H1 (.tup [t3 G,Er p r]):=D1
    have cG:Comp F1 H1 G:=⟨p,r,e1,e2,e3⟩
    have mG:meas G=meas F1:=by rw [cG.meas.2,cG.meas.1]
    have bG:B3 600 G:=L.btn (by rw [c1.meas.2,←c1.meas.1,mft];exact T3.bm) (by decide)
    walk_at "rd"
    refine Ab9 G ?_
    walk_at "rd"
    refine Xj p ?_
    walk_at "rd"
    refine Xj r ?_
    walk_at "rd"
    have kF:Bo F∨Sad F:=L.elim (fun z=>.inl z.1) (fun z=>.inr z.1)
    obtain ⟨x0,dx,ex⟩:=L.turn
    have kG:Bo G∨Sad G:=by rw [←ex];exact Pg kF dx
    have a0:=Fe kG
    have b15:B3 1500 G:=bG.le (by decide)
    refine FQ (decide_eq_false a0) (Aj G (bG.le (by decide)) (Aj F1 (bft.le (by decide)) ⟨⟨Iw,Iw⟩,FQ (by show (!(Dt.eq (.int (meas G)) (.int (meas F1))))=false;rw [M6,decide_eq_true mG];rfl) (Aj G (bG.le (by decide)) (Eb (fun hm=>FQ (decide_eq_false ?_) ?_) (fun _=>?_)))⟩))
    · have hm:meas G < 0:=of_decide_eq_true hm
      rcases kG with z | z
      · have:=z.1;omega
      · have:=z.pos;omega
    all_goals
      refine Br G ⟨b15,kG⟩ ?_
      rintro _ ⟨g,rfl,Lg⟩
      have eg:G=g:=L.same Lg dx ex
      subst eg
      refine ⟨Ais G,FQ (by rw [Ahk,decide_eq_true rfl];rfl) (Aj ((F1,H1,G),p,r) ⟨e1,e2,e3,bft.le (by decide),bhu.le (by decide),b15,bp,br⟩ (FQ rfl ⟨cp,two.mulOk t60,FZ (ups 6 4) (Adv ns) (fun R hR=>?_) (Am (by decide)) (CG rfl (CG rfl DQ)) (fun d hd R hR=>?_) ?_⟩))⟩
      · walk_at "rd"
        exact ⟨⟨by decide,by decide,by decide,by decide⟩,hR⟩
      · have hd:d=.int 6∨d=.int 7∨d=.int 8∨d=.int 9:=by simpa [ups,List.range,List.range.loop] using hd
        unfold inner
        rcases hd with rfl | rfl | rfl | rfl <;>
        · walk_at "rd"
          exact Io ns _ (by decide) ⟨by decide,cp,hR⟩
      · rw [Ze]
        have w0:=Wn (ns.getD 6 0)
        have w1:=Wn (ns.getD 7 0)
        have w2:=Wn (ns.getD 8 0)
        have w3:=Wn (ns.getD 9 0)
        generalize (ns.getD 6 0).fmod (2*10 ^ Int.toNat 60+1) - 10 ^ Int.toNat 60=s0 at *
        generalize (ns.getD 7 0).fmod (2*10 ^ Int.toNat 60+1) - 10 ^ Int.toNat 60=s1 at *
        generalize (ns.getD 8 0).fmod (2*10 ^ Int.toNat 60+1) - 10 ^ Int.toNat 60=s2 at *
        generalize (ns.getD 9 0).fmod (2*10 ^ Int.toNat 60+1) - 10 ^ Int.toNat 60=s3 at *
        walk_at "rd"
        refine ⟨Am (by decide),Am (by decide),Aj ((p,r),(s0,s1),(s2,s3)) ⟨bp,br,⟨w0,w1⟩,⟨w2,w3⟩⟩ (Abt _ ?_)⟩
        walk_at "rd"
        refine ⟨Am (by decide),Am (by decide),Aj ((p,r),(s0,s1),(s2,s3)) ⟨bp,br,⟨w0,w1⟩,⟨w2,w3⟩⟩ ⟨Ahy _,FQ ?_ (Br (F1,H1) P1 ?_)⟩⟩
        · dsimp only
          rw [Ahd,decide_eq_true rfl]
          rfl
        · rintro _ ⟨_,D2⟩
          obtain rfl:=D1.uniq D2
          refine ⟨Ai7 G p r,?_⟩
          rw [Ab2]
          exact q'
end
noncomputable abbrev nF (K:PySem.W.Frag) (n:Str) (s:Stmt):Prop:=∃ (f:Addr) (oc:Value) (od:Option Addr) (kV dc pm:Value) (an:Option Addr) (cd ct:Value) (sl:Array (Option Value)),PySem.W.nsIn K mainGlobals n=some (some (.ref f))∧K.lookup f=some ⟨oc,od,.func (PySem.W.fnOf n n (Eh s) (Dl s) (Ai s) .none kV dc pm an cd ct),sl⟩∧PySem.W.codeIn K cd n=true∧PySem.W.keepIn K (.ref f)=true
theorem Ac6 {K:PySem.W.Frag} {n:Str} {s:Stmt} {f:Addr} {od an:Option Addr} {sl:Array (Option Value)} {oc kV dc pm cd ct:Value} (a:PySem.W.nsIn K mainGlobals n=some (some (.ref f))) (l:K.lookup f=some ⟨oc,od,.func (PySem.W.fnOf n n (Eh s) (Dl s) (Ai s) .none kV dc pm an cd ct),sl⟩) (c:PySem.W.codeIn K cd n=true) (k:PySem.W.keepIn K (.ref f)=true):nF K n s:=⟨f,oc,od,kV,dc,pm,an,cd,ct,sl,a,l,c,k⟩
theorem tM {K:PySem.W.Frag} {h:Heap} {mg:Str→Option Value} {n:Str} {s:Stmt} {ps:List Str} (X:K.In h) (G:h.Ns mainGlobals mg) (H:nF K n s)
    (hb:∀ (kV doc pm:Value) (an:Option Addr) (cdv ct:Value) (us:List Value),us.length=ps.length→bindArgs (PySem.W.fnOf n n (Eh s) (Dl s) (Ai s) .none kV doc pm an cdv ct) ⟨us,[]⟩=pure (ps.zip us)):∃ f fd,FnT K mg n s ps f fd:=by
  obtain ⟨f,oc,od,kV,dc,pm,an,cd,ct,sl,a,l,c,k⟩:=H
  have F:=Mp (st:=s) l c k
  exact ⟨_,_,F,PySem.W.mg_of X G a,F.binds hb⟩
set_option maxHeartbeats 8000000 in
theorem all_mk {l:PySem.W.OpenLaw} {w:World} {K:PySem.W.Frag} {h:Heap} {mg:Str→Option Value} {fa:Addr} (X:K.In h) (G:h.Ns mainGlobals mg) (hfa:mg "law"=some (.ref fa))
    (h0:nF K "divisor" GP)
    (h1:nF K "shares" HX)
    (h2:nF K "row_less" Ge)
    (h3:nF K "root" Jj)
    (h4:nF K "is_square" Fo)
    (h5:nF K "check_at_most" Cr)
    (h6:nF K "is_turn" GR)
    (h7:nF K "check_turn" Cz)
    (h8:nF K "led" QZ)
    (h9:nF K "put_behind" Dg)
    (h10:nF K "back" LQ)
    (h11:nF K "measure" Cv)
    (h12:nF K "value" JF)
    (h13:nF K "content" GJ)
    (h14:nF K "moved" Ig)
    (h15:nF K "middle" HN)
    (h16:nF K "shape" Hr)
    (h17:nF K "check_bowl" Ej)
    (h18:nF K "stands_least" CV)
    (h19:nF K "settled" GF)
    (h20:nF K "turn_lower" Ea)
    (h21:nF K "check_saddle" Cp)
    (h22:nF K "stands_level" CT)
    (h23:nF K "turn_behind" Dv)
    (h24:nF K "stop_behind" CK)
    (h25:nF K "eased" JK)
    (h26:nF K "stops_round" Ds)
    (h27:nF K "lowered" GZ)
    (h28:nF K "shape_of" EY)
    (h29:nF K "product" GX)
    (h30:nF K "check_pair" Ei)
    (h31:nF K "check_plain" Dq)
    (h32:nF K "half_of_middles" Bw)
    (h33:nF K "common_shares" Cw)
    (h34:nF K "joint_form" Ef)
    (h35:nF K "joint_rows" Em)
    (h36:nF K "rows_led" Df)
    (h37:nF K "joined" Ia)
    (h38:nF K "joined_by" Fi)
    (h39:nF K "_law_cell" Dd)
    (h40:nF K "_law_whole" Ek)
    (h41:nF K "_law_wholes" CN)
    (h42:nF K "_law_bar" Dm)
    (h43:nF K "_law_root" DR)
    (h44:nF K "_law_flat" Fp)
    (h45:nF K "_law_level" Ed)
    (h46:nF K "_law_behind" Dr)
    (h47:nF K "_law_bowl" Ft)
    (h48:nF K "_law_least" Eo)
    (h49:nF K "_law_rest" Fl)
    (h50:nF K "_law_turn" Fq)
    (h51:nF K "_law_value" Dk)
    (h52:nF K "_law_moved" Ec)
    (h53:nF K "_law_sum" Gb)
    (h54:nF K "_law_united" CJ)
    (h55:nF K "_law_pair" Fj)
    (h56:nF K "_law_joined" BZ)
    (h57:nF K "_law_walks" El)
    (h58:nF K "law" JR)
    (z_abs:PySem.W.nsIn K mainGlobals "abs"=some none)
    (z_bool:PySem.W.nsIn K mainGlobals "bool"=some none)
    (z_int:PySem.W.nsIn K mainGlobals "int"=some none)
    (z_isinstance:PySem.W.nsIn K mainGlobals "isinstance"=some none)
    (z_len:PySem.W.nsIn K mainGlobals "len"=some none)
    (z_max:PySem.W.nsIn K mainGlobals "max"=some none)
    (z_min:PySem.W.nsIn K mainGlobals "min"=some none)
    (z_range:PySem.W.nsIn K mainGlobals "range"=some none)
    (z_sum:PySem.W.nsIn K mainGlobals "sum"=some none)
    (z_tuple:PySem.W.nsIn K mainGlobals "tuple"=some none)
    (z_zip:PySem.W.nsIn K mainGlobals "zip"=some none)
    {CS_Shape gS_Shape:Addr} {odS_Shape anS_Shape:Option Addr} {slS_Shape:Array (Option Value)} {ocS_Shape kVS_Shape dcS_Shape pmS_Shape cdS_Shape ctS_Shape:Value}
    (aS_Shape:PySem.W.nsIn K mainGlobals "Shape"=some (some (.ref CS_Shape))) (sS_Shape:PySem.W.specialIn K (.ref CS_Shape) "__getattribute__"=some (some (.builtin "type.__getattribute__"))) (rS_Shape:PySem.W.readsIn K CS_Shape (.type "type")=true) (fS_Shape:PySem.W.findCls K (.ref CS_Shape) (.type "type") "__init__"=some (.val (.ref gS_Shape)))
    (lS_Shape:K.lookup gS_Shape=some ⟨ocS_Shape,odS_Shape,.func (PySem.W.fnOf "__init__" "Shape.__init__" (Eh HW) (Dl HW) (Ai HW) .none kVS_Shape dcS_Shape pmS_Shape anS_Shape cdS_Shape ctS_Shape),slS_Shape⟩) (cS_Shape:PySem.W.codeIn K cdS_Shape "Shape.__init__"=true) (kS_Shape:PySem.W.keepIn K (.ref gS_Shape)=true)
    {CO_Bowl fO_Bowl:Addr} {odO_Bowl anO_Bowl:Option Addr} {slO_Bowl:Array (Option Value)} {ocO_Bowl kVO_Bowl dcO_Bowl pmO_Bowl cdO_Bowl ctO_Bowl:Value}
    (aO_Bowl:PySem.W.nsIn K mainGlobals "Bowl"=some (some (.ref CO_Bowl))) (mO_Bowl:PySem.W.makesIn K CO_Bowl=true) (iO_Bowl:PySem.W.findIn K (.ref CO_Bowl) "__init__"=some (some (.ref fO_Bowl))) (nO_Bowl:PySem.W.isFn K (.ref fO_Bowl)=true) (kO_Bowl:PySem.W.keepIn K (.ref CO_Bowl)=true)
    (pgO_Bowl:PySem.W.plainGet K CO_Bowl Str.empty=true) (hdO_Bowl:PySem.W.hasDictIn K CO_Bowl=true) (poO_Bowl:PySem.W.plainOver K CO_Bowl=true) (saO_Bowl:PySem.W.findIn K (.ref CO_Bowl) "__setattr__"=some (some (.builtin "object.__setattr__")))
    (clO_Bowl:PySem.W.findIn K (.ref CO_Bowl) "__class__"=some (some (.builtin "object.__class__"))) (gg1_Bowl:PySem.W.specialIn K (.builtin "object.__class__") "__get__"=some (some (.builtin "getset_descriptor.__get__"))) (gt1_Bowl:PySem.W.takesIn K (.builtin "object.__class__")=some true) (mrO_Bowl:PySem.W.mroIn K CO_Bowl (.type "object")=some true)
    (lO_Bowl:K.lookup fO_Bowl=some ⟨ocO_Bowl,odO_Bowl,.func (PySem.W.fnOf "__init__" "Bowl.__init__" (Eh JM) (Dl JM) (Ai JM) .none kVO_Bowl dcO_Bowl pmO_Bowl anO_Bowl cdO_Bowl ctO_Bowl),slO_Bowl⟩) (cO_Bowl:PySem.W.codeIn K cdO_Bowl "Bowl.__init__"=true) (kfO_Bowl:PySem.W.keepIn K (.ref fO_Bowl)=true)
    (nfO_Bowl_form:PySem.W.findIn K (.ref CO_Bowl) "form"=some none)
    (nfO_Bowl_measure:PySem.W.findIn K (.ref CO_Bowl) "measure"=some none)
    (nfO_Bowl_lowest:PySem.W.findIn K (.ref CO_Bowl) "lowest"=some none)
    {CO_Saddle fO_Saddle:Addr} {odO_Saddle anO_Saddle:Option Addr} {slO_Saddle:Array (Option Value)} {ocO_Saddle kVO_Saddle dcO_Saddle pmO_Saddle cdO_Saddle ctO_Saddle:Value}
    (aO_Saddle:PySem.W.nsIn K mainGlobals "Saddle"=some (some (.ref CO_Saddle))) (mO_Saddle:PySem.W.makesIn K CO_Saddle=true) (iO_Saddle:PySem.W.findIn K (.ref CO_Saddle) "__init__"=some (some (.ref fO_Saddle))) (nO_Saddle:PySem.W.isFn K (.ref fO_Saddle)=true) (kO_Saddle:PySem.W.keepIn K (.ref CO_Saddle)=true)
    (pgO_Saddle:PySem.W.plainGet K CO_Saddle Str.empty=true) (hdO_Saddle:PySem.W.hasDictIn K CO_Saddle=true) (poO_Saddle:PySem.W.plainOver K CO_Saddle=true) (saO_Saddle:PySem.W.findIn K (.ref CO_Saddle) "__setattr__"=some (some (.builtin "object.__setattr__")))
    (clO_Saddle:PySem.W.findIn K (.ref CO_Saddle) "__class__"=some (some (.builtin "object.__class__"))) (gg1_Saddle:PySem.W.specialIn K (.builtin "object.__class__") "__get__"=some (some (.builtin "getset_descriptor.__get__"))) (gt1_Saddle:PySem.W.takesIn K (.builtin "object.__class__")=some true) (mrO_Saddle:PySem.W.mroIn K CO_Saddle (.type "object")=some true)
    (lO_Saddle:K.lookup fO_Saddle=some ⟨ocO_Saddle,odO_Saddle,.func (PySem.W.fnOf "__init__" "Saddle.__init__" (Eh GQ) (Dl GQ) (Ai GQ) .none kVO_Saddle dcO_Saddle pmO_Saddle anO_Saddle cdO_Saddle ctO_Saddle),slO_Saddle⟩) (cO_Saddle:PySem.W.codeIn K cdO_Saddle "Saddle.__init__"=true) (kfO_Saddle:PySem.W.keepIn K (.ref fO_Saddle)=true)
    (nfO_Saddle_form:PySem.W.findIn K (.ref CO_Saddle) "form"=some none)
    (nfO_Saddle_measure:PySem.W.findIn K (.ref CO_Saddle) "measure"=some none)
    (nfO_Saddle_lowest:PySem.W.findIn K (.ref CO_Saddle) "lowest"=some none)
    {gM_least:Addr} {odM_least anM_least:Option Addr} {slM_least:Array (Option Value)} {ocM_least kVM_least dcM_least pmM_least cdM_least ctM_least:Value}
    (fM_least_Bowl:PySem.W.findIn K (.ref CO_Bowl) "least"=some (some (.ref gM_least)))
    (fM_least_Saddle:PySem.W.findIn K (.ref CO_Saddle) "least"=some (some (.ref gM_least)))
    (nM_least:PySem.W.isFn K (.ref gM_least)=true) (lM_least:K.lookup gM_least=some ⟨ocM_least,odM_least,.func (PySem.W.fnOf "least" "Shape.least" (Eh HS) (Dl HS) (Ai HS) .none kVM_least dcM_least pmM_least anM_least cdM_least ctM_least),slM_least⟩) (cM_least:PySem.W.codeIn K cdM_least "Shape.least"=true) (kM_least:PySem.W.keepIn K (.ref gM_least)=true)
    {C_SAME:Addr} {od_SAME:Option Addr} {sl_SAME:Array (Option Value)} {n_SAME:Nat} {t_SAME_0:Tok} {t_SAME_1:Tok} {t_SAME_2:Tok} {t_SAME_3:Tok}
    (a_SAME:PySem.W.nsIn K mainGlobals "SAME"=some (some (.ref C_SAME))) (l_SAME:K.lookup C_SAME=some ⟨.type "tuple",od_SAME,.seq #[.int (1) t_SAME_0,.int (0) t_SAME_1,.int (0) t_SAME_2,.int (1) t_SAME_3] n_SAME,sl_SAME⟩)
    {t_MOST_MEASURE:Tok} (a_MOST_MEASURE:PySem.W.nsIn K mainGlobals "MOST_MEASURE"=some (some (.int (4000) t_MOST_MEASURE)))
    : ∃ fd:FuncData,(∀ (s:Shared) (v:Value),BindsTo s fd ⟨[v],[]⟩ [("_law_script",v)])∧∀ base:Heap,K.In base→base.Ns mainGlobals mg→Hl l.prog w K mg base CX0 13 fa fd ["_law_script"] (lSp K S7):=by
  obtain ⟨f58,oc58,od58,kV58,dc58,pm58,an58,cd58,ct58,sl58,a58,l58,c58,k58⟩:=h58
  have e:=hfa.symm.trans (PySem.W.mg_of X G a58)
  cases e
  have F58:=Mp (st:=JR) l58 c58 k58
  have FS_Shape:=Mp (st:=HW) lS_Shape cS_Shape kS_Shape
  have FO_Bowl:=Mp (st:=JM) lO_Bowl cO_Bowl kfO_Bowl
  have FO_Saddle:=Mp (st:=GQ) lO_Saddle cO_Saddle kfO_Saddle
  have FM_least:=Mp (st:=HS) lM_least cM_least kM_least
  have T:Txt K mg:={
    o_Bowl:=⟨_,_,_,⟨⟨mO_Bowl,iO_Bowl,nO_Bowl,kO_Bowl⟩,aO_Bowl,PySem.W.mg_of X G aO_Bowl,⟨pgO_Bowl,hdO_Bowl,poO_Bowl,saO_Bowl⟩,fun f hf=>by simp only [List.mem_cons,List.not_mem_nil,or_false] at hf;rcases hf with hf | hf | hf <;> (subst hf;first | exact nfO_Bowl_form | exact nfO_Bowl_measure | exact nfO_Bowl_lowest)⟩,FO_Bowl,FO_Bowl.binds (ps:=["self","form"]) fun _ _ _ _ _ _ us hl=>match us,hl with | [_,_],_=>rfl⟩
    ic_Bowl:=⟨(fun C e=>by rw [aO_Bowl] at e;cases e;exact clO_Bowl),gg1_Bowl,gt1_Bowl,(fun C e=>by rw [aO_Bowl] at e;cases e;exact mrO_Bowl)⟩
    na_Bowl_form:=fun C e=>by rw [aO_Bowl] at e;cases e;exact nfO_Bowl_form
    na_Bowl_measure:=fun C e=>by rw [aO_Bowl] at e;cases e;exact nfO_Bowl_measure
    na_Bowl_lowest:=fun C e=>by rw [aO_Bowl] at e;cases e;exact nfO_Bowl_lowest
    o_Saddle:=⟨_,_,_,⟨⟨mO_Saddle,iO_Saddle,nO_Saddle,kO_Saddle⟩,aO_Saddle,PySem.W.mg_of X G aO_Saddle,⟨pgO_Saddle,hdO_Saddle,poO_Saddle,saO_Saddle⟩,fun f hf=>by simp only [List.mem_cons,List.not_mem_nil,or_false] at hf;rcases hf with hf | hf | hf <;> (subst hf;first | exact nfO_Saddle_form | exact nfO_Saddle_measure | exact nfO_Saddle_lowest)⟩,FO_Saddle,FO_Saddle.binds (ps:=["self","form"]) fun _ _ _ _ _ _ us hl=>match us,hl with | [_,_],_=>rfl⟩
    ic_Saddle:=⟨(fun C e=>by rw [aO_Saddle] at e;cases e;exact clO_Saddle),gg1_Saddle,gt1_Saddle,(fun C e=>by rw [aO_Saddle] at e;cases e;exact mrO_Saddle)⟩
    na_Saddle_form:=fun C e=>by rw [aO_Saddle] at e;cases e;exact nfO_Saddle_form
    na_Saddle_measure:=fun C e=>by rw [aO_Saddle] at e;cases e;exact nfO_Saddle_measure
    na_Saddle_lowest:=fun C e=>by rw [aO_Saddle] at e;cases e;exact nfO_Saddle_lowest
    cm_Shape:=⟨_,_,⟨⟨_,PySem.W.mg_of X G aS_Shape,sS_Shape,rS_Shape,fS_Shape⟩,kS_Shape⟩,FS_Shape,FS_Shape.binds (ps:=["self","form","lowest"]) fun _ _ _ _ _ _ us hl=>match us,hl with | [_,_,_],_=>rfl⟩
    me_least:=⟨_,_,fun c hc=>by simp only [List.mem_cons,List.not_mem_nil,or_false] at hc;rcases hc with hc | hc <;> (subst hc;intro C e;first | (rw [aO_Bowl] at e;cases e;exact ⟨fM_least_Bowl,nM_least,kM_least⟩) | (rw [aO_Saddle] at e;cases e;exact ⟨fM_least_Saddle,nM_least,kM_least⟩)),kM_least,FM_least,FM_least.binds (ps:=["self"]) fun _ _ _ _ _ _ us hl=>match us,hl with | [_],_=>rfl⟩
    t_divisor:=tM X G h0 (by walk_at "b2")
    t_shares:=tM X G h1 (by walk_at "b2")
    t_row_less:=tM X G h2 (by walk_at "b3")
    t_root:=tM X G h3 (by walk_at "b1")
    t_is_square:=tM X G h4 (by walk_at "b1")
    t_check_at_most:=tM X G h5 (by walk_at "b2")
    t_is_turn:=tM X G h6 (by walk_at "b1")
    t_check_turn:=tM X G h7 (by walk_at "b1")
    t_led:=tM X G h8 (by walk_at "b2")
    t_put_behind:=tM X G h9 (by walk_at "b2")
    t_back:=tM X G h10 (by walk_at "b1")
    t_measure:=tM X G h11 (by walk_at "b1")
    t_value:=tM X G h12 (by walk_at "b2")
    t_content:=tM X G h13 (by walk_at "b1")
    t_moved:=tM X G h14 (by walk_at "b2")
    t_middle:=tM X G h15 (by walk_at "b3")
    t_shape:=tM X G h16 (by walk_at "b1")
    t_check_bowl:=tM X G h17 (by walk_at "b1")
    t_stands_least:=tM X G h18 (by walk_at "b1")
    t_settled:=tM X G h19 (by walk_at "b1")
    t_turn_lower:=tM X G h20 (by walk_at "b1")
    t_check_saddle:=tM X G h21 (by walk_at "b1")
    t_stands_level:=tM X G h22 (by walk_at "b2")
    t_turn_behind:=tM X G h23 (by walk_at "b2")
    t_stop_behind:=tM X G h24 (by walk_at "b2")
    t_eased:=tM X G h25 (by walk_at "b1")
    t_stops_round:=tM X G h26 (by walk_at "b1")
    t_lowered:=tM X G h27 (by walk_at "b1")
    t_shape_of:=tM X G h28 (by walk_at "b1")
    t_product:=tM X G h29 (by walk_at "b2")
    t_check_pair:=tM X G h30 (by walk_at "b2")
    t_check_plain:=tM X G h31 (by walk_at "b1")
    t_half_of_middles:=tM X G h32 (by walk_at "b2")
    t_common_shares:=tM X G h33 (by walk_at "b2")
    t_joint_form:=tM X G h34 (by walk_at "b3")
    t_joint_rows:=tM X G h35 (by walk_at "b4")
    t_rows_led:=tM X G h36 (by walk_at "b2")
    t_joined:=tM X G h37 (by walk_at "b3")
    t_joined_by:=tM X G h38 (by walk_at "b3")
    t__law_cell:=tM X G h39 (by walk_at "b2")
    t__law_whole:=tM X G h40 (by walk_at "b1")
    t__law_wholes:=tM X G h41 (by walk_at "b2")
    t__law_bar:=tM X G h42 (by walk_at "b1")
    t__law_root:=tM X G h43 (by walk_at "b1")
    t__law_flat:=tM X G h44 (by walk_at "b1")
    t__law_level:=tM X G h45 (by walk_at "b2")
    t__law_behind:=tM X G h46 (by walk_at "b2")
    t__law_bowl:=tM X G h47 (by walk_at "b1")
    t__law_least:=tM X G h48 (by walk_at "b1")
    t__law_rest:=tM X G h49 (by walk_at "b2")
    t__law_turn:=tM X G h50 (by walk_at "b2")
    t__law_value:=tM X G h51 (by walk_at "b3")
    t__law_moved:=tM X G h52 (by walk_at "b2")
    t__law_sum:=tM X G h53 (by walk_at "b4")
    t__law_united:=tM X G h54 (by walk_at "b2")
    t__law_pair:=tM X G h55 (by walk_at "b2")
    t__law_joined:=tM X G h56 (by walk_at "b3")
    t__law_walks:=tM X G h57 (by walk_at "b4")
    t_law:=⟨_,_,F58,PySem.W.mg_of X G a58,F58.binds (ps:=["_law_script"]) fun _ _ _ _ _ _ us hl=>match us,hl with | [_],_=>rfl⟩
    z_abs:=PySem.W.mg_none_of X G z_abs
    z_bool:=PySem.W.mg_none_of X G z_bool
    z_int:=PySem.W.mg_none_of X G z_int
    z_isinstance:=PySem.W.mg_none_of X G z_isinstance
    z_len:=PySem.W.mg_none_of X G z_len
    z_max:=PySem.W.mg_none_of X G z_max
    z_min:=PySem.W.mg_none_of X G z_min
    z_range:=PySem.W.mg_none_of X G z_range
    z_sum:=PySem.W.mg_none_of X G z_sum
    z_tuple:=PySem.W.mg_none_of X G z_tuple
    z_zip:=PySem.W.mg_none_of X G z_zip
    k_SAME:=⟨_,PySem.W.mg_of X G a_SAME,fun H=>Dn.mpr ⟨_,[.int (1),.int (0),.int (0),.int (1)],rfl,.inr ⟨_,_,_,l_SAME,rfl,rfl,Am (by show 4≤1000;decide),.cons ⟨_,rfl⟩ (.cons ⟨_,rfl⟩ (.cons ⟨_,rfl⟩ (.cons ⟨_,rfl⟩ (.nil))))⟩,RpL.cons (Bp.mpr rfl) (RpL.cons (Bp.mpr rfl) (RpL.cons (Bp.mpr rfl) (RpL.cons (Bp.mpr rfl) (RpL.nil))))⟩⟩
    m_MOST_MEASURE:=⟨_,PySem.W.mg_of X G a_MOST_MEASURE⟩
  }
  refine ⟨PySem.W.fnOf "law" "law" (Eh JR) (Dl JR) (Ai JR) .none kV58 dc58 pm58 an58 cd58 ct58,fun s v=>.of_eq rfl,fun base kb nb=>?_⟩
  have gm_least:=XM l.prog w base T 
  have g_divisor:=VR l.prog w base T 
  have g_row_less:=Um l.prog w base T 
  have g_root:=AbT l.prog w base T 
  have g_check_at_most:=Mw l.prog w base T 
  have g_is_turn:=Vf l.prog w base T 
  have g_put_behind:=Qd l.prog w base T 
  have g_measure:=V2 l.prog w base T 
  have g_value:=YZ l.prog w base T 
  have g_middle:=Ye l.prog w base T 
  have g_stands_least:=Nh l.prog w base T 
  have g_turn_lower:=Qo l.prog w base T 
  have g_stands_level:=Nj l.prog w base T 
  have g_turn_behind:=Ox l.prog w base T 
  have g_half_of_middles:=Kc l.prog w base T 
  have g_joined_by:=Ru l.prog w base T 
  have g__law_cell:=Rz l.prog w base T 
  have g__law_whole:=Qa l.prog w base T 
  have g__law_bar:=Uu l.prog w base T 
  have g__law_root:=Rv l.prog w base T 
  have g__law_level:=Qu l.prog w base T 
  have g__law_bowl:=RD l.prog w base T 
  have g__law_rest:=SN l.prog w base T 
  have g__law_turn:=RT l.prog w base T 
  have g__law_value:=Qq l.prog w base T 
  have g__law_pair:=SX l.prog w base T 
  have g__law_joined:=PB l.prog w base T 
  have gc_Shape:=XD l.prog w base T g_measure
  have g_shares:=Yi l.prog w base T g_row_less
  have g_is_square:=Sv l.prog w base T g_root
  have g_check_turn:=Qm l.prog w base T g_is_turn
  have g_content:=Wg l.prog w base T g_divisor
  have g_joint_form:=Qy l.prog w base T g_half_of_middles g_measure
  have g_joint_rows:=Qt l.prog w base T g_half_of_middles g_measure
  have g_joined:=Xr l.prog w base T g_joined_by
  have g__law_wholes:=PJ l.prog w base T g__law_whole
  have g__law_flat:=RB l.prog w base T g__law_bar g__law_root
  have g__law_behind:=Ow l.prog w base T g__law_bar
  have g__law_moved:=PN l.prog w base T g__law_value
  have g__law_sum:=Uq l.prog w base T g__law_cell
  have g__law_walks:=Qn l.prog w base T g__law_joined g__law_value
  have g_led:=Ae6 l.prog w base T g_check_turn
  have g_back:=Aa1 l.prog w base T g_check_turn
  have g_moved:=Zv l.prog w base T g_check_turn g_value g_middle
  have g_shape:=Zo l.prog w base T g_measure g_is_square
  have g_check_plain:=Oj l.prog w base T g_content
  have g_common_shares:=Ma l.prog w base T g_shares g_half_of_middles
  have g__law_least:=Qk l.prog w base T g__law_root g__law_behind g__law_bar g__law_bowl g__law_level
  have g__law_united:=Oe l.prog w base T g__law_cell g__law_sum g__law_rest
  have g_check_bowl:=Qc l.prog w base T g_shape
  have g_check_saddle:=Nf l.prog w base T g_check_at_most g_shape g_measure
  have g_stop_behind:=O8 l.prog w base T g_turn_behind g_moved g_put_behind
  have g_rows_led:=U6 l.prog w base T g_led
  have g_settled:=Vu l.prog w base T g_check_bowl g_stands_least g_turn_lower g_moved g_put_behind
  have g_eased:=Zx l.prog w base T g_check_saddle g_root g_measure g_stands_level g_stop_behind
  have gi_Bowl:=Z0 l.prog w base T gc_Shape g_settled
  have g_stops_round:=Pb l.prog w base T g_root g_eased g_stop_behind g_measure
  have g_lowered:=Vh l.prog w base T g_check_saddle g_stops_round
  have gi_Saddle:=Vv l.prog w base T gc_Shape g_lowered
  have g_shape_of:=Ul l.prog w base T gi_Bowl gi_Saddle g_shape
  have g_check_pair:=Qh l.prog w base T g_shape_of g_check_plain
  have g_product:=Vx l.prog w base T gm_least g_check_pair g_common_shares g_joint_form g_rows_led g_shape_of g_back g_joint_rows
  have g_law:=Ae2 l.prog w base T g__law_united g__law_pair g__law_moved g_product g_joined g__law_flat g__law_turn g__law_bar g__law_cell g__law_wholes g__law_least g__law_walks g__law_joined
  obtain ⟨f,fd,FT,GG⟩:=g_law
  have e1:=FT.mg.symm.trans (PySem.W.mg_of X G a58)
  cases e1
  have e2:=FT.fn.uniq F58
  subst e2
  exact GG
theorem walk {l:PySem.W.OpenLaw} {q:Program} {loose:List Str} {XP:(Str→Option Value)→Heap→Prop} {YP:World→Heap→Prop} {d:DefRec} {K:Params→PySem.W.Frag} (hn:l.most=some 63) (hdf:d.params.defaults=[])
    (hY:∀ (w:World) (h:Heap),YP w h→(K w.params).In h)
    (F:∀ (w:World) (mg:Str→Option Value) (fa:Addr) (h:Heap),(K w.params).In h→h.Ns mainGlobals mg→mg d.name=some (.ref fa) →
      ∃ fd:FuncData,(∀ (s:Shared) (u:Value),BindsTo s fd ⟨[u],[]⟩ [("_law_script",u)])∧∀ base:Heap,(K w.params).In base→base.Ns mainGlobals mg→Hl l.prog w (K w.params) mg base CX0 13 fa fd ["_law_script"] (lSp (K w.params) S7)) :
    PySem.W.WalkO q loose XP YP l.row.toRowW d [] (fun f vs=>PySem.call f vs) :=
  L2.AaQ (n:=63) (k:=13) (x:="_law_script") (CX:=fun _=>CX0) (sp:=fun w=>lSp (K w.params) S7) hn (by decide) hdf ⟨rfl,by decide,by decide⟩ hY F (fun w H a ns hl _ hS=>Yo hl hS) fun _ _ _ _ _ z=>z
end My
open PySem PySem.W PyProof.Rows
local macro_rules | `(tactic| walk_at "nF") => `(tactic| (refine' My.Ac6 ?qa ?ql ?qc ?qk; (case qa => k_is); (case ql => k_is); (case qc => k_is); (case qk => k_is)))
theorem My.hFk {K:PySem.W.Frag} {n:PySem.Str} {s:PySem.Stmt} (f:PySem.Addr) (m:String) (t c:Nat) (a:PySem.W.nsIn K PySem.mainGlobals n=some (some (.ref f)):=by kernel_rfl) (l:K.lookup f=some ⟨.type "function",none,.func (PySem.W.fnOf n n (L2.Eh s) (L2.Dl s) (L2.Ai s) .none .none .none (.str (.ofString m) t) none (.ref c) .none),#[]⟩:=by kernel_rfl) (d:PySem.W.codeIn K (.ref c) n=true:=by kernel_rfl) (k:PySem.W.keepIn K (.ref f)=true:=by kernel_rfl):My.nF K n s:=My.Ac6 a l d k
theorem My.hF0 (P:PySem.Params):My.nF (My.KK P) "divisor" My.GP:=My.hFk 148 "formcycle.wholes" 357 147
theorem My.hF1 (P:PySem.Params):My.nF (My.KK P) "shares" My.HX:=My.hFk 155 "formcycle.wholes" 357 154
theorem My.hF2 (P:PySem.Params):My.nF (My.KK P) "row_less" My.Ge:=My.hFk 162 "formcycle.wholes" 357 161
theorem My.hF3 (P:PySem.Params):My.nF (My.KK P) "root" My.Jj:=My.hFk 169 "formcycle.wholes" 357 168
theorem My.hF4 (P:PySem.Params):My.nF (My.KK P) "is_square" My.Fo:=My.hFk 176 "formcycle.wholes" 357 175
theorem My.hF5 (P:PySem.Params):My.nF (My.KK P) "check_at_most" My.Cr:=My.hFk 183 "formcycle.wholes" 357 182
theorem My.hF6 (P:PySem.Params):My.nF (My.KK P) "is_turn" My.GR:=My.hFk 191 "formcycle.turns" 413 190
theorem My.hF7 (P:PySem.Params):My.nF (My.KK P) "check_turn" My.Cz:=My.hFk 198 "formcycle.turns" 413 197
theorem My.hF8 (P:PySem.Params):My.nF (My.KK P) "led" My.QZ:=My.hFk 205 "formcycle.turns" 413 204
theorem My.hF9 (P:PySem.Params):My.nF (My.KK P) "put_behind" My.Dg:=My.hFk 212 "formcycle.turns" 413 211
theorem My.hF10 (P:PySem.Params):My.nF (My.KK P) "back" My.LQ:=My.hFk 219 "formcycle.turns" 413 218
theorem My.hF11 (P:PySem.Params):My.nF (My.KK P) "measure" My.Cv:=My.hFk 226 "formcycle.forms" 457 225
theorem My.hF12 (P:PySem.Params):My.nF (My.KK P) "value" My.JF:=My.hFk 233 "formcycle.forms" 457 232
theorem My.hF13 (P:PySem.Params):My.nF (My.KK P) "content" My.GJ:=My.hFk 240 "formcycle.forms" 457 239
theorem My.hF14 (P:PySem.Params):My.nF (My.KK P) "moved" My.Ig:=My.hFk 247 "formcycle.forms" 457 246
theorem My.hF15 (P:PySem.Params):My.nF (My.KK P) "middle" My.HN:=My.hFk 254 "formcycle.forms" 457 253
theorem My.hF16 (P:PySem.Params):My.nF (My.KK P) "shape" My.Hr:=My.hFk 261 "formcycle.forms" 457 260
theorem My.hF17 (P:PySem.Params):My.nF (My.KK P) "check_bowl" My.Ej:=My.hFk 268 "formcycle.bowls" 511 267
theorem My.hF18 (P:PySem.Params):My.nF (My.KK P) "stands_least" My.CV:=My.hFk 275 "formcycle.bowls" 511 274
theorem My.hF19 (P:PySem.Params):My.nF (My.KK P) "settled" My.GF:=My.hFk 282 "formcycle.bowls" 511 281
theorem My.hF20 (P:PySem.Params):My.nF (My.KK P) "turn_lower" My.Ea:=My.hFk 289 "formcycle.bowls" 511 288
theorem My.hF21 (P:PySem.Params):My.nF (My.KK P) "check_saddle" My.Cp:=My.hFk 296 "formcycle.saddles" 547 295
theorem My.hF22 (P:PySem.Params):My.nF (My.KK P) "stands_level" My.CT:=My.hFk 303 "formcycle.saddles" 547 302
theorem My.hF23 (P:PySem.Params):My.nF (My.KK P) "turn_behind" My.Dv:=My.hFk 310 "formcycle.saddles" 547 309
theorem My.hF24 (P:PySem.Params):My.nF (My.KK P) "stop_behind" My.CK:=My.hFk 317 "formcycle.saddles" 547 316
theorem My.hF25 (P:PySem.Params):My.nF (My.KK P) "eased" My.JK:=My.hFk 324 "formcycle.saddles" 547 323
theorem My.hF26 (P:PySem.Params):My.nF (My.KK P) "stops_round" My.Ds:=My.hFk 331 "formcycle.saddles" 547 330
theorem My.hF27 (P:PySem.Params):My.nF (My.KK P) "lowered" My.GZ:=My.hFk 338 "formcycle.saddles" 547 337
theorem My.hF28 (P:PySem.Params):My.nF (My.KK P) "shape_of" My.EY:=My.hFk 425 "formcycle.shapes" 614 424
theorem My.hF29 (P:PySem.Params):My.nF (My.KK P) "product" My.GX:=My.hFk 432 "formcycle.products" 726 431
theorem My.hF30 (P:PySem.Params):My.nF (My.KK P) "check_pair" My.Ei:=My.hFk 439 "formcycle.products" 726 438
theorem My.hF31 (P:PySem.Params):My.nF (My.KK P) "check_plain" My.Dq:=My.hFk 446 "formcycle.products" 726 445
theorem My.hF32 (P:PySem.Params):My.nF (My.KK P) "half_of_middles" My.Bw:=My.hFk 453 "formcycle.products" 726 452
theorem My.hF33 (P:PySem.Params):My.nF (My.KK P) "common_shares" My.Cw:=My.hFk 460 "formcycle.products" 726 459
theorem My.hF34 (P:PySem.Params):My.nF (My.KK P) "joint_form" My.Ef:=My.hFk 467 "formcycle.products" 726 466
theorem My.hF35 (P:PySem.Params):My.nF (My.KK P) "joint_rows" My.Em:=My.hFk 474 "formcycle.products" 726 473
theorem My.hF36 (P:PySem.Params):My.nF (My.KK P) "rows_led" My.Df:=My.hFk 479 "formcycle.products" 726 478
theorem My.hF37 (P:PySem.Params):My.nF (My.KK P) "joined" My.Ia:=My.hFk 486 "formcycle.products" 726 485
theorem My.hF38 (P:PySem.Params):My.nF (My.KK P) "joined_by" My.Fi:=My.hFk 493 "formcycle.products" 726 492
theorem My.hF39 (P:PySem.Params):My.nF (My.KK P) "_law_cell" My.Dd:=My.hFk 500 "law_formcycle_k41_products_walk" 832 499
theorem My.hF40 (P:PySem.Params):My.nF (My.KK P) "_law_whole" My.Ek:=My.hFk 507 "law_formcycle_k41_products_walk" 832 506
theorem My.hF41 (P:PySem.Params):My.nF (My.KK P) "_law_wholes" My.CN:=My.hFk 512 "law_formcycle_k41_products_walk" 832 511
theorem My.hF42 (P:PySem.Params):My.nF (My.KK P) "_law_bar" My.Dm:=My.hFk 519 "law_formcycle_k41_products_walk" 832 518
theorem My.hF43 (P:PySem.Params):My.nF (My.KK P) "_law_root" My.DR:=My.hFk 526 "law_formcycle_k41_products_walk" 832 525
theorem My.hF44 (P:PySem.Params):My.nF (My.KK P) "_law_flat" My.Fp:=My.hFk 533 "law_formcycle_k41_products_walk" 832 532
theorem My.hF45 (P:PySem.Params):My.nF (My.KK P) "_law_level" My.Ed:=My.hFk 540 "law_formcycle_k41_products_walk" 832 539
theorem My.hF46 (P:PySem.Params):My.nF (My.KK P) "_law_behind" My.Dr:=My.hFk 547 "law_formcycle_k41_products_walk" 832 546
theorem My.hF47 (P:PySem.Params):My.nF (My.KK P) "_law_bowl" My.Ft:=My.hFk 554 "law_formcycle_k41_products_walk" 832 553
theorem My.hF48 (P:PySem.Params):My.nF (My.KK P) "_law_least" My.Eo:=My.hFk 561 "law_formcycle_k41_products_walk" 832 560
theorem My.hF49 (P:PySem.Params):My.nF (My.KK P) "_law_rest" My.Fl:=My.hFk 568 "law_formcycle_k41_products_walk" 832 567
theorem My.hF50 (P:PySem.Params):My.nF (My.KK P) "_law_turn" My.Fq:=My.hFk 575 "law_formcycle_k41_products_walk" 832 574
theorem My.hF51 (P:PySem.Params):My.nF (My.KK P) "_law_value" My.Dk:=My.hFk 582 "law_formcycle_k41_products_walk" 832 581
theorem My.hF52 (P:PySem.Params):My.nF (My.KK P) "_law_moved" My.Ec:=My.hFk 589 "law_formcycle_k41_products_walk" 832 588
theorem My.hF53 (P:PySem.Params):My.nF (My.KK P) "_law_sum" My.Gb:=My.hFk 596 "law_formcycle_k41_products_walk" 832 595
theorem My.hF54 (P:PySem.Params):My.nF (My.KK P) "_law_united" My.CJ:=My.hFk 601 "law_formcycle_k41_products_walk" 832 600
theorem My.hF55 (P:PySem.Params):My.nF (My.KK P) "_law_pair" My.Fj:=My.hFk 608 "law_formcycle_k41_products_walk" 832 607
theorem My.hF56 (P:PySem.Params):My.nF (My.KK P) "_law_joined" My.BZ:=My.hFk 613 "law_formcycle_k41_products_walk" 832 612
theorem My.hF57 (P:PySem.Params):My.nF (My.KK P) "_law_walks" My.El:=My.hFk 620 "law_formcycle_k41_products_walk" 832 619
theorem My.hF58 (P:PySem.Params):My.nF (My.KK P) "law" My.JR:=My.hFk 625 "law_formcycle_k41_products_walk" 832 624
set_option maxRecDepth 100000 in
set_option maxHeartbeats 0 in
theorem PySem.Challenge.cw_formcycle_k41_products_walk_holds : PySem.Challenge.rw_formcycle_k41_products_walk.Holds := by
  w_on
  refine holds_law My.said0 fun said=>?_
  refine holds_open (r:=PySem.Challenge.rw_formcycle_k41_products_walk.row) (q:=My.vw) (loose:=[]) (Xt:=fun s=>xlAt My.vw [] s && recOk (RowW.records (PySem.Challenge.rw_formcycle_k41_products_walk.row.toRowW)) s) (XP:=XL My.vw []) (Yf:=Hook.obs (kHook My.KK My.asK (fun _=>by kernel_rfl))) (Ya:=Hook.val (kHook My.KK My.asK (fun _=>by kernel_rfl))) (YP:=Hook.says (kHook My.KK My.asK (fun _=>by kernel_rfl))) (N:=4460) My.hl (Hook.of (kHook My.KK My.asK (fun _=>by kernel_rfl))) (Hook.keeps (kHook My.KK My.asK (fun _=>by kernel_rfl))) (fun s e=>xl_of s (Bool.and_eq_true_iff.mp e).1) XL.keeps (by rfl) (by rfl) (by rfl) (fun s e=>recFacts_of (Bool.and_eq_true_iff.mp e).2) (by rfl) said (by decide +kernel) ⟨rfl,rfl,rfl,rfl,rfl,by decide +kernel⟩ ?hw ?hc
  (case hw=>w_witness2)
  k_fill
  refine My.walk (l:=PySem.Challenge.rw_formcycle_k41_products_walk) rfl rfl (fun w h Y=>PySem.W.kIn_of Y) ?F
  case F =>
    intro w mg fa h KX G hmg
    refine' My.all_mk KX G hmg ?h0 ?h1 ?h2 ?h3 ?h4 ?h5 ?h6 ?h7 ?h8 ?h9 ?h10 ?h11 ?h12 ?h13 ?h14 ?h15 ?h16 ?h17 ?h18 ?h19 ?h20 ?h21 ?h22 ?h23 ?h24 ?h25 ?h26 ?h27 ?h28 ?h29 ?h30 ?h31 ?h32 ?h33 ?h34 ?h35 ?h36 ?h37 ?h38 ?h39 ?h40 ?h41 ?h42 ?h43 ?h44 ?h45 ?h46 ?h47 ?h48 ?h49 ?h50 ?h51 ?h52 ?h53 ?h54 ?h55 ?h56 ?h57 ?h58 ?z_abs ?z_bool ?z_int ?z_isinstance ?z_len ?z_max ?z_min ?z_range ?z_sum ?z_tuple ?z_zip ?aS_Shape ?sS_Shape ?rS_Shape ?fS_Shape ?lS_Shape ?cS_Shape ?kS_Shape ?aO_Bowl ?mO_Bowl ?iO_Bowl ?nO_Bowl ?kO_Bowl ?pgO_Bowl ?hdO_Bowl ?poO_Bowl ?saO_Bowl ?clO_Bowl ?gg1_Bowl ?gt1_Bowl ?mrO_Bowl ?lO_Bowl ?cO_Bowl ?kfO_Bowl ?nfO_Bowl_form ?nfO_Bowl_measure ?nfO_Bowl_lowest ?aO_Saddle ?mO_Saddle ?iO_Saddle ?nO_Saddle ?kO_Saddle ?pgO_Saddle ?hdO_Saddle ?poO_Saddle ?saO_Saddle ?clO_Saddle ?gg1_Saddle ?gt1_Saddle ?mrO_Saddle ?lO_Saddle ?cO_Saddle ?kfO_Saddle ?nfO_Saddle_form ?nfO_Saddle_measure ?nfO_Saddle_lowest ?fM_least_Bowl ?fM_least_Saddle ?nM_least ?lM_least ?cM_least ?kM_least ?a_SAME ?l_SAME ?a_MOST_MEASURE
    (case h0=>exact My.hF0 _)
    (case h1=>exact My.hF1 _)
    (case h2=>exact My.hF2 _)
    (case h3=>exact My.hF3 _)
    (case h4=>exact My.hF4 _)
    (case h5=>exact My.hF5 _)
    (case h6=>exact My.hF6 _)
    (case h7=>exact My.hF7 _)
    (case h8=>exact My.hF8 _)
    (case h9=>exact My.hF9 _)
    (case h10=>exact My.hF10 _)
    (case h11=>exact My.hF11 _)
    (case h12=>exact My.hF12 _)
    (case h13=>exact My.hF13 _)
    (case h14=>exact My.hF14 _)
    (case h15=>exact My.hF15 _)
    (case h16=>exact My.hF16 _)
    (case h17=>exact My.hF17 _)
    (case h18=>exact My.hF18 _)
    (case h19=>exact My.hF19 _)
    (case h20=>exact My.hF20 _)
    (case h21=>exact My.hF21 _)
    (case h22=>exact My.hF22 _)
    (case h23=>exact My.hF23 _)
    (case h24=>exact My.hF24 _)
    (case h25=>exact My.hF25 _)
    (case h26=>exact My.hF26 _)
    (case h27=>exact My.hF27 _)
    (case h28=>exact My.hF28 _)
    (case h29=>exact My.hF29 _)
    (case h30=>exact My.hF30 _)
    (case h31=>exact My.hF31 _)
    (case h32=>exact My.hF32 _)
    (case h33=>exact My.hF33 _)
    (case h34=>exact My.hF34 _)
    (case h35=>exact My.hF35 _)
    (case h36=>exact My.hF36 _)
    (case h37=>exact My.hF37 _)
    (case h38=>exact My.hF38 _)
    (case h39=>exact My.hF39 _)
    (case h40=>exact My.hF40 _)
    (case h41=>exact My.hF41 _)
    (case h42=>exact My.hF42 _)
    (case h43=>exact My.hF43 _)
    (case h44=>exact My.hF44 _)
    (case h45=>exact My.hF45 _)
    (case h46=>exact My.hF46 _)
    (case h47=>exact My.hF47 _)
    (case h48=>exact My.hF48 _)
    (case h49=>exact My.hF49 _)
    (case h50=>exact My.hF50 _)
    (case h51=>exact My.hF51 _)
    (case h52=>exact My.hF52 _)
    (case h53=>exact My.hF53 _)
    (case h54=>exact My.hF54 _)
    (case h55=>exact My.hF55 _)
    (case h56=>exact My.hF56 _)
    (case h57=>exact My.hF57 _)
    (case h58=>exact My.hF58 _)
    (case z_abs=>as_aux_lemma=>k_is)
    (case z_bool=>as_aux_lemma=>k_is)
    (case z_int=>as_aux_lemma=>k_is)
    (case z_isinstance=>as_aux_lemma=>k_is)
    (case z_len=>as_aux_lemma=>k_is)
    (case z_max=>as_aux_lemma=>k_is)
    (case z_min=>as_aux_lemma=>k_is)
    (case z_range=>as_aux_lemma=>k_is)
    (case z_sum=>as_aux_lemma=>k_is)
    (case z_tuple=>as_aux_lemma=>k_is)
    (case z_zip=>as_aux_lemma=>k_is)
    (case aS_Shape=>as_aux_lemma=>k_is)
    (case sS_Shape=>as_aux_lemma=>k_is)
    (case rS_Shape=>as_aux_lemma=>k_is)
    (case fS_Shape=>as_aux_lemma=>k_is)
    (case lS_Shape=>as_aux_lemma=>k_is)
    (case cS_Shape=>as_aux_lemma=>k_is)
    (case kS_Shape=>as_aux_lemma=>k_is)
    (case aO_Bowl=>as_aux_lemma=>k_is)
    (case mO_Bowl=>as_aux_lemma=>k_is)
    (case iO_Bowl=>as_aux_lemma=>k_is)
    (case nO_Bowl=>as_aux_lemma=>k_is)
    (case kO_Bowl=>as_aux_lemma=>k_is)
    (case pgO_Bowl=>as_aux_lemma=>k_is)
    (case hdO_Bowl=>as_aux_lemma=>k_is)
    (case poO_Bowl=>as_aux_lemma=>k_is)
    (case saO_Bowl=>as_aux_lemma=>k_is)
    (case clO_Bowl=>as_aux_lemma=>k_is)
    (case gg1_Bowl=>as_aux_lemma=>k_is)
    (case gt1_Bowl=>as_aux_lemma=>k_is)
    (case mrO_Bowl=>as_aux_lemma=>k_is)
    (case lO_Bowl=>as_aux_lemma=>k_is)
    (case cO_Bowl=>as_aux_lemma=>k_is)
    (case kfO_Bowl=>as_aux_lemma=>k_is)
    (case nfO_Bowl_form=>as_aux_lemma=>k_is)
    (case nfO_Bowl_measure=>as_aux_lemma=>k_is)
    (case nfO_Bowl_lowest=>as_aux_lemma=>k_is)
    (case aO_Saddle=>as_aux_lemma=>k_is)
    (case mO_Saddle=>as_aux_lemma=>k_is)
    (case iO_Saddle=>as_aux_lemma=>k_is)
    (case nO_Saddle=>as_aux_lemma=>k_is)
    (case kO_Saddle=>as_aux_lemma=>k_is)
    (case pgO_Saddle=>as_aux_lemma=>k_is)
    (case hdO_Saddle=>as_aux_lemma=>k_is)
    (case poO_Saddle=>as_aux_lemma=>k_is)
    (case saO_Saddle=>as_aux_lemma=>k_is)
    (case clO_Saddle=>as_aux_lemma=>k_is)
    (case gg1_Saddle=>as_aux_lemma=>k_is)
    (case gt1_Saddle=>as_aux_lemma=>k_is)
    (case mrO_Saddle=>as_aux_lemma=>k_is)
    (case lO_Saddle=>as_aux_lemma=>k_is)
    (case cO_Saddle=>as_aux_lemma=>k_is)
    (case kfO_Saddle=>as_aux_lemma=>k_is)
    (case nfO_Saddle_form=>as_aux_lemma=>k_is)
    (case nfO_Saddle_measure=>as_aux_lemma=>k_is)
    (case nfO_Saddle_lowest=>as_aux_lemma=>k_is)
    (case fM_least_Bowl=>as_aux_lemma=>k_is)
    (case fM_least_Saddle=>as_aux_lemma=>k_is)
    (case nM_least=>as_aux_lemma=>k_is)
    (case lM_least=>as_aux_lemma=>k_is)
    (case cM_least=>as_aux_lemma=>k_is)
    (case kM_least=>as_aux_lemma=>k_is)
    (case a_SAME=>as_aux_lemma=>k_is)
    (case l_SAME=>as_aux_lemma=>k_is)
    (case a_MOST_MEASURE=>as_aux_lemma=>k_is)
