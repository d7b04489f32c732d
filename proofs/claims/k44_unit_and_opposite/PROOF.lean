import PyProof.Rows.All
import Wide.All
import OpenK.AllK
import Wide.FinOn
import Lean
import PyProof.EqAt
import PyProof.EqKinds
import PyProof.TupleCall
import PySem.Challenge.RW_formcycle_k44_unit_and_opposite
set_option Elab.async false
set_option linter.all false
set_option maxRecDepth 100000
set_option maxRecDepth 1000000
set_option maxHeartbeats 0
namespace My
open PySem PySem.W
def T9 (tb : String → Option Builtin) (p : Program) (w : World) (m : Nat) (ann : Option Value) : Nat → SharedT → Thread → Option SharedT
  | 0, _, _ => none
  | k + 1, s, t => match through t with
    | true => some s
    | false => match stepOk m ann t with
      | false => none
      | true => match stepT (denote tb) p w s t with
        | some (s', t') => T9 tb p w m ann k s' t'
        | none => none
theorem Rw {tb : String → Option Builtin} {p : Program} {w : World} {m : Nat} {ann : Option Value} : ∀ (k : Nat) {s r : SharedT} {t : Thread}, T9 tb p w m ann k s t = some r → topRun tb p w m ann k s.abs t = some r.abs
  | 0, s, r, t, h => by cases h
  | k + 1, s, r, t, h => by
    unfold T9 at h
    unfold topRun
    cases e : through t with
    | true =>
      rw [e] at h
      cases h
      rfl
    | false =>
      rw [e] at h
      dsimp only at h ⊢
      cases e2 : stepOk m ann t with
      | false => rw [e2] at h; cases h
      | true =>
        rw [e2] at h
        dsimp only at h ⊢
        cases e3 : stepT (denote tb) p w s t with
        | none => rw [e3] at h; cases h
        | some st =>
          obtain ⟨s', t'⟩ := st
          rw [e3] at h
          rw [stepT_spec e3]
          exact Rw k h
def Ac0 : List Obj → Nat → BT → BT
  | [], _, t => t
  | o :: os, n, t => Ac0 os (n + 1) (t.ins n o)
noncomputable def QV (w : World) (os : OsState) : SharedT := ⟨Ac0 (boot_heap w.params).objs.toList 0 .nil, (boot_heap w.params).objs.size, (boot_heap w.params).life, Array.mk [], boot_drawn, boot_toks, os⟩
noncomputable def Bw (w : World) (os : OsState) : Shared := ⟨boot_heap w.params, Array.mk [], boot_drawn, boot_toks, os⟩
def stays (p : Program) (s₀ s₁ : Shared) : Bool := staticsOk (importedModules p.main.body) s₀.heap s₁.heap && namesBound p s₁.heap && gensDone s₁ && laidKept s₀.heap s₁.heap
theorem boot_abs : ∀ w os, (QV w os).abs = Bw w os := fun w os => by kernel_rfl
theorem AaX {p : Program} {w : World} {N : Nat} {α : Type} {F : Shared → α} {g : α} (e : opening p = plainProg p.main.scope.names) (hN : Nat.ble 600 N = true) (f : ∀ s, fenceModules? p s = some s)
    (h : ∀ os, (T9 treeTable p w (Bw w os).heap.objs.size ((Bw w os).heap.nsMap mainGlobals "__annotations__") N (QV w os) (topStub p)).map (fun r => (stays p (Bw w os) r.abs, F r.abs)) = some (true, g))
    (h0 : ∀ os, ((Bw w os).heap.isNs mainGlobals && (Bw w os).gens.size == 0) = true) : (openEnds treeTable p w N).map F = some g := by
  have hb := boot_open e hN f w
  unfold openEnds
  cases q : fencedOpening treeTable p w N with
  | none => rw [q] at hb; cases hb
  | some s =>
    rw [q] at hb
    have hs : s = Bw w s.os := by
      obtain ⟨a, b, c, d, o⟩ := s
      simp only [Option.map_some, Option.some.injEq, Prod.mk.injEq] at hb
      obtain ⟨rfl, rfl, rfl, rfl⟩ := hb
      rfl
    generalize s.os = o at hs
    subst hs
    show (topFrom treeTable p w N (Bw w o)).map F = some g
    unfold topFrom
    rw [h0 o]
    have hh := h o
    cases q2 : T9 treeTable p w (Bw w o).heap.objs.size ((Bw w o).heap.nsMap mainGlobals "__annotations__") N (QV w o) (topStub p) with
    | none => rw [q2] at hh; cases hh
    | some r =>
      rw [q2] at hh
      have hr := Rw N q2
      rw [boot_abs] at hr
      simp only [Option.map_some, Option.some.injEq, Prod.mk.injEq] at hh
      obtain ⟨h1, h2⟩ := hh
      unfold stays at h1
      dsimp only
      rw [hr]
      show (match staticsOk (importedModules p.main.body) (Bw w o).heap r.abs.heap && namesBound p r.abs.heap && gensDone r.abs && laidKept (Bw w o).heap r.abs.heap with
        | true => some r.abs
        | false => none).map F = some g
      rw [h1]
      exact congrArg some h2
noncomputable def TR (p : Program) (w : World) (os : OsState) (N : Nat) : Option SharedT := T9 treeTable p w (Bw w os).heap.objs.size ((Bw w os).heap.nsMap mainGlobals "__annotations__") N (QV w os) (topStub p)
theorem Afr {p : Program} {w : World} {N : Nat} {α β : Type} {F : Shared → α} {G : Shared → β} {f' : α} {g' : β} (e : opening p = plainProg p.main.scope.names) (hN : Nat.ble 600 N = true) (f : ∀ s, fenceModules? p s = some s)
    (h1 : ∀ os, (TR p w os N).map (fun r => stays p (Bw w os) r.abs) = some true) (h2 : ∀ os, (TR p w os N).map (fun r => F r.abs) = some f') (h3 : ∀ os, (TR p w os N).map (fun r => G r.abs) = some g')
    (h0 : ∀ os, ((Bw w os).heap.isNs mainGlobals && (Bw w os).gens.size == 0) = true) : (openEnds treeTable p w N).map (fun s => (F s, G s)) = some (f', g') :=
  AaX (F := fun s => (F s, G s)) e hN f (fun os => by
    have a := h1 os
    have b := h2 os
    have c := h3 os
    unfold TR at a b c
    revert a b c
    generalize T9 treeTable p w (Bw w os).heap.objs.size ((Bw w os).heap.nsMap mainGlobals "__annotations__") N (QV w os) (topStub p) = o
    intro a b c
    cases o with
    | none => cases a
    | some r =>
      simp only [Option.map_some, Option.some.injEq] at a b c ⊢
      rw [a, b, c]) h0
end My
namespace My
open PySem PySem.W
def goT (tb : String → Option Builtin) (p : Program) (w : World) (m : Nat) (ann : Option Value) : Nat → SharedT → Thread → Option (SharedT × Thread)
  | 0, s, t => some (s, t)
  | k + 1, s, t => match through t with
    | true => none
    | false => match stepOk m ann t with
      | false => none
      | true => match stepT (denote tb) p w s t with
        | some (s', t') => goT tb p w m ann k s' t'
        | none => none
theorem Yc {tb : String → Option Builtin} {p : Program} {w : World} {m : Nat} {ann : Option Value} : ∀ (k : Nat) {s s' : SharedT} {t t' : Thread}, goT tb p w m ann k s t = some (s', t') → topGo tb p w m ann k s.abs t = some (s'.abs, t')
  | 0, s, s', t, t', h => by cases h; rfl
  | k + 1, s, s', t, t', h => by
    unfold goT at h
    unfold topGo
    cases e : through t with
    | true => rw [e] at h; cases h
    | false =>
      rw [e] at h
      dsimp only at h ⊢
      cases e2 : stepOk m ann t with
      | false => rw [e2] at h; cases h
      | true =>
        rw [e2] at h
        dsimp only at h ⊢
        cases e3 : stepT (denote tb) p w s t with
        | none => rw [e3] at h; cases h
        | some st =>
          obtain ⟨s2, t2⟩ := st
          rw [e3] at h
          rw [stepT_spec e3]
          exact Yc k h
theorem Zn {p : Program} {w : World} {N : Nat} {α : Type} {F : Shared → α} {g : α} (e : opening p = plainProg p.main.scope.names) (hN : Nat.ble 600 N = true) (f : ∀ s, fenceModules? p s = some s)
    (h : ∀ os, ∃ r : Shared, topRun treeTable p w (Bw w os).heap.objs.size ((Bw w os).heap.nsMap mainGlobals "__annotations__") N (Bw w os) (topStub p) = some r ∧ stays p (Bw w os) r = true ∧ F r = g)
    (h0 : ∀ os, ((Bw w os).heap.isNs mainGlobals && (Bw w os).gens.size == 0) = true) : (openEnds treeTable p w N).map F = some g := by
  have hb := boot_open e hN f w
  unfold openEnds
  cases q : fencedOpening treeTable p w N with
  | none => rw [q] at hb; cases hb
  | some s =>
    rw [q] at hb
    have hs : s = Bw w s.os := by
      obtain ⟨a, b, c, d, o⟩ := s
      simp only [Option.map_some, Option.some.injEq, Prod.mk.injEq] at hb
      obtain ⟨rfl, rfl, rfl, rfl⟩ := hb
      rfl
    generalize s.os = o at hs
    subst hs
    show (topFrom treeTable p w N (Bw w o)).map F = some g
    unfold topFrom
    rw [h0 o]
    obtain ⟨r, hr, h1, h2⟩ := h o
    unfold stays at h1
    dsimp only
    rw [hr]
    show (match staticsOk (importedModules p.main.body) (Bw w o).heap r.heap && namesBound p r.heap && gensDone r && laidKept (Bw w o).heap r.heap with
      | true => some r
      | false => none).map F = some g
    rw [h1]
    exact congrArg some h2
theorem Yj {p : Program} {w : World} {N : Nat} {α β : Type} {F : Shared → α} {G : Shared → β} {f' : α} {g' : β} {TL : OsState → Option SharedT} (e : opening p = plainProg p.main.scope.names) (hN : Nat.ble 600 N = true) (f : ∀ s, fenceModules? p s = some s)
    (hr : ∀ os r, TL os = some r → topRun treeTable p w (Bw w os).heap.objs.size ((Bw w os).heap.nsMap mainGlobals "__annotations__") N (Bw w os) (topStub p) = some r.abs)
    (h1 : ∀ os, (TL os).map (fun r => stays p (Bw w os) r.abs) = some true) (h2 : ∀ os, (TL os).map (fun r => F r.abs) = some f') (h3 : ∀ os, (TL os).map (fun r => G r.abs) = some g')
    (h0 : ∀ os, ((Bw w os).heap.isNs mainGlobals && (Bw w os).gens.size == 0) = true) : (openEnds treeTable p w N).map (fun s => (F s, G s)) = some (f', g') :=
  Zn (F := fun s => (F s, G s)) e hN f (fun os => by
    have a := h1 os
    have b := h2 os
    have c := h3 os
    have d := hr os
    cases q : TL os with
    | none => rw [q] at a; cases a
    | some r =>
      rw [q] at a b c
      simp only [Option.map_some, Option.some.injEq] at a b c
      exact ⟨_, d r q, a, by rw [b, c]⟩) h0
end My
set_option maxRecDepth 1000000
set_option maxHeartbeats 0
namespace My
open PySem PySem.W
def tp (i : Nat) : Stmt := PySem.Challenge.pw_formcycle_k44_unit_and_opposite.main.body.getD i (.Pass ⟨0, 0, 0, 0⟩)
def fA (s : Stmt) : Arguments := match s with
  | .FunctionDef _ a _ _ _ _ _ _ _ _ => a
  | _ => ⟨[], [], none, [], [], none, []⟩
def fB (s : Stmt) : List Stmt := match s with
  | .FunctionDef _ _ b _ _ _ _ _ _ _ => b
  | _ => []
def fS (s : Stmt) : Scope := match s with
  | .FunctionDef _ _ _ _ _ _ c _ _ _ => c
  | _ => ⟨.function, [], false, false, []⟩
def inC (s : Stmt) (j : Nat) : Stmt := match s with
  | .ClassDef _ _ _ b _ _ _ _ _ _ _ => b.getD j (.Pass ⟨0, 0, 0, 0⟩)
  | _ => .Pass ⟨0, 0, 0, 0⟩
noncomputable section
abbrev O := Obj
abbrev sT (s : String) (t : Nat) : Value := .str (.ofString s) t
abbrev iZ (n : Int) : Value := .int n 0
abbrev dE (P : Params) (s : String) (t : Nat) (v : Value) : DictEntry := .mk (PyData.keyHash P (.ofString s)) (.str (.ofString s) t) v
abbrev fO (n q : String) (w : Stmt) (m : String) (t c : Nat) : Obj := .mk (.type "function") none (Data.func (FuncData.mk (.ofString n) (.ofString q) (fA w) (.stmts (fB w)) (fS w) 3 [] .none .none .none (.str (.ofString m) t) none (.ref c) .none 0)) #[]
abbrev tO (a : Array Value) : Obj := .mk (.type "tuple") none (Data.seq a) #[]
abbrev cO (a : Array Value) : Obj := .mk (.type "code") none (Data.fields a) #[]
abbrev nO (a : Array Value) : Obj := .mk .none none (Data.fields a) #[]
abbrev mO (a : Array DictEntry) : Obj := .mk (.type "dict") none (Data.dict a) #[]
abbrev bO (a : Array Value) : Obj := .mk (.type "builtin_function_or_method") none (Data.fields a) #[]
abbrev Lf (o : Obj) : BT := .node o .nil .nil
abbrev Nd (o : Obj) (l r : BT) : BT := .node o l r
abbrev sF (t : Nat) : Value := .str (.ofString "/claim/cut.py") t
def tE : Obj := .mk (.type "tuple") none (Data.seq #[]) #[]
abbrev cF (n q : String) (a l k r t : Nat) : Obj := .mk (.type "code") none (Data.fields #[.str (.ofString n) a, .str (.ofString q) (a + 1), .str (.ofString "/claim/cut.py") (a + 2), .int l 0, .int k 0, .int 0 0, .int 0 0, .int 3 0, .ref r, .bool true, .int 181 0, .ref (r + 1), .none, .ref (r + 2), .ref (r + 3), .ref (r + 4), .int t 0, .int l 0, .str (.ofString "/claim/cut.py") (t + 1)]) #[]
abbrev pO (n q : String) (w : Stmt) (c : Nat) : Obj := .mk .none none (Data.func (FuncData.mk (.ofString n) (.ofString q) (fA w) (.stmts (fB w)) (fS w) 3 [] .none .none .none .none none (.ref c) .none 0)) #[]
abbrev rO (c l : Nat) (m : String) (t : Nat) : Obj := .mk (.type "frame") none Data.plain #[some (.ref c), some (.ref 3), some (.ref l), none, some (.str (.ofString m) t), none, some (.ref 0)]
abbrev sO (c : Nat) : Obj := .mk (.type "super") none (Data.fields #[.ref c, .ref c, .ref c]) #[]
abbrev dO (a : Array DictEntry) (n : Nat) : Obj := .mk (.type "dict") none (Data.dict a n) #[]
abbrev xO (n : String) (b c d e t u : Nat) : Obj := .mk (.type "type") none (Data.cls (ClassData.mk (.ofString n) [.ref b] [.ref c, .ref b, .type "ValueError", .type "Exception", .type "BaseException", .type "object"] d (.ofString n) true [] [] false none false)) #[some (.ref e), none, some (.str (.ofString n) t), some (.str (.ofString n) u), some (.builtin "ValueError.__new__"), some (.bool true)]
def o2:O:=.mk .none none (Data.dict #[]) #[]
def o3 (P:Params):O:=dO #[dE P "__name__" 165 (sT "law_formcycle_k44_unit_and_opposite" 861),dE P "__doc__" 166 .none,dE P "__package__" 167 .none,dE P "__loader__" 168 (.builtin "__main__.__loader__#opaque"),dE P "__spec__" 169 .none,dE P "__annotations__" 170 (.ref 6),dE P "__builtins__" 171 (.ref 4),dE P "__file__" 173 (sF 172),dE P "__cached__" 174 .none,dE P "_wall" 193 (.ref 21),dE P "FormError" 213 (.ref 31),dE P "NoTurn" 238 (.ref 51),dE P "NoShape" 263 (.ref 70),dE P "TooGreat" 290 (.ref 89),dE P "NoRoot" 315 (.ref 108),dE P "Apart" 331 (.ref 120),dE P "NotPlain" 356 (.ref 139),dE P "NoMeasure" 381 (.ref 158),dE P "divisor" 392 (.ref 167),dE P "shares" 403 (.ref 174),dE P "row_less" 412 (.ref 181),dE P "root" 421 (.ref 188),dE P "is_square" 429 (.ref 195),dE P "check_at_most" 437 (.ref 202),dE P "SAME" 444 (.ref 203),dE P "is_turn" 451 (.ref 210),dE P "check_turn" 458 (.ref 217),dE P "led" 466 (.ref 224),dE P "put_behind" 474 (.ref 231),dE P "back" 481 (.ref 238),dE P "measure" 490 (.ref 245),dE P "value" 500 (.ref 252),dE P "content" 507 (.ref 259),dE P "moved" 517 (.ref 266),dE P "middle" 527 (.ref 273),dE P "shape" 535 (.ref 280),dE P "check_bowl" 544 (.ref 287),dE P "stands_least" 554 (.ref 294),dE P "settled" 563 (.ref 301),dE P "turn_lower" 571 (.ref 308),dE P "MOST_MEASURE" 575 (.int 4000 574),dE P "check_saddle" 582 (.ref 315),dE P "stands_level" 591 (.ref 322),dE P "turn_behind" 602 (.ref 329),dE P "stop_behind" 611 (.ref 336),dE P "eased" 620 (.ref 343),dE P "stops_round" 631 (.ref 350),dE P "lowered" 638 (.ref 357),dE P "Shape" 695 (.ref 395),dE P "Bowl" 719 (.ref 416),dE P "Saddle" 743 (.ref 435),dE P "shape_of" 750 (.ref 444),dE P "least_of" 757 (.ref 451),dE P "product" 770 (.ref 458),dE P "check_pair" 780 (.ref 465),dE P "check_plain" 787 (.ref 472),dE P "half_of_middles" 795 (.ref 479),dE P "common_shares" 805 (.ref 486),dE P "joint_form" 820 (.ref 493),dE P "joint_rows" 837 (.ref 500),dE P "rows_led" 843 (.ref 505),dE P "check_measure" 852 (.ref 512),dE P "unit" 860 (.ref 519),dE P "_law_cell" 870 (.ref 526),dE P "_law_whole" 877 (.ref 533),dE P "_law_wholes" 883 (.ref 538),dE P "_law_bar" 890 (.ref 545),dE P "_law_root" 898 (.ref 552),dE P "_law_flat" 907 (.ref 559),dE P "_law_level" 915 (.ref 566),dE P "_law_behind" 927 (.ref 573),dE P "_law_bowl" 938 (.ref 580),dE P "_law_least" 948 (.ref 587),dE P "_law_rest" 956 (.ref 594),dE P "_law_turn" 970 (.ref 601),dE P "_law_value" 979 (.ref 608),dE P "_law_moved" 992 (.ref 615),dE P "_law_sum" 1005 (.ref 622),dE P "_law_united" 1011 (.ref 627),dE P "law" 1024 (.ref 634)] 80
def o17:O:=tO #[sT "k" 190]
def o20:O:=cF "_wall" "_wall" 187 1 1 15 191
def o21:O:=fO "_wall" "_wall" (tp 0) "__main__" 164 20
def o22:O:=tO #[.type "ValueError"]
def o30 (P:Params):O:=dO #[dE P "__module__" 203 (sT "formcycle.errors" 194),dE P "__firstlineno__" 207 (.int 5 206),dE P "__static_attributes__" 208 (.ref 29),dE P "__weakref__" 210 (.ref 32),dE P "__doc__" 211 .none] 3
def o31:O:=.mk (.type "type") none (Data.cls (ClassData.mk (.ofString "FormError") [.type "ValueError"] [.ref 31, .type "ValueError", .type "Exception", .type "BaseException", .type "object"] 30 (.ofString "FormError") Bool.true [] [.ref 51,.ref 70,.ref 89,.ref 108,.ref 120,.ref 139,.ref 158] Bool.false none Bool.false)) #[some (.ref 22), none, some (sT "FormError" 196), some (sT "FormError" 204), some (.builtin "ValueError.__new__"), some (.bool true)]
def o32:O:=.mk (.type "getset_descriptor") none (Data.fields #[sT "__weakref__" 209,.ref 31, .builtin "ExceptionGroup.__weakref__", .none]) #[]
def o35:O:=tO #[.ref 31]
def o44:O:=tO #[sT "self" 229,sT "turn" 230]
def o47:O:=cF "__init__" "NoTurn.__init__" 226 9 2 42 231
def o48:O:=fO "__init__" "NoTurn.__init__" (inC (tp 3) 0) "formcycle.errors" 194 47
def o49:O:=tO #[sT "turn" 234]
def o50 (P:Params):O:=dO #[dE P "__module__" 221 (sT "formcycle.errors" 194),dE P "__firstlineno__" 225 (.int 7 224),dE P "__init__" 233 (.ref 48),dE P "__static_attributes__" 235 (.ref 49),dE P "__doc__" 236 .none] 2
def o51:O:=xO "NoTurn" 31 51 50 35 214 222
def o54:O:=tO #[.ref 31]
def o63:O:=tO #[sT "self" 254,sT "form" 255]
def o66:O:=cF "__init__" "NoShape.__init__" 251 13 2 61 256
def o67:O:=fO "__init__" "NoShape.__init__" (inC (tp 4) 0) "formcycle.errors" 194 66
def o68:O:=tO #[sT "form" 259]
def o69 (P:Params):O:=dO #[dE P "__module__" 246 (sT "formcycle.errors" 194),dE P "__firstlineno__" 250 (.int 11 249),dE P "__init__" 258 (.ref 67),dE P "__static_attributes__" 260 (.ref 68),dE P "__doc__" 261 .none] 2
def o70:O:=xO "NoShape" 31 70 69 54 239 247
def o73:O:=tO #[.ref 31]
def o82:O:=tO #[sT "self" 279,sT "number" 280,sT "most" 281]
def o85:O:=cF "__init__" "TooGreat.__init__" 276 17 3 80 282
def o86:O:=fO "__init__" "TooGreat.__init__" (inC (tp 5) 0) "formcycle.errors" 194 85
def o87:O:=tO #[sT "most" 285,sT "number" 286]
def o88 (P:Params):O:=dO #[dE P "__module__" 271 (sT "formcycle.errors" 194),dE P "__firstlineno__" 275 (.int 15 274),dE P "__init__" 284 (.ref 86),dE P "__static_attributes__" 287 (.ref 87),dE P "__doc__" 288 .none] 2
def o89:O:=xO "TooGreat" 31 89 88 73 264 272
def o92:O:=tO #[.ref 31]
def AeY:O:=tO #[sT "self" 306,sT "number" 307]
def AdS:O:=cF "__init__" "NoRoot.__init__" 303 22 2 99 308
def AdV:O:=fO "__init__" "NoRoot.__init__" (inC (tp 6) 0) "formcycle.errors" 194 104
def AdL:O:=tO #[sT "number" 311]
def AeH (P:Params):O:=dO #[dE P "__module__" 298 (sT "formcycle.errors" 194),dE P "__firstlineno__" 302 (.int 20 301),dE P "__init__" 310 (.ref 105),dE P "__static_attributes__" 312 (.ref 106),dE P "__doc__" 313 .none] 2
def Aef:O:=xO "NoRoot" 31 108 107 92 291 299
def o111:O:=tO #[.ref 31]
def AeE (P:Params):O:=dO #[dE P "__module__" 323 (sT "formcycle.errors" 194),dE P "__firstlineno__" 327 (.int 24 326),dE P "__static_attributes__" 328 (.ref 118),dE P "__doc__" 329 .none] 2
def AdW:O:=xO "Apart" 31 120 119 111 316 324
def Aeg:O:=tO #[.ref 31]
def Aek:O:=tO #[sT "self" 347,sT "form" 348]
def AdN:O:=cF "__init__" "NotPlain.__init__" 344 28 2 130 349
def AeA:O:=fO "__init__" "NotPlain.__init__" (inC (tp 8) 0) "formcycle.errors" 194 135
def AeF:O:=tO #[sT "form" 352]
def AdH (P:Params):O:=dO #[dE P "__module__" 339 (sT "formcycle.errors" 194),dE P "__firstlineno__" 343 (.int 26 342),dE P "__init__" 351 (.ref 136),dE P "__static_attributes__" 353 (.ref 137),dE P "__doc__" 354 .none] 2
def AdK:O:=xO "NotPlain" 31 139 138 123 332 340
def Ag4:O:=tO #[.ref 31]
def AgY:O:=tO #[sT "self" 372,sT "number" 373]
def Ag5:O:=cF "__init__" "NoMeasure.__init__" 369 32 2 149 374
def AfG:O:=fO "__init__" "NoMeasure.__init__" (inC (tp 9) 0) "formcycle.errors" 194 154
def Aig:O:=tO #[sT "number" 377]
def AfD (P:Params):O:=dO #[dE P "__module__" 364 (sT "formcycle.errors" 194),dE P "__firstlineno__" 368 (.int 30 367),dE P "__init__" 376 (.ref 155),dE P "__static_attributes__" 378 (.ref 156),dE P "__doc__" 379 .none] 2
def Afw:O:=xO "NoMeasure" 31 158 157 142 357 365
def Ahn:O:=tO #[sT "one" 387,sT "other" 388,sT "rest" 389]
def AiC:O:=cF "divisor" "divisor" 384 35 2 161 390
def Aha:O:=fO "divisor" "divisor" (tp 11) "formcycle.wholes" 382 166
def AhD:O:=tO #[sT "one" 396,sT "other" 397,sT "row" 398,sT "lower" 399,sT "rest" 400]
def Afu:O:=cF "shares" "shares" 393 41 2 168 401
def Afa:O:=fO "shares" "shares" (tp 12) "formcycle.wholes" 382 173
def AhV:O:=tO #[sT "row" 407,sT "lower" 408,sT "often" 409]
def Ahi:O:=cF "row_less" "row_less" 404 51 3 175 410
def AgL:O:=fO "row_less" "row_less" (tp 13) "formcycle.wholes" 382 180
def AgR:O:=tO #[sT "number" 416,sT "guess" 417,sT "better" 418]
def AgC:O:=cF "root" "root" 413 53 1 182 419
def Ags:O:=fO "root" "root" (tp 14) "formcycle.wholes" 382 187
def Ahy:O:=tO #[sT "number" 425,sT "side" 426]
def Aio:O:=cF "is_square" "is_square" 422 64 1 189 427
def Af6:O:=fO "is_square" "is_square" (tp 15) "formcycle.wholes" 382 194
def Ag3:O:=tO #[sT "number" 433,sT "most" 434]
def Agr:O:=cF "check_at_most" "check_at_most" 430 69 2 196 435
def AiH:O:=fO "check_at_most" "check_at_most" (tp 16) "formcycle.wholes" 382 201
def Aiq:O:=tO #[.int 1 440, .int 0 441, .int 0 442, .int 1 443]
def Af5:O:=tO #[sT "turn" 448]
def AgQ:O:=cF "is_turn" "is_turn" 445 74 1 204 449
def AfY:O:=fO "is_turn" "is_turn" (tp 19) "formcycle.turns" 438 209
def Agn:O:=tO #[sT "turn" 455]
def Agq:O:=cF "check_turn" "check_turn" 452 76 1 211 456
def Af7:O:=fO "check_turn" "check_turn" (tp 20) "formcycle.turns" 438 216
def Ahl:O:=tO #[sT "turn" 462,sT "point" 463]
def Ahz:O:=cF "led" "led" 459 79 2 218 464
def Ah5:O:=fO "led" "led" (tp 21) "formcycle.turns" 438 223
def AfX:O:=tO #[sT "one" 470,sT "other" 471]
def Ahj:O:=cF "put_behind" "put_behind" 467 82 2 225 472
def Afv:O:=fO "put_behind" "put_behind" (tp 22) "formcycle.turns" 438 230
def Aiw:O:=tO #[sT "turn" 478]
def AgF:O:=cF "back" "back" 475 84 1 232 479
def AhE:O:=fO "back" "back" (tp 23) "formcycle.turns" 438 237
def AhP:O:=tO #[sT "form" 487]
def Aga:O:=cF "measure" "measure" 484 88 1 239 488
def AfH:O:=fO "measure" "measure" (tp 25) "formcycle.forms" 482 244
def AfM:O:=tO #[sT "form" 494,sT "point" 495,sT "x" 496,sT "y" 497]
def Agw:O:=cF "value" "value" 491 90 2 246 498
def Aix:O:=fO "value" "value" (tp 26) "formcycle.forms" 482 251
def Afp:O:=tO #[sT "form" 504]
def Afd:O:=cF "content" "content" 501 94 1 253 505
def Afk:O:=fO "content" "content" (tp 27) "formcycle.forms" 482 258
def Agh:O:=tO #[sT "form" 511,sT "turn" 512,sT "left" 513,sT "right" 514]
def AgO:O:=cF "moved" "moved" 508 96 2 260 515
def Ag0:O:=fO "moved" "moved" (tp 28) "formcycle.forms" 482 265
def AfZ:O:=tO #[sT "form" 521,sT "left" 522,sT "right" 523,sT "crossed" 524]
def Afj:O:=cF "middle" "middle" 518 101 3 267 525
def AfJ:O:=fO "middle" "middle" (tp 29) "formcycle.forms" 482 272
def AgE:O:=tO #[sT "form" 531,sT "number" 532]
def Aiv:O:=cF "shape" "shape" 528 104 1 274 533
def AhA:O:=fO "shape" "shape" (tp 30) "formcycle.forms" 482 279
def Afs:O:=tO #[sT "form" 541]
def AhZ:O:=cF "check_bowl" "check_bowl" 538 114 1 281 542
def Af4:O:=fO "check_bowl" "check_bowl" (tp 32) "formcycle.bowls" 536 286
def Ahh:O:=tO #[sT "form" 548,sT "a" 549,sT "b" 550,sT "c" 551]
def Ail:O:=cF "stands_least" "stands_least" 545 117 1 288 552
def AgS:O:=fO "stands_least" "stands_least" (tp 33) "formcycle.bowls" 536 293
def Aft:O:=tO #[sT "form" 558,sT "turn" 559,sT "lowering" 560]
def o300:O:=cF "settled" "settled" 555 124 1 295 561
def Aiu:O:=fO "settled" "settled" (tp 34) "formcycle.bowls" 536 300
def AhO:O:=tO #[sT "form" 567,sT "often" 568]
def AhS:O:=cF "turn_lower" "turn_lower" 564 132 1 302 569
def Ahr:O:=fO "turn_lower" "turn_lower" (tp 35) "formcycle.bowls" 536 307
def AiE:O:=tO #[sT "form" 579]
def AhF:O:=cF "check_saddle" "check_saddle" 576 139 1 309 580
def Agk:O:=fO "check_saddle" "check_saddle" (tp 38) "formcycle.saddles" 572 314
def Ah2:O:=tO #[sT "form" 586,sT "far" 587,sT "b" 588]
def AhJ:O:=cF "stands_level" "stands_level" 583 143 2 316 589
def Agb:O:=fO "stands_level" "stands_level" (tp 39) "formcycle.saddles" 572 321
def Agt:O:=tO #[sT "form" 595,sT "top" 596,sT "b" 597,sT "c" 598,sT "d" 599]
def AhI:O:=cF "turn_behind" "turn_behind" 592 146 2 323 600
def Afe:O:=fO "turn_behind" "turn_behind" (tp 40) "formcycle.saddles" 572 328
def Aia:O:=tO #[sT "stop" 606,sT "top" 607,sT "turn" 608]
def Ah9:O:=cF "stop_behind" "stop_behind" 603 151 2 330 609
def Af1:O:=fO "stop_behind" "stop_behind" (tp 41) "formcycle.saddles" 572 335
def Aii:O:=tO #[sT "form" 615,sT "far" 616,sT "stop" 617]
def Af3:O:=cF "eased" "eased" 612 154 1 337 618
def Ag2:O:=fO "eased" "eased" (tp 42) "formcycle.saddles" 572 342
def Ahx:O:=tO #[sT "form" 624,sT "far" 625,sT "first" 626,sT "stops" 627,sT "stop" 628]
def Ahu:O:=cF "stops_round" "stops_round" 621 161 1 344 629
def Agu:O:=fO "stops_round" "stops_round" (tp 43) "formcycle.saddles" 572 349
def Agx:O:=tO #[sT "form" 635]
def Air:O:=cF "lowered" "lowered" 632 171 1 351 636
def AgI:O:=fO "lowered" "lowered" (tp 44) "formcycle.saddles" 572 356
def Agj:O:=tO #[sT "self" 656,sT "form" 657,sT "lowest" 658]
def Ae5:O:=cF "__init__" "Shape.__init__" 653 177 3 365 659
def Afm:O:=fO "__init__" "Shape.__init__" (inC (tp 46) 0) "formcycle.shapes" 639 370
def Ais:O:=tO #[sT "self" 665]
def o377:O:=cF "least" "Shape.least" 662 182 1 372 666
def Aij:O:=fO "least" "Shape.least" (inC (tp 46) 1) "formcycle.shapes" 639 377
def AfU:O:=tO #[sT "self" 672,sT "turn" 673]
def Afh:O:=cF "leaves" "Shape.leaves" 669 185 2 379 674
def AgM:O:=fO "leaves" "Shape.leaves" (inC (tp 46) 2) "formcycle.shapes" 639 384
def Ag1:O:=tO #[sT "self" 680,sT "other" 681]
def AfR:O:=cF "way_to" "Shape.way_to" 677 188 2 386 682
def Ahk:O:=fO "way_to" "Shape.way_to" (inC (tp 46) 3) "formcycle.shapes" 639 391
def Afg:O:=tO #[sT "form" 685,sT "lowest" 686,sT "measure" 687]
def Aie (P:Params):O:=dO #[dE P "__module__" 648 (sT "formcycle.shapes" 639),dE P "__firstlineno__" 652 (.int 175 651),dE P "__init__" 661 (.ref 371),dE P "least" 668 (.ref 378),dE P "leaves" 676 (.ref 385),dE P "way_to" 684 (.ref 392),dE P "__static_attributes__" 688 (.ref 393),dE P "__dict__" 690 (.ref 396),dE P "__weakref__" 692 (.ref 397),dE P "__doc__" 693 .none] 4
def Ajc:O:=.mk (.type "type") none (Data.cls (ClassData.mk (.ofString "Shape") [.type "object"] [.ref 395, .type "object"] 394 (.ofString "Shape") Bool.true [] [.ref 416,.ref 435] Bool.false none Bool.false)) #[none, none, some (sT "Shape" 641), some (sT "Shape" 649), some (.builtin "object.__new__"), some (.bool true)]
def AgT:O:=.mk (.type "getset_descriptor") none (Data.fields #[sT "__dict__" 689,.ref 395, .builtin "function.__dict__", .builtin "function.__dict__#set"]) #[]
def Ah1:O:=.mk (.type "getset_descriptor") none (Data.fields #[sT "__weakref__" 691,.ref 395, .builtin "ExceptionGroup.__weakref__", .none]) #[]
def o400:O:=tO #[.ref 395]
def AhY:O:=tO #[sT "self" 711,sT "form" 712]
def AiG:O:=cF "__init__" "Bowl.__init__" 708 192 2 407 713
def AhL:O:=fO "__init__" "Bowl.__init__" (inC (tp 47) 0) "formcycle.shapes" 639 412
def AfK (P:Params):O:=dO #[dE P "__module__" 703 (sT "formcycle.shapes" 639),dE P "__firstlineno__" 707 (.int 190 706),dE P "__init__" 715 (.ref 413),dE P "__static_attributes__" 716 (.ref 414),dE P "__doc__" 717 .none] 2
def AfE:O:=.mk (.type "type") none (Data.cls (ClassData.mk (.ofString "Bowl") [.ref 395] [.ref 416,.ref 395, .type "object"] 415 (.ofString "Bowl") Bool.true [] [] Bool.false none Bool.false)) #[some (.ref 400), none, some (sT "Bowl" 696), some (sT "Bowl" 704), some (.builtin "object.__new__"), some (.bool true)]
def AjS:O:=tO #[.ref 395]
def Ajv:O:=tO #[sT "self" 735,sT "form" 736]
def AkU:O:=cF "__init__" "Saddle.__init__" 732 196 2 426 737
def Ak1:O:=fO "__init__" "Saddle.__init__" (inC (tp 48) 0) "formcycle.shapes" 639 431
def AkZ (P:Params):O:=dO #[dE P "__module__" 727 (sT "formcycle.shapes" 639),dE P "__firstlineno__" 731 (.int 194 730),dE P "__init__" 739 (.ref 432),dE P "__static_attributes__" 740 (.ref 433),dE P "__doc__" 741 .none] 2
def AkL:O:=.mk (.type "type") none (Data.cls (ClassData.mk (.ofString "Saddle") [.ref 395] [.ref 435,.ref 395, .type "object"] 434 (.ofString "Saddle") Bool.true [] [] Bool.false none Bool.false)) #[some (.ref 419), none, some (sT "Saddle" 720), some (sT "Saddle" 728), some (.builtin "object.__new__"), some (.bool true)]
def Akb:O:=tO #[sT "form" 747]
def AkK:O:=cF "shape_of" "shape_of" 744 198 1 438 748
def o444:O:=fO "shape_of" "shape_of" (tp 49) "formcycle.shapes" 639 443
def Ai5:O:=tO #[sT "form" 754]
def Akr:O:=cF "least_of" "least_of" 751 202 1 445 755
def AjV:O:=fO "least_of" "least_of" (tp 50) "formcycle.shapes" 639 450
def AiU:O:=tO #[sT "one" 763,sT "other" 764,sT "common" 765,sT "form" 766,sT "lowest" 767]
def AkE:O:=cF "product" "product" 760 205 2 452 768
def Aj7:O:=fO "product" "product" (tp 52) "formcycle.products" 758 457
def AkS:O:=tO #[sT "one" 774,sT "other" 775,sT "first" 776,sT "second" 777]
def Akc:O:=cF "check_pair" "check_pair" 771 211 2 459 778
def Ake:O:=fO "check_pair" "check_pair" (tp 53) "formcycle.products" 758 464
def AkJ:O:=tO #[sT "form" 784]
def AkG:O:=cF "check_plain" "check_plain" 781 218 1 466 785
def Ak0:O:=fO "check_plain" "check_plain" (tp 54) "formcycle.products" 758 471
def Akh:O:=tO #[sT "one" 791,sT "other" 792]
def AjQ:O:=cF "half_of_middles" "half_of_middles" 788 221 2 473 793
def Ajj:O:=fO "half_of_middles" "half_of_middles" (tp 55) "formcycle.products" 758 478
def Ajy:O:=tO #[sT "one" 799,sT "other" 800,sT "firsts" 801,sT "whole" 802]
def AkN:O:=cF "common_shares" "common_shares" 796 223 2 480 803
def Ajp:O:=fO "common_shares" "common_shares" (tp 56) "formcycle.products" 758 485
def Ajt:O:=tO #[sT "one" 809,sT "other" 810,sT "common" 811,sT "g" 812,sT "d" 813,sT "e" 814,sT "first" 815,sT "more" 816,sT "middle" 817]
def AjX:O:=cF "joint_form" "joint_form" 806 227 3 487 818
def Ak9:O:=fO "joint_form" "joint_form" (tp 57) "formcycle.products" 758 492
def Akm:O:=tO #[sT "one" 824,sT "other" 825,sT "g" 826,sT "middle" 827,sT "a" 828,sT "b" 829,sT "d" 830,sT "e" 831,sT "s" 832,sT "last" 833,sT "upper" 834]
def Aj5:O:=cF "joint_rows" "joint_rows" 821 235 4 494 835
def Ajs:O:=fO "joint_rows" "joint_rows" (tp 58) "formcycle.products" 758 499
def AjU:O:=cO #[sT "rows_led" 838,sT "rows_led" 839, sF 840,iZ 244,iZ 2,iZ 0,iZ 0,iZ 3,.ref 501, .bool true,iZ 181,.ref 502, .none, .none, .none,.ref 503,iZ 841,iZ 244, sF 842]
def Ak8:O:=fO "rows_led" "rows_led" (tp 59) "formcycle.products" 758 504
def Ajz:O:=tO #[sT "number" 849]
def AkT:O:=cF "check_measure" "check_measure" 846 248 1 506 850
def Aks:O:=fO "check_measure" "check_measure" (tp 61) "formcycle.classes" 844 511
def Ajd:O:=tO #[sT "number" 856,sT "middle" 857]
def AiN:O:=cF "unit" "unit" 853 251 1 513 858
def Akl:O:=fO "unit" "unit" (tp 62) "formcycle.classes" 844 518
def Ajl:O:=tO #[sT "_law_script" 866,sT "_law_k" 867]
def AjR:O:=cF "_law_cell" "_law_cell" 863 257 2 520 868
def Aj2:O:=fO "_law_cell" "_law_cell" (tp 64) "law_formcycle_k44_unit_and_opposite" 861 525
def AiT:O:=tO #[sT "_law_found" 874]
def Aj1:O:=cF "_law_whole" "_law_whole" 871 261 1 527 875
def Aje:O:=fO "_law_whole" "_law_whole" (tp 65) "law_formcycle_k44_unit_and_opposite" 861 532
def Ak4:O:=cO #[sT "_law_wholes" 878,sT "_law_wholes" 879, sF 880,iZ 263,iZ 2,iZ 0,iZ 0,iZ 3,.ref 534, .bool true,iZ 181,.ref 535, .none, .none, .none,.ref 536,iZ 881,iZ 263, sF 882]
def Aj3:O:=fO "_law_wholes" "_law_wholes" (tp 66) "law_formcycle_k44_unit_and_opposite" 861 537
def Ajm:O:=tO #[sT "_law_form" 887]
def AiW:O:=cF "_law_bar" "_law_bar" 884 267 1 539 888
def AjW:O:=fO "_law_bar" "_law_bar" (tp 67) "law_formcycle_k44_unit_and_opposite" 861 544
def Akd:O:=tO #[sT "_law_number" 894,sT "_law_near" 895]
def AjD:O:=cF "_law_root" "_law_root" 891 269 1 546 896
def AkO:O:=fO "_law_root" "_law_root" (tp 68) "law_formcycle_k44_unit_and_opposite" 861 551
def o555:O:=tO #[sT "_law_form" 902,sT "_law_bar_here" 903,sT "_law_far" 904]
def Akx:O:=cF "_law_flat" "_law_flat" 899 274 1 553 905
def AkD:O:=fO "_law_flat" "_law_flat" (tp 69) "law_formcycle_k44_unit_and_opposite" 861 558
def Ak7:O:=tO #[sT "_law_form" 911,sT "_law_far" 912]
def AkV:O:=cF "_law_level" "_law_level" 908 278 2 560 913
def AiZ:O:=fO "_law_level" "_law_level" (tp 70) "law_formcycle_k44_unit_and_opposite" 861 565
def Akk:O:=tO #[sT "_law_form" 919,sT "_law_top" 920,sT "_law_a" 921,sT "_law_b" 922,sT "_law_c" 923,sT "_law_d" 924]
def AjT:O:=cF "_law_behind" "_law_behind" 916 280 2 567 925
def Ajk:O:=fO "_law_behind" "_law_behind" (tp 71) "law_formcycle_k44_unit_and_opposite" 861 572
def AjP:O:=tO #[sT "_law_form" 931,sT "_law_a" 932,sT "_law_b" 933,sT "_law_c" 934,sT "_law_k" 935]
def AkC:O:=cF "_law_bowl" "_law_bowl" 928 284 1 574 936
def AjA:O:=fO "_law_bowl" "_law_bowl" (tp 72) "law_formcycle_k44_unit_and_opposite" 861 579
def AkA:O:=tO #[sT "_law_form" 942,sT "_law_far" 943,sT "_law_least_here" 944,sT "_law_now" 945]
def AiL:O:=cF "_law_least" "_law_least" 939 292 1 581 946
def AkW:O:=fO "_law_least" "_law_least" (tp 73) "law_formcycle_k44_unit_and_opposite" 861 586
def Aju:O:=tO #[sT "_law_one" 952,sT "_law_other" 953]
def AjM:O:=cF "_law_rest" "_law_rest" 949 304 2 588 954
def AjH:O:=fO "_law_rest" "_law_rest" (tp 74) "law_formcycle_k44_unit_and_opposite" 861 593
def AjG:O:=tO #[sT "_law_first" 960,sT "_law_cells" 961,sT "_law_p" 962,sT "_law_q" 963,sT "_law_r" 964,sT "_law_s" 965,sT "_law_cell_here" 966,sT "_law_k" 967]
def o600:O:=cF "_law_turn" "_law_turn" 957 308 2 595 968
def Akz:O:=fO "_law_turn" "_law_turn" (tp 75) "law_formcycle_k44_unit_and_opposite" 861 600
def Akg:O:=tO #[sT "_law_form" 974,sT "_law_x" 975,sT "_law_y" 976]
def AjF:O:=cF "_law_value" "_law_value" 971 314 3 602 977
def Aj9:O:=fO "_law_value" "_law_value" (tp 76) "law_formcycle_k44_unit_and_opposite" 861 607
def AiV:O:=tO #[sT "_law_form" 983,sT "_law_turn_here" 984,sT "_law_p" 985,sT "_law_q" 986,sT "_law_r" 987,sT "_law_s" 988,sT "_law_middle" 989]
def AjI:O:=cF "_law_moved" "_law_moved" 980 316 2 609 990
def Akq:O:=fO "_law_moved" "_law_moved" (tp 77) "law_formcycle_k44_unit_and_opposite" 861 614
def Ai4:O:=tO #[sT "_law_script" 996,sT "_law_sort" 997,sT "_law_both" 998,sT "_law_size" 999,sT "_law_b" 1000,sT "_law_rest_here" 1001,sT "_law_bar_here" 1002]
def AiP:O:=cF "_law_sum" "_law_sum" 993 320 4 616 1003
def Aj0:O:=fO "_law_sum" "_law_sum" (tp 78) "law_formcycle_k44_unit_and_opposite" 861 621
def Ajx:O:=cO #[sT "_law_united" 1006,sT "_law_united" 1007, sF 1008,iZ 327,iZ 2,iZ 0,iZ 0,iZ 3,.ref 623, .bool true,iZ 181,.ref 624, .none, .none, .none,.ref 625,iZ 1009,iZ 327, sF 1010]
def AiY:O:=fO "_law_united" "_law_united" (tp 79) "law_formcycle_k44_unit_and_opposite" 861 626
def Akn:O:=tO #[sT "_law_script" 1015,sT "_law_form" 1016,sT "_law_bar_here" 1017,sT "_law_odd" 1018,sT "_law_first" 1019,sT "_law_far" 1020,sT "_law_least_here" 1021]
def Ajf:O:=cF "law" "law" 1012 347 1 628 1022
def Ai9:O:=fO "law" "law" (tp 80) "law_formcycle_k44_unit_and_opposite" 861 633
def KK : Params → Frag :=
fun P => (nat_lit 2,o2)::(nat_lit 3,o3 P)::(nat_lit 15,tE)::(nat_lit 17,o17)::(nat_lit 18,tE)::(nat_lit 20,o20)::(nat_lit 21,o21)::(nat_lit 22,o22)::(nat_lit 29,tE)::(nat_lit 30,o30 P)::(nat_lit 31,o31)::(nat_lit 32,o32)::(nat_lit 35,o35)::(nat_lit 42,tE)::(nat_lit 44,o44)::(nat_lit 45,tE)::(nat_lit 47,o47)::(nat_lit 48,o48)::(nat_lit 49,o49)::(nat_lit 50,o50 P)::(nat_lit 51,o51)::(nat_lit 54,o54)::(nat_lit 61,tE)::(nat_lit 63,o63)::(nat_lit 64,tE)::(nat_lit 66,o66)::(nat_lit 67,o67)::(nat_lit 68,o68)::(nat_lit 69,o69 P)::(nat_lit 70,o70)::(nat_lit 73,o73)::(nat_lit 80,tE)::(nat_lit 82,o82)::(nat_lit 83,tE)::(nat_lit 85,o85)::(nat_lit 86,o86)::(nat_lit 87,o87)::(nat_lit 88,o88 P)::(nat_lit 89,o89)::(nat_lit 92,o92)::(nat_lit 99,tE)::(nat_lit 101,AeY)::(nat_lit 102,tE)::(nat_lit 104,AdS)::(nat_lit 105,AdV)::(nat_lit 106,AdL)::(nat_lit 107,AeH P)::(nat_lit 108,Aef)::(nat_lit 111,o111)::(nat_lit 118,tE)::(nat_lit 119,AeE P)::(nat_lit 120,AdW)::(nat_lit 123,Aeg)::(nat_lit 130,tE)::(nat_lit 132,Aek)::(nat_lit 133,tE)::(nat_lit 135,AdN)::(nat_lit 136,AeA)::(nat_lit 137,AeF)::(nat_lit 138,AdH P)::(nat_lit 139,AdK)::(nat_lit 142,Ag4)::(nat_lit 149,tE)::(nat_lit 151,AgY)::(nat_lit 152,tE)::(nat_lit 154,Ag5)::(nat_lit 155,AfG)::(nat_lit 156,Aig)::(nat_lit 157,AfD P)::(nat_lit 158,Afw)::(nat_lit 161,tE)::(nat_lit 163,Ahn)::(nat_lit 164,tE)::(nat_lit 166,AiC)::(nat_lit 167,Aha)::(nat_lit 168,tE)::(nat_lit 170,AhD)::(nat_lit 171,tE)::(nat_lit 173,Afu)::(nat_lit 174,Afa)::(nat_lit 175,tE)::(nat_lit 177,AhV)::(nat_lit 178,tE)::(nat_lit 180,Ahi)::(nat_lit 181,AgL)::(nat_lit 182,tE)::(nat_lit 184,AgR)::(nat_lit 185,tE)::(nat_lit 187,AgC)::(nat_lit 188,Ags)::(nat_lit 189,tE)::(nat_lit 191,Ahy)::(nat_lit 192,tE)::(nat_lit 194,Aio)::(nat_lit 195,Af6)::(nat_lit 196,tE)::(nat_lit 198,Ag3)::(nat_lit 199,tE)::(nat_lit 201,Agr)::(nat_lit 202,AiH)::(nat_lit 203,Aiq)::(nat_lit 204,tE)::(nat_lit 206,Af5)::(nat_lit 207,tE)::(nat_lit 209,AgQ)::(nat_lit 210,AfY)::(nat_lit 211,tE)::(nat_lit 213,Agn)::(nat_lit 214,tE)::(nat_lit 216,Agq)::(nat_lit 217,Af7)::(nat_lit 218,tE)::(nat_lit 220,Ahl)::(nat_lit 221,tE)::(nat_lit 223,Ahz)::(nat_lit 224,Ah5)::(nat_lit 225,tE)::(nat_lit 227,AfX)::(nat_lit 228,tE)::(nat_lit 230,Ahj)::(nat_lit 231,Afv)::(nat_lit 232,tE)::(nat_lit 234,Aiw)::(nat_lit 235,tE)::(nat_lit 237,AgF)::(nat_lit 238,AhE)::(nat_lit 239,tE)::(nat_lit 241,AhP)::(nat_lit 242,tE)::(nat_lit 244,Aga)::(nat_lit 245,AfH)::(nat_lit 246,tE)::(nat_lit 248,AfM)::(nat_lit 249,tE)::(nat_lit 251,Agw)::(nat_lit 252,Aix)::(nat_lit 253,tE)::(nat_lit 255,Afp)::(nat_lit 256,tE)::(nat_lit 258,Afd)::(nat_lit 259,Afk)::(nat_lit 260,tE)::(nat_lit 262,Agh)::(nat_lit 263,tE)::(nat_lit 265,AgO)::(nat_lit 266,Ag0)::(nat_lit 267,tE)::(nat_lit 269,AfZ)::(nat_lit 270,tE)::(nat_lit 272,Afj)::(nat_lit 273,AfJ)::(nat_lit 274,tE)::(nat_lit 276,AgE)::(nat_lit 277,tE)::(nat_lit 279,Aiv)::(nat_lit 280,AhA)::(nat_lit 281,tE)::(nat_lit 283,Afs)::(nat_lit 284,tE)::(nat_lit 286,AhZ)::(nat_lit 287,Af4)::(nat_lit 288,tE)::(nat_lit 290,Ahh)::(nat_lit 291,tE)::(nat_lit 293,Ail)::(nat_lit 294,AgS)::(nat_lit 295,tE)::(nat_lit 297,Aft)::(nat_lit 298,tE)::(nat_lit 300,o300)::(nat_lit 301,Aiu)::(nat_lit 302,tE)::(nat_lit 304,AhO)::(nat_lit 305,tE)::(nat_lit 307,AhS)::(nat_lit 308,Ahr)::(nat_lit 309,tE)::(nat_lit 311,AiE)::(nat_lit 312,tE)::(nat_lit 314,AhF)::(nat_lit 315,Agk)::(nat_lit 316,tE)::(nat_lit 318,Ah2)::(nat_lit 319,tE)::(nat_lit 321,AhJ)::(nat_lit 322,Agb)::(nat_lit 323,tE)::(nat_lit 325,Agt)::(nat_lit 326,tE)::(nat_lit 328,AhI)::(nat_lit 329,Afe)::(nat_lit 330,tE)::(nat_lit 332,Aia)::(nat_lit 333,tE)::(nat_lit 335,Ah9)::(nat_lit 336,Af1)::(nat_lit 337,tE)::(nat_lit 339,Aii)::(nat_lit 340,tE)::(nat_lit 342,Af3)::(nat_lit 343,Ag2)::(nat_lit 344,tE)::(nat_lit 346,Ahx)::(nat_lit 347,tE)::(nat_lit 349,Ahu)::(nat_lit 350,Agu)::(nat_lit 351,tE)::(nat_lit 353,Agx)::(nat_lit 354,tE)::(nat_lit 356,Air)::(nat_lit 357,AgI)::(nat_lit 365,tE)::(nat_lit 367,Agj)::(nat_lit 368,tE)::(nat_lit 370,Ae5)::(nat_lit 371,Afm)::(nat_lit 372,tE)::(nat_lit 374,Ais)::(nat_lit 375,tE)::(nat_lit 377,o377)::(nat_lit 378,Aij)::(nat_lit 379,tE)::(nat_lit 381,AfU)::(nat_lit 382,tE)::(nat_lit 384,Afh)::(nat_lit 385,AgM)::(nat_lit 386,tE)::(nat_lit 388,Ag1)::(nat_lit 389,tE)::(nat_lit 391,AfR)::(nat_lit 392,Ahk)::(nat_lit 393,Afg)::(nat_lit 394,Aie P)::(nat_lit 395,Ajc)::(nat_lit 396,AgT)::(nat_lit 397,Ah1)::(nat_lit 400,o400)::(nat_lit 407,tE)::(nat_lit 409,AhY)::(nat_lit 410,tE)::(nat_lit 412,AiG)::(nat_lit 413,AhL)::(nat_lit 414,tE)::(nat_lit 415,AfK P)::(nat_lit 416,AfE)::(nat_lit 419,AjS)::(nat_lit 426,tE)::(nat_lit 428,Ajv)::(nat_lit 429,tE)::(nat_lit 431,AkU)::(nat_lit 432,Ak1)::(nat_lit 433,tE)::(nat_lit 434,AkZ P)::(nat_lit 435,AkL)::(nat_lit 438,tE)::(nat_lit 440,Akb)::(nat_lit 441,tE)::(nat_lit 443,AkK)::(nat_lit 444,o444)::(nat_lit 445,tE)::(nat_lit 447,Ai5)::(nat_lit 448,tE)::(nat_lit 450,Akr)::(nat_lit 451,AjV)::(nat_lit 452,tE)::(nat_lit 454,AiU)::(nat_lit 455,tE)::(nat_lit 457,AkE)::(nat_lit 458,Aj7)::(nat_lit 459,tE)::(nat_lit 461,AkS)::(nat_lit 462,tE)::(nat_lit 464,Akc)::(nat_lit 465,Ake)::(nat_lit 466,tE)::(nat_lit 468,AkJ)::(nat_lit 469,tE)::(nat_lit 471,AkG)::(nat_lit 472,Ak0)::(nat_lit 473,tE)::(nat_lit 475,Akh)::(nat_lit 476,tE)::(nat_lit 478,AjQ)::(nat_lit 479,Ajj)::(nat_lit 480,tE)::(nat_lit 482,Ajy)::(nat_lit 483,tE)::(nat_lit 485,AkN)::(nat_lit 486,Ajp)::(nat_lit 487,tE)::(nat_lit 489,Ajt)::(nat_lit 490,tE)::(nat_lit 492,AjX)::(nat_lit 493,Ak9)::(nat_lit 494,tE)::(nat_lit 496,Akm)::(nat_lit 497,tE)::(nat_lit 499,Aj5)::(nat_lit 500,Ajs)::(nat_lit 501,tE)::(nat_lit 504,AjU)::(nat_lit 505,Ak8)::(nat_lit 506,tE)::(nat_lit 508,Ajz)::(nat_lit 509,tE)::(nat_lit 511,AkT)::(nat_lit 512,Aks)::(nat_lit 513,tE)::(nat_lit 515,Ajd)::(nat_lit 516,tE)::(nat_lit 518,AiN)::(nat_lit 519,Akl)::(nat_lit 520,tE)::(nat_lit 522,Ajl)::(nat_lit 523,tE)::(nat_lit 525,AjR)::(nat_lit 526,Aj2)::(nat_lit 527,tE)::(nat_lit 529,AiT)::(nat_lit 530,tE)::(nat_lit 532,Aj1)::(nat_lit 533,Aje)::(nat_lit 534,tE)::(nat_lit 537,Ak4)::(nat_lit 538,Aj3)::(nat_lit 539,tE)::(nat_lit 541,Ajm)::(nat_lit 542,tE)::(nat_lit 544,AiW)::(nat_lit 545,AjW)::(nat_lit 546,tE)::(nat_lit 548,Akd)::(nat_lit 549,tE)::(nat_lit 551,AjD)::(nat_lit 552,AkO)::(nat_lit 553,tE)::(nat_lit 555,o555)::(nat_lit 556,tE)::(nat_lit 558,Akx)::(nat_lit 559,AkD)::(nat_lit 560,tE)::(nat_lit 562,Ak7)::(nat_lit 563,tE)::(nat_lit 565,AkV)::(nat_lit 566,AiZ)::(nat_lit 567,tE)::(nat_lit 569,Akk)::(nat_lit 570,tE)::(nat_lit 572,AjT)::(nat_lit 573,Ajk)::(nat_lit 574,tE)::(nat_lit 576,AjP)::(nat_lit 577,tE)::(nat_lit 579,AkC)::(nat_lit 580,AjA)::(nat_lit 581,tE)::(nat_lit 583,AkA)::(nat_lit 584,tE)::(nat_lit 586,AiL)::(nat_lit 587,AkW)::(nat_lit 588,tE)::(nat_lit 590,Aju)::(nat_lit 591,tE)::(nat_lit 593,AjM)::(nat_lit 594,AjH)::(nat_lit 595,tE)::(nat_lit 597,AjG)::(nat_lit 598,tE)::(nat_lit 600,o600)::(nat_lit 601,Akz)::(nat_lit 602,tE)::(nat_lit 604,Akg)::(nat_lit 605,tE)::(nat_lit 607,AjF)::(nat_lit 608,Aj9)::(nat_lit 609,tE)::(nat_lit 611,AiV)::(nat_lit 612,tE)::(nat_lit 614,AjI)::(nat_lit 615,Akq)::(nat_lit 616,tE)::(nat_lit 618,Ai4)::(nat_lit 619,tE)::(nat_lit 621,AiP)::(nat_lit 622,Aj0)::(nat_lit 623,tE)::(nat_lit 626,Ajx)::(nat_lit 627,AiY)::(nat_lit 628,tE)::(nat_lit 630,Akn)::(nat_lit 631,tE)::(nat_lit 633,Ajf)::(nat_lit 634,Ai9)::[]
def Bh:O:=nO #[]
def Zg:O:=cO #[sT "<module>" 182,sT "<module>" 183, sF 184,iZ 1,iZ 0,iZ 0,iZ 0,iZ 0,.ref 11, .bool false,iZ 181,.ref 12, .none, .none, .none, .none,iZ 185,iZ 1, sF 186]
def Zw:O:=rO 13 3 "__main__" 164
def AjE (P:Params):O:=dO #[dE P "__name__" 165 (sT "formcycle.errors" 194),dE P "__doc__" 166 .none,dE P "__package__" 167 .none,dE P "__loader__" 168 (.builtin "__main__.__loader__#opaque"),dE P "__spec__" 169 .none,dE P "__annotations__" 170 (.ref 6),dE P "__builtins__" 171 (.ref 4),dE P "__file__" 173 (sF 172),dE P "__cached__" 174 .none,dE P "_wall" 193 (.ref 21),dE P "FormError" 213 (.ref 31),dE P "NoTurn" 238 (.ref 51),dE P "NoShape" 263 (.ref 70),dE P "TooGreat" 290 (.ref 89),dE P "NoRoot" 315 (.ref 108),dE P "Apart" 331 (.ref 120),dE P "NotPlain" 356 (.ref 139)] 17
def Ag6:O:=nO #[iZ 1,iZ 0,.ref 20,iZ 5,iZ 0,.ref 27,iZ 7,iZ 0,.ref 40,iZ 11,iZ 0,.ref 59,iZ 15,iZ 0,.ref 78,iZ 20,iZ 0,.ref 97,iZ 24,iZ 0,.ref 116,iZ 26,iZ 0,.ref 128]
def Adc:O:=.mk .none none (Data.func (FuncData.mk (.ofString "_wall") (.ofString "_wall") (fA (tp 0)) (.stmts (fB (tp 0))) (fS (tp 0)) 0 [] .none .none .none .none none .none .none 0)) #[]
def FJ:O:=bO #[.builtin "type.__prepare__", .type "type"]
def AcP (P:Params):O:=dO #[dE P "__module__" 203 (sT "formcycle.errors" 194),dE P "__qualname__" 205 (sT "FormError" 204),dE P "__firstlineno__" 207 (.int 5 206),dE P "__static_attributes__" 208 (.ref 29)] 4
def Acx:O:=cO #[sT "FormError" 198,sT "FormError" 199, sF 200,iZ 5,iZ 0,iZ 0,iZ 0,iZ 0,.ref 25, .bool false,iZ 181,.ref 26, .none, .none, .none, .none,iZ 201,iZ 5, sF 202]
def Aco:O:=rO 27 24 "formcycle.errors" 194
def Ae9:O:=.mk (.type "type") none (Data.cls (ClassData.mk (.ofString "FormError") [.type "ValueError"] [.ref 31, .type "ValueError", .type "Exception", .type "BaseException", .type "object"] 30 (.ofString "FormError") Bool.true [] [.ref 51,.ref 70,.ref 89,.ref 108,.ref 120,.ref 139] Bool.false none Bool.false)) #[some (.ref 22), none, some (sT "FormError" 196), some (sT "FormError" 204), some (.builtin "ValueError.__new__"), some (.bool true)]
def Acs:O:=sO 31
def Acr:O:=bO #[.builtin "object.__init_subclass__",.ref 31]
def AcZ (P:Params):O:=dO #[dE P "__module__" 221 (sT "formcycle.errors" 194),dE P "__qualname__" 223 (sT "NoTurn" 222),dE P "__firstlineno__" 225 (.int 7 224),dE P "__init__" 233 (.ref 48),dE P "__static_attributes__" 235 (.ref 49)] 5
def Acw:O:=nO #[iZ 9,iZ 4,.ref 47]
def AcN:O:=cO #[sT "NoTurn" 216,sT "NoTurn" 217, sF 218,iZ 7,iZ 0,iZ 0,iZ 0,iZ 0,.ref 38, .bool false,iZ 181,.ref 39, .none, .none, .none, .none,iZ 219,iZ 7, sF 220]
def Ac9:O:=rO 40 37 "formcycle.errors" 194
def Acy:O:=.mk .none none (Data.func (FuncData.mk (.ofString "__init__") (.ofString "NoTurn.__init__") (fA (inC (tp 3) 0)) (.stmts (fB (inC (tp 3) 0))) (fS (inC (tp 3) 0)) 0 [] .none .none .none .none none .none .none 0)) #[]
def AcT:O:=sO 51
def AcY:O:=bO #[.builtin "object.__init_subclass__",.ref 51]
def Adf (P:Params):O:=dO #[dE P "__module__" 246 (sT "formcycle.errors" 194),dE P "__qualname__" 248 (sT "NoShape" 247),dE P "__firstlineno__" 250 (.int 11 249),dE P "__init__" 258 (.ref 67),dE P "__static_attributes__" 260 (.ref 68)] 5
def Acv:O:=nO #[iZ 13,iZ 4,.ref 66]
def Ac8:O:=cO #[sT "NoShape" 241,sT "NoShape" 242, sF 243,iZ 11,iZ 0,iZ 0,iZ 0,iZ 0,.ref 57, .bool false,iZ 181,.ref 58, .none, .none, .none, .none,iZ 244,iZ 11, sF 245]
def AcF:O:=rO 59 56 "formcycle.errors" 194
def AcO:O:=.mk .none none (Data.func (FuncData.mk (.ofString "__init__") (.ofString "NoShape.__init__") (fA (inC (tp 4) 0)) (.stmts (fB (inC (tp 4) 0))) (fS (inC (tp 4) 0)) 0 [] .none .none .none .none none .none .none 0)) #[]
def Ac4:O:=sO 70
def AcU:O:=bO #[.builtin "object.__init_subclass__",.ref 70]
def Ade (P:Params):O:=dO #[dE P "__module__" 271 (sT "formcycle.errors" 194),dE P "__qualname__" 273 (sT "TooGreat" 272),dE P "__firstlineno__" 275 (.int 15 274),dE P "__init__" 284 (.ref 86),dE P "__static_attributes__" 287 (.ref 87)] 5
def AcE:O:=nO #[iZ 17,iZ 4,.ref 85]
def Adi:O:=cO #[sT "TooGreat" 266,sT "TooGreat" 267, sF 268,iZ 15,iZ 0,iZ 0,iZ 0,iZ 0,.ref 76, .bool false,iZ 181,.ref 77, .none, .none, .none, .none,iZ 269,iZ 15, sF 270]
def Ac1:O:=rO 78 75 "formcycle.errors" 194
def Acn:O:=.mk .none none (Data.func (FuncData.mk (.ofString "__init__") (.ofString "TooGreat.__init__") (fA (inC (tp 5) 0)) (.stmts (fB (inC (tp 5) 0))) (fS (inC (tp 5) 0)) 0 [] .none .none .none .none none .none .none 0)) #[]
def Acm:O:=sO 89
def Adg:O:=bO #[.builtin "object.__init_subclass__",.ref 89]
def AcQ (P:Params):O:=dO #[dE P "__module__" 298 (sT "formcycle.errors" 194),dE P "__qualname__" 300 (sT "NoRoot" 299),dE P "__firstlineno__" 302 (.int 20 301),dE P "__init__" 310 (.ref 105),dE P "__static_attributes__" 312 (.ref 106)] 5
def AcV:O:=nO #[iZ 22,iZ 4,.ref 104]
def Ac5:O:=cO #[sT "NoRoot" 293,sT "NoRoot" 294, sF 295,iZ 20,iZ 0,iZ 0,iZ 0,iZ 0,.ref 95, .bool false,iZ 181,.ref 96, .none, .none, .none, .none,iZ 296,iZ 20, sF 297]
def Ac3:O:=rO 97 94 "formcycle.errors" 194
def ZM:O:=.mk .none none (Data.func (FuncData.mk (.ofString "__init__") (.ofString "NoRoot.__init__") (fA (inC (tp 6) 0)) (.stmts (fB (inC (tp 6) 0))) (fS (inC (tp 6) 0)) 0 [] .none .none .none .none none .none .none 0)) #[]
def Zd:O:=sO 108
def Aah:O:=bO #[.builtin "object.__init_subclass__",.ref 108]
def Y7 (P:Params):O:=dO #[dE P "__module__" 323 (sT "formcycle.errors" 194),dE P "__qualname__" 325 (sT "Apart" 324),dE P "__firstlineno__" 327 (.int 24 326),dE P "__static_attributes__" 328 (.ref 118)] 4
def Yd:O:=cO #[sT "Apart" 318,sT "Apart" 319, sF 320,iZ 24,iZ 0,iZ 0,iZ 0,iZ 0,.ref 114, .bool false,iZ 181,.ref 115, .none, .none, .none, .none,iZ 321,iZ 24, sF 322]
def Zb:O:=rO 116 113 "formcycle.errors" 194
def Yg:O:=sO 120
def ZC:O:=bO #[.builtin "object.__init_subclass__",.ref 120]
def X8 (P:Params):O:=dO #[dE P "__module__" 339 (sT "formcycle.errors" 194),dE P "__qualname__" 341 (sT "NotPlain" 340),dE P "__firstlineno__" 343 (.int 26 342),dE P "__init__" 351 (.ref 136),dE P "__static_attributes__" 353 (.ref 137)] 5
def Zk:O:=nO #[iZ 28,iZ 4,.ref 135]
def Yk:O:=cO #[sT "NotPlain" 334,sT "NotPlain" 335, sF 336,iZ 26,iZ 0,iZ 0,iZ 0,iZ 0,.ref 126, .bool false,iZ 181,.ref 127, .none, .none, .none, .none,iZ 337,iZ 26, sF 338]
def Aai:O:=rO 128 125 "formcycle.errors" 194
def Yb:O:=.mk .none none (Data.func (FuncData.mk (.ofString "__init__") (.ofString "NotPlain.__init__") (fA (inC (tp 8) 0)) (.stmts (fB (inC (tp 8) 0))) (fS (inC (tp 8) 0)) 0 [] .none .none .none .none none .none .none 0)) #[]
def ZR:O:=sO 139
def Yu:O:=bO #[.builtin "object.__init_subclass__",.ref 139]
def Af2 (P:Params):O:=dO #[dE P "__name__" 165 (sT "formcycle.shapes" 639),dE P "__doc__" 166 .none,dE P "__package__" 167 .none,dE P "__loader__" 168 (.builtin "__main__.__loader__#opaque"),dE P "__spec__" 169 .none,dE P "__annotations__" 170 (.ref 6),dE P "__builtins__" 171 (.ref 4),dE P "__file__" 173 (sF 172),dE P "__cached__" 174 .none,dE P "_wall" 193 (.ref 21),dE P "FormError" 213 (.ref 31),dE P "NoTurn" 238 (.ref 51),dE P "NoShape" 263 (.ref 70),dE P "TooGreat" 290 (.ref 89),dE P "NoRoot" 315 (.ref 108),dE P "Apart" 331 (.ref 120),dE P "NotPlain" 356 (.ref 139),dE P "NoMeasure" 381 (.ref 158),dE P "divisor" 392 (.ref 167),dE P "shares" 403 (.ref 174),dE P "row_less" 412 (.ref 181),dE P "root" 421 (.ref 188),dE P "is_square" 429 (.ref 195),dE P "check_at_most" 437 (.ref 202),dE P "SAME" 444 (.ref 203),dE P "is_turn" 451 (.ref 210),dE P "check_turn" 458 (.ref 217),dE P "led" 466 (.ref 224),dE P "put_behind" 474 (.ref 231),dE P "back" 481 (.ref 238),dE P "measure" 490 (.ref 245),dE P "value" 500 (.ref 252),dE P "content" 507 (.ref 259),dE P "moved" 517 (.ref 266),dE P "middle" 527 (.ref 273),dE P "shape" 535 (.ref 280),dE P "check_bowl" 544 (.ref 287),dE P "stands_least" 554 (.ref 294),dE P "settled" 563 (.ref 301),dE P "turn_lower" 571 (.ref 308),dE P "MOST_MEASURE" 575 (.int 4000 574),dE P "check_saddle" 582 (.ref 315),dE P "stands_level" 591 (.ref 322),dE P "turn_behind" 602 (.ref 329),dE P "stop_behind" 611 (.ref 336),dE P "eased" 620 (.ref 343),dE P "stops_round" 631 (.ref 350),dE P "lowered" 638 (.ref 357),dE P "Shape" 695 (.ref 395),dE P "Bowl" 719 (.ref 416)] 50
def AeD:O:=nO #[iZ 1,iZ 0,.ref 20,iZ 5,iZ 0,.ref 27,iZ 7,iZ 0,.ref 40,iZ 11,iZ 0,.ref 59,iZ 15,iZ 0,.ref 78,iZ 20,iZ 0,.ref 97,iZ 24,iZ 0,.ref 116,iZ 26,iZ 0,.ref 128,iZ 30,iZ 0,.ref 147,iZ 35,iZ 0,.ref 166,iZ 41,iZ 0,.ref 173,iZ 51,iZ 0,.ref 180,iZ 53,iZ 0,.ref 187,iZ 64,iZ 0,.ref 194,iZ 69,iZ 0,.ref 201,iZ 74,iZ 0,.ref 209,iZ 76,iZ 0,.ref 216,iZ 79,iZ 0,.ref 223,iZ 82,iZ 0,.ref 230,iZ 84,iZ 0,.ref 237,iZ 88,iZ 0,.ref 244,iZ 90,iZ 0,.ref 251,iZ 94,iZ 0,.ref 258,iZ 96,iZ 0,.ref 265,iZ 101,iZ 0,.ref 272,iZ 104,iZ 0,.ref 279,iZ 114,iZ 0,.ref 286,iZ 117,iZ 0,.ref 293,iZ 124,iZ 0,.ref 300,iZ 132,iZ 0,.ref 307,iZ 139,iZ 0,.ref 314,iZ 143,iZ 0,.ref 321,iZ 146,iZ 0,.ref 328,iZ 151,iZ 0,.ref 335,iZ 154,iZ 0,.ref 342,iZ 161,iZ 0,.ref 349,iZ 171,iZ 0,.ref 356,iZ 175,iZ 0,.ref 363,iZ 190,iZ 0,.ref 405]
def AbW (P:Params):O:=dO #[dE P "__module__" 364 (sT "formcycle.errors" 194),dE P "__qualname__" 366 (sT "NoMeasure" 365),dE P "__firstlineno__" 368 (.int 30 367),dE P "__init__" 376 (.ref 155),dE P "__static_attributes__" 378 (.ref 156)] 5
def Acd:O:=nO #[iZ 32,iZ 4,.ref 154]
def Aa7:O:=cO #[sT "NoMeasure" 359,sT "NoMeasure" 360, sF 361,iZ 30,iZ 0,iZ 0,iZ 0,iZ 0,.ref 145, .bool false,iZ 181,.ref 146, .none, .none, .none, .none,iZ 362,iZ 30, sF 363]
def AbM:O:=rO 147 144 "formcycle.errors" 194
def Abf:O:=.mk .none none (Data.func (FuncData.mk (.ofString "__init__") (.ofString "NoMeasure.__init__") (fA (inC (tp 9) 0)) (.stmts (fB (inC (tp 9) 0))) (fS (inC (tp 9) 0)) 0 [] .none .none .none .none none .none .none 0)) #[]
def AaE:O:=sO 158
def AaS:O:=bO #[.builtin "object.__init_subclass__",.ref 158]
def AaQ:O:=.mk .none none (Data.func (FuncData.mk (.ofString "divisor") (.ofString "divisor") (fA (tp 11)) (.stmts (fB (tp 11))) (fS (tp 11)) 0 [] .none .none .none .none none .none .none 0)) #[]
def AaJ:O:=.mk .none none (Data.func (FuncData.mk (.ofString "shares") (.ofString "shares") (fA (tp 12)) (.stmts (fB (tp 12))) (fS (tp 12)) 0 [] .none .none .none .none none .none .none 0)) #[]
def AaD:O:=.mk .none none (Data.func (FuncData.mk (.ofString "row_less") (.ofString "row_less") (fA (tp 13)) (.stmts (fB (tp 13))) (fS (tp 13)) 0 [] .none .none .none .none none .none .none 0)) #[]
def AbR:O:=.mk .none none (Data.func (FuncData.mk (.ofString "root") (.ofString "root") (fA (tp 14)) (.stmts (fB (tp 14))) (fS (tp 14)) 0 [] .none .none .none .none none .none .none 0)) #[]
def AbK:O:=.mk .none none (Data.func (FuncData.mk (.ofString "is_square") (.ofString "is_square") (fA (tp 15)) (.stmts (fB (tp 15))) (fS (tp 15)) 0 [] .none .none .none .none none .none .none 0)) #[]
def AbJ:O:=.mk .none none (Data.func (FuncData.mk (.ofString "check_at_most") (.ofString "check_at_most") (fA (tp 16)) (.stmts (fB (tp 16))) (fS (tp 16)) 0 [] .none .none .none .none none .none .none 0)) #[]
def AaA:O:=.mk .none none (Data.func (FuncData.mk (.ofString "is_turn") (.ofString "is_turn") (fA (tp 19)) (.stmts (fB (tp 19))) (fS (tp 19)) 0 [] .none .none .none .none none .none .none 0)) #[]
def Abv:O:=.mk .none none (Data.func (FuncData.mk (.ofString "check_turn") (.ofString "check_turn") (fA (tp 20)) (.stmts (fB (tp 20))) (fS (tp 20)) 0 [] .none .none .none .none none .none .none 0)) #[]
def AaB:O:=.mk .none none (Data.func (FuncData.mk (.ofString "led") (.ofString "led") (fA (tp 21)) (.stmts (fB (tp 21))) (fS (tp 21)) 0 [] .none .none .none .none none .none .none 0)) #[]
def AbT:O:=.mk .none none (Data.func (FuncData.mk (.ofString "put_behind") (.ofString "put_behind") (fA (tp 22)) (.stmts (fB (tp 22))) (fS (tp 22)) 0 [] .none .none .none .none none .none .none 0)) #[]
def Ab1:O:=.mk .none none (Data.func (FuncData.mk (.ofString "back") (.ofString "back") (fA (tp 23)) (.stmts (fB (tp 23))) (fS (tp 23)) 0 [] .none .none .none .none none .none .none 0)) #[]
def AbB:O:=.mk .none none (Data.func (FuncData.mk (.ofString "measure") (.ofString "measure") (fA (tp 25)) (.stmts (fB (tp 25))) (fS (tp 25)) 0 [] .none .none .none .none none .none .none 0)) #[]
def AbQ:O:=.mk .none none (Data.func (FuncData.mk (.ofString "value") (.ofString "value") (fA (tp 26)) (.stmts (fB (tp 26))) (fS (tp 26)) 0 [] .none .none .none .none none .none .none 0)) #[]
def Abp:O:=.mk .none none (Data.func (FuncData.mk (.ofString "content") (.ofString "content") (fA (tp 27)) (.stmts (fB (tp 27))) (fS (tp 27)) 0 [] .none .none .none .none none .none .none 0)) #[]
def Aa3:O:=.mk .none none (Data.func (FuncData.mk (.ofString "moved") (.ofString "moved") (fA (tp 28)) (.stmts (fB (tp 28))) (fS (tp 28)) 0 [] .none .none .none .none none .none .none 0)) #[]
def Aap:O:=.mk .none none (Data.func (FuncData.mk (.ofString "middle") (.ofString "middle") (fA (tp 29)) (.stmts (fB (tp 29))) (fS (tp 29)) 0 [] .none .none .none .none none .none .none 0)) #[]
def Aar:O:=.mk .none none (Data.func (FuncData.mk (.ofString "shape") (.ofString "shape") (fA (tp 30)) (.stmts (fB (tp 30))) (fS (tp 30)) 0 [] .none .none .none .none none .none .none 0)) #[]
def Aa2:O:=.mk .none none (Data.func (FuncData.mk (.ofString "check_bowl") (.ofString "check_bowl") (fA (tp 32)) (.stmts (fB (tp 32))) (fS (tp 32)) 0 [] .none .none .none .none none .none .none 0)) #[]
def Acj:O:=.mk .none none (Data.func (FuncData.mk (.ofString "stands_least") (.ofString "stands_least") (fA (tp 33)) (.stmts (fB (tp 33))) (fS (tp 33)) 0 [] .none .none .none .none none .none .none 0)) #[]
def Acl:O:=.mk .none none (Data.func (FuncData.mk (.ofString "settled") (.ofString "settled") (fA (tp 34)) (.stmts (fB (tp 34))) (fS (tp 34)) 0 [] .none .none .none .none none .none .none 0)) #[]
def Aam:O:=.mk .none none (Data.func (FuncData.mk (.ofString "turn_lower") (.ofString "turn_lower") (fA (tp 35)) (.stmts (fB (tp 35))) (fS (tp 35)) 0 [] .none .none .none .none none .none .none 0)) #[]
def AaK:O:=.mk .none none (Data.func (FuncData.mk (.ofString "check_saddle") (.ofString "check_saddle") (fA (tp 38)) (.stmts (fB (tp 38))) (fS (tp 38)) 0 [] .none .none .none .none none .none .none 0)) #[]
def Aci:O:=.mk .none none (Data.func (FuncData.mk (.ofString "stands_level") (.ofString "stands_level") (fA (tp 39)) (.stmts (fB (tp 39))) (fS (tp 39)) 0 [] .none .none .none .none none .none .none 0)) #[]
def Acg:O:=.mk .none none (Data.func (FuncData.mk (.ofString "turn_behind") (.ofString "turn_behind") (fA (tp 40)) (.stmts (fB (tp 40))) (fS (tp 40)) 0 [] .none .none .none .none none .none .none 0)) #[]
def Aas:O:=.mk .none none (Data.func (FuncData.mk (.ofString "stop_behind") (.ofString "stop_behind") (fA (tp 41)) (.stmts (fB (tp 41))) (fS (tp 41)) 0 [] .none .none .none .none none .none .none 0)) #[]
def AaT:O:=.mk .none none (Data.func (FuncData.mk (.ofString "eased") (.ofString "eased") (fA (tp 42)) (.stmts (fB (tp 42))) (fS (tp 42)) 0 [] .none .none .none .none none .none .none 0)) #[]
def AbG:O:=.mk .none none (Data.func (FuncData.mk (.ofString "stops_round") (.ofString "stops_round") (fA (tp 43)) (.stmts (fB (tp 43))) (fS (tp 43)) 0 [] .none .none .none .none none .none .none 0)) #[]
def AaO:O:=.mk .none none (Data.func (FuncData.mk (.ofString "lowered") (.ofString "lowered") (fA (tp 44)) (.stmts (fB (tp 44))) (fS (tp 44)) 0 [] .none .none .none .none none .none .none 0)) #[]
def AbE (P:Params):O:=dO #[dE P "__module__" 648 (sT "formcycle.shapes" 639),dE P "__qualname__" 650 (sT "Shape" 649),dE P "__firstlineno__" 652 (.int 175 651),dE P "__init__" 661 (.ref 371),dE P "least" 668 (.ref 378),dE P "leaves" 676 (.ref 385),dE P "way_to" 684 (.ref 392),dE P "__static_attributes__" 688 (.ref 393)] 8
def Aaw:O:=nO #[iZ 177,iZ 4,.ref 370,iZ 182,iZ 4,.ref 377,iZ 185,iZ 4,.ref 384,iZ 188,iZ 4,.ref 391]
def AbY:O:=cO #[sT "Shape" 643,sT "Shape" 644, sF 645,iZ 175,iZ 0,iZ 0,iZ 0,iZ 0,.ref 361, .bool false,iZ 181,.ref 362, .none, .none, .none, .none,iZ 646,iZ 175, sF 647]
def Aaq:O:=rO 363 360 "formcycle.shapes" 639
def AaI:O:=.mk .none none (Data.func (FuncData.mk (.ofString "__init__") (.ofString "Shape.__init__") (fA (inC (tp 46) 0)) (.stmts (fB (inC (tp 46) 0))) (fS (inC (tp 46) 0)) 0 [] .none .none .none .none none .none .none 0)) #[]
def Ach:O:=.mk .none none (Data.func (FuncData.mk (.ofString "least") (.ofString "Shape.least") (fA (inC (tp 46) 1)) (.stmts (fB (inC (tp 46) 1))) (fS (inC (tp 46) 1)) 0 [] .none .none .none .none none .none .none 0)) #[]
def Aby:O:=.mk .none none (Data.func (FuncData.mk (.ofString "leaves") (.ofString "Shape.leaves") (fA (inC (tp 46) 2)) (.stmts (fB (inC (tp 46) 2))) (fS (inC (tp 46) 2)) 0 [] .none .none .none .none none .none .none 0)) #[]
def Abe:O:=.mk .none none (Data.func (FuncData.mk (.ofString "way_to") (.ofString "Shape.way_to") (fA (inC (tp 46) 3)) (.stmts (fB (inC (tp 46) 3))) (fS (inC (tp 46) 3)) 0 [] .none .none .none .none none .none .none 0)) #[]
def AaG:O:=.mk (.type "type") none (Data.cls (ClassData.mk (.ofString "Shape") [.type "object"] [.ref 395, .type "object"] 394 (.ofString "Shape") Bool.true [] [.ref 416] Bool.false none Bool.false)) #[none, none, some (sT "Shape" 641), some (sT "Shape" 649), some (.builtin "object.__new__"), some (.bool true)]
def Abm:O:=sO 395
def Aau:O:=bO #[.builtin "object.__init_subclass__",.ref 395]
def Aba (P:Params):O:=dO #[dE P "__module__" 703 (sT "formcycle.shapes" 639),dE P "__qualname__" 705 (sT "Bowl" 704),dE P "__firstlineno__" 707 (.int 190 706),dE P "__init__" 715 (.ref 413),dE P "__static_attributes__" 716 (.ref 414)] 5
def Abw:O:=nO #[iZ 192,iZ 4,.ref 412]
def AaR:O:=cO #[sT "Bowl" 698,sT "Bowl" 699, sF 700,iZ 190,iZ 0,iZ 0,iZ 0,iZ 0,.ref 403, .bool false,iZ 181,.ref 404, .none, .none, .none, .none,iZ 701,iZ 190, sF 702]
def Ab2:O:=rO 405 402 "formcycle.shapes" 639
def AaV:O:=.mk .none none (Data.func (FuncData.mk (.ofString "__init__") (.ofString "Bowl.__init__") (fA (inC (tp 47) 0)) (.stmts (fB (inC (tp 47) 0))) (fS (inC (tp 47) 0)) 0 [] .none .none .none .none none .none .none 0)) #[]
def AaY:O:=sO 416
def Ab0:O:=bO #[.builtin "object.__init_subclass__",.ref 416]
def tr0 (P : Params) : BT := Nd (boot_o_0 P) (Nd (boot_o_1 P) (Nd (boot_o_3 P) (Lf (boot_o_7 P)) (Lf tE)) (Nd (boot_o_5 P) (Lf (boot_o_9 P)) (Lf Zg))) (Nd (boot_o_2 P) (Nd (boot_o_4 P) (Lf (boot_o_8 P)) (Lf Bh)) (Nd (boot_o_6 P) (Lf (boot_o_10 P)) (Lf Zw)))
def St0 (w : World) (os : OsState) : SharedT := ⟨tr0 w.params, 15, Life.mk [] [] [] 0 [] [] Bool.false #[] [] 0 Bool.false Bool.false Bool.false 0 [2000, 10, 10] Bool.false 0 Bool.true [] [] 0 Bool.false, Array.mk [], Drawn.mk 0 0 0 0, 187, os⟩
def ps0 : Pos := ⟨0, 0, 0, 0⟩
def tr9 (P : Params) : BT := Nd (boot_o_0 P) (Nd (boot_o_1 P) (Nd (AjE P) (Nd (boot_o_7 P) (Nd tE (Nd Ae9 (Nd o63 (Lf Zk) .nil) (Lf tE)) (Nd o47 (Lf Ac1) (Lf o111))) (Nd FJ (Nd Acw (Nd Ac4 (Lf AdN) .nil) (Lf ZM)) (Nd FJ (Lf o87) (Lf (AeE P))))) (Nd tE (Nd Adc (Nd o35 (Nd o67 (Lf Bh) .nil) (Lf tE)) (Nd o51 (Lf tE) (Lf Bh))) (Nd Acx (Nd Bh (Nd (Ade P) (Lf AdK) .nil) (Lf (AeH P))) (Nd Ac8 (Lf Adg) (Lf Aeg))))) (Nd (boot_o_5 P) (Nd (boot_o_9 P) (Nd o17 (Nd Acs (Nd AcO (Lf Aai) .nil) (Lf Ac5)) (Nd o49 (Lf Bh) (Lf (Y7 P)))) (Nd tE (Nd Ac9 (Nd o73 (Lf AeF) .nil) (Lf AdV)) (Nd tE (Lf o89) (Lf Yg)))) (Nd Zg (Nd o21 (Nd (AcZ P) (Nd (o69 P) (Lf tE) .nil) (Lf AeY)) (Nd AcY (Lf o85) (Lf Zb))) (Nd tE (Nd tE (Nd AcE (Lf Yu) .nil) (Lf Zd)) (Nd tE (Lf FJ) (Lf (X8 P))))))) (Nd (boot_o_2 P) (Nd (boot_o_4 P) (Nd (boot_o_8 P) (Nd Bh (Nd o32 (Nd tE (Lf Yk) .nil) (Lf AcV)) (Nd o48 (Lf tE) (Lf FJ))) (Nd (AcP P) (Nd AcN (Nd AcU (Lf AeA) .nil) (Lf AdS)) (Nd (Adf P) (Lf (o88 P)) (Lf AdW)))) (Nd Ag6 (Nd o20 (Nd FJ (Nd o68 (Lf Aek) .nil) (Lf Bh)) (Nd AcT (Lf Acn) (Lf Yd))) (Nd Aco (Nd o44 (Nd tE (Lf ZR) .nil) (Lf Aef)) (Nd AcF (Lf o92) (Lf FJ))))) (Nd (boot_o_6 P) (Nd (boot_o_10 P) (Nd tE (Nd Acr (Nd o66 (Lf tE) .nil) (Lf Ac3)) (Nd (o50 P) (Lf o82) (Lf tE))) (Nd Bh (Nd tE (Nd FJ (Lf (AdH P)) .nil) (Lf AdL)) (Nd Acv (Lf Acm) (Lf ZC)))) (Nd Zw (Nd o22 (Nd tE (Nd o70 (Lf Yb) .nil) (Lf tE)) (Nd o54 (Lf o86) (Lf tE))) (Nd (o30 P) (Nd Acy (Lf Adi) (Lf Aah)) (Nd Bh (Lf (AcQ P)) (Lf tE))))))
def St9 (w : World) (os : OsState) : SharedT := ⟨tr9 w.params, 142, Life.mk [] [] [] 0 [] [] Bool.false #[] [] 0 Bool.false Bool.false Bool.false 0 [2000, 10, 10] Bool.false 0 Bool.true [] [] 0 Bool.false, Array.mk [], Drawn.mk 0 0 0 0, 357, os⟩
def ps9 : Pos := ⟨26, 0, 29, 24⟩
def AjZ (P : Params) : BT := Nd (boot_o_0 P) (Nd (boot_o_1 P) (Nd (Af2 P) (Nd (boot_o_7 P) (Nd tE (Nd o31 (Nd o63 (Nd Zk (Lf Afp) (Lf Aby)) (Nd Ahy (Lf tE) .nil)) (Nd tE (Nd AaE (Lf Af4) (Lf (AfK P))) (Nd Ahz (Lf tE) .nil))) (Nd o47 (Nd Ac1 (Nd FJ (Lf Aap) (Lf Aau)) (Nd tE (Lf Ah9) .nil)) (Nd o111 (Nd tE (Lf Bh) .nil) (Nd tE (Lf Agj) .nil)))) (Nd FJ (Nd Acw (Nd Ac4 (Nd AdN (Lf tE) (Lf AfR)) (Nd tE (Lf Acg) .nil)) (Nd ZM (Nd Aha (Lf tE) .nil) (Nd Afv (Lf FJ) .nil))) (Nd FJ (Nd o87 (Nd AgY (Lf Aiv) (Lf tE)) (Nd Abv (Lf Ag2) .nil)) (Nd (AeE P) (Nd Bh (Lf AiE) .nil) (Nd Bh (Lf tE) .nil))))) (Nd tE (Nd Adc (Nd o35 (Nd o67 (Nd Bh (Lf Afk) (Lf Bh)) (Nd Af6 (Lf tE) .nil)) (Nd tE (Nd Ahn (Lf tE) .nil) (Nd AfX (Lf AaO) .nil))) (Nd o51 (Nd tE (Nd Aa7 (Lf Bh) (Lf tE)) (Nd tE (Lf Aii) .nil)) (Nd Bh (Nd AaD (Lf AhS) .nil) (Nd AbB (Lf Afm) .nil)))) (Nd Acx (Nd Bh (Nd (Ade P) (Nd AdK (Lf tE) (Lf AaG)) (Nd Aiq (Lf Bh) .nil)) (Nd (AeH P) (Nd tE (Lf Acl) .nil) (Nd tE (Lf AbY) .nil))) (Nd Ac8 (Nd Adg (Nd AfG (Lf Afs) (Lf AaV)) (Nd Bh (Lf tE) .nil)) (Nd Aeg (Nd AgC (Lf Agk) .nil) (Nd Agw (Lf tE) .nil)))))) (Nd (boot_o_5 P) (Nd (boot_o_9 P) (Nd o17 (Nd Acs (Nd AcO (Nd Aai (Lf Abp) (Lf AgM)) (Nd AbK (Lf AhJ) .nil)) (Nd Ac5 (Nd tE (Lf Bh) (Lf AaY)) (Nd tE (Lf Agx) .nil))) (Nd o49 (Nd Bh (Nd tE (Lf AfJ) (Lf FJ)) (Nd AgQ (Lf tE) .nil)) (Nd (Y7 P) (Nd AhV (Lf tE) .nil) (Nd AhP (Lf AaI) .nil)))) (Nd tE (Nd Ac9 (Nd o73 (Nd AeF (Lf AgO) (Lf Afg)) (Nd Agr (Lf Afe) .nil)) (Nd AdV (Nd Bh (Lf Aft) .nil) (Nd Bh (Lf tE) .nil))) (Nd tE (Nd o89 (Nd Abf (Lf tE) (Lf AhY)) (Nd Af7 (Lf Bh) .nil)) (Nd Yg (Nd tE (Lf AaK) .nil) (Nd tE (Lf o377) .nil))))) (Nd Zg (Nd o21 (Nd (AcZ P) (Nd (o69 P) (Nd tE (Lf Bh) (Lf tE)) (Nd Bh (Lf Agt) .nil)) (Nd AeY (Nd AaQ (Lf Ail) .nil) (Nd AbT (Lf AgI) .nil))) (Nd AcY (Nd o85 (Nd tE (Lf tE) (Lf AaR)) (Nd Agn (Lf AaT) .nil)) (Nd Zb (Nd AgL (Lf tE) .nil) (Nd AfH (Lf Bh) .nil)))) (Nd tE (Nd tE (Nd AcE (Nd Yu (Lf AfZ) (Lf Ah1)) (Nd Bh (Lf tE) .nil)) (Nd Zd (Nd Afu (Lf Aiu) .nil) (Nd AgF (Lf tE) .nil))) (Nd tE (Nd FJ (Nd (AfD P) (Lf Aa2) (Lf AhL)) (Nd tE (Lf Ahu) .nil)) (Nd (X8 P) (Nd tE (Lf Bh) .nil) (Nd tE (Lf AfU) .nil))))))) (Nd (boot_o_2 P) (Nd (boot_o_4 P) (Nd (boot_o_8 P) (Nd Bh (Nd o32 (Nd tE (Nd Yk (Lf tE) (Lf Afh)) (Nd tE (Lf Aci) .nil)) (Nd AcV (Nd AaS (Lf tE) (Lf AfE)) (Nd Ah5 (Lf Bh) .nil))) (Nd o48 (Nd tE (Nd (AbW P) (Lf Afj) (Lf o400)) (Nd AaA (Lf Af1) .nil)) (Nd FJ (Nd Bh (Lf AhO) .nil) (Nd Bh (Lf tE) .nil)))) (Nd (AcP P) (Nd AcN (Nd AcU (Nd AeA (Lf Aa3) (Lf Ahk)) (Nd AbJ (Lf AhI) .nil)) (Nd AdS (Nd tE (Lf Bh) .nil) (Nd tE (Lf (AbE P)) .nil))) (Nd (Adf P) (Nd (o88 P) (Nd tE (Lf AhA) (Lf Bh)) (Nd Agq (Lf tE) .nil)) (Nd AdW (Nd AgR (Lf tE) .nil) (Nd AfM (Lf Ach) .nil))))) (Nd AeD (Nd o20 (Nd FJ (Nd o68 (Nd Aek (Lf tE) (Lf Ag1)) (Nd tE (Lf Bh) .nil)) (Nd Bh (Nd tE (Lf Acj) .nil) (Nd tE (Lf Air) .nil))) (Nd AcT (Nd Acn (Nd AbM (Lf AgE) (Lf Abw)) (Nd Bh (Lf tE) .nil)) (Nd Yd (Nd Ahi (Lf Ahr) .nil) (Nd Aga (Lf tE) .nil)))) (Nd Aco (Nd o44 (Nd tE (Nd ZR (Lf Bh) (Lf AgT)) (Nd tE (Lf Aia) .nil)) (Nd Aef (Nd AaJ (Lf o300) .nil) (Nd Ab1 (Lf Aaq) .nil))) (Nd AcF (Nd o92 (Nd Aig (Lf tE) (Lf AiG)) (Nd Ahl (Lf AbG) .nil)) (Nd FJ (Nd Ags (Lf tE) .nil) (Nd Aix (Lf Bh) .nil)))))) (Nd (boot_o_6 P) (Nd (boot_o_10 P) (Nd tE (Nd Acr (Nd o66 (Nd tE (Lf Afd) (Lf tE)) (Nd Aio (Lf Agb) .nil)) (Nd Ac3 (Nd Bh (Lf Ahh) (Lf Ab0)) (Nd Bh (Lf tE) .nil))) (Nd (o50 P) (Nd o82 (Nd Acd (Lf tE) (Lf (Aba P))) (Nd AfY (Lf Bh) .nil)) (Nd tE (Nd tE (Lf Aam) .nil) (Nd tE (Lf Ae5) .nil)))) (Nd Bh (Nd tE (Nd FJ (Nd (AdH P) (Lf Ag0) (Lf (Aie P))) (Nd AiH (Lf tE) .nil)) (Nd AdL (Nd AhD (Lf tE) .nil) (Nd Aiw (Lf Aaw) .nil))) (Nd Acv (Nd Acm (Nd Ag5 (Lf Bh) (Lf tE)) (Nd tE (Lf Ahx) .nil)) (Nd ZC (Nd AbR (Lf AhF) .nil) (Nd AbQ (Lf Aij) .nil))))) (Nd Zw (Nd o22 (Nd tE (Nd o70 (Nd Yb (Lf Agh) (Lf Abe)) (Nd Ag3 (Lf tE) .nil)) (Nd tE (Nd AiC (Lf AgS) .nil) (Nd Ahj (Lf tE) .nil))) (Nd o54 (Nd o86 (Nd Bh (Lf Aar) (Lf Ab2)) (Nd tE (Lf Af3) .nil)) (Nd tE (Nd tE (Lf Bh) .nil) (Nd tE (Lf Ais) .nil)))) (Nd (o30 P) (Nd Acy (Nd Adi (Nd Ag4 (Lf tE) (Lf Abm)) (Nd Af5 (Lf Aas) .nil)) (Nd Aah (Nd Afa (Lf tE) .nil) (Nd AhE (Lf Bh) .nil))) (Nd Bh (Nd (AcQ P) (Nd Afw (Lf AhZ) (Lf tE)) (Nd AaB (Lf Agu) .nil)) (Nd tE (Nd Bh (Lf Ah2) .nil) (Nd Bh (Lf tE) .nil)))))))
def Agc (w : World) (os : OsState) : SharedT := ⟨AjZ w.params, 419, Life.mk [] [] [] 0 [] [] Bool.false #[] [] 0 Bool.false Bool.false Bool.false 0 [2000, 10, 10] Bool.false 0 Bool.true [] [] 0 Bool.false, Array.mk [], Drawn.mk 0 0 0 0, 720, os⟩
def Age : Pos := ⟨190, 0, 193, 49⟩
end
noncomputable def vw : Program := { PySem.Challenge.pw_formcycle_k44_unit_and_opposite with main := { PySem.Challenge.pw_formcycle_k44_unit_and_opposite.main with body := [tp 0, tp 2, tp 3, tp 4, tp 5, tp 6, tp 7, tp 8, tp 9, tp 11, tp 12, tp 13, tp 14, tp 15, tp 16, tp 18, tp 19, tp 20, tp 21, tp 22, tp 23, tp 25, tp 26, tp 27, tp 28, tp 29, tp 30, tp 32, tp 33, tp 34, tp 35, tp 37, tp 38, tp 39, tp 40, tp 41, tp 42, tp 43, tp 44, tp 46, tp 47, tp 48, tp 49, tp 50, tp 52, tp 53, tp 54, tp 55, tp 56, tp 57, tp 58, tp 59, tp 61, tp 62, tp 64, tp 65, tp 66, tp 67, tp 68, tp 69, tp 70, tp 71, tp 72, tp 73, tp 74, tp 75, tp 76, tp 77, tp 78, tp 79, tp 80] } }
def asK : List Nat := [2, 3, 15, 17, 18, 20, 21, 22, 29, 30, 31, 32, 35, 42, 44, 45, 47, 48, 49, 50, 51, 54, 61, 63, 64, 66, 67, 68, 69, 70, 73, 80, 82, 83, 85, 86, 87, 88, 89, 92, 99, 101, 102, 104, 105, 106, 107, 108, 111, 118, 119, 120, 123, 130, 132, 133, 135, 136, 137, 138, 139, 142, 149, 151, 152, 154, 155, 156, 157, 158, 161, 163, 164, 166, 167, 168, 170, 171, 173, 174, 175, 177, 178, 180, 181, 182, 184, 185, 187, 188, 189, 191, 192, 194, 195, 196, 198, 199, 201, 202, 203, 204, 206, 207, 209, 210, 211, 213, 214, 216, 217, 218, 220, 221, 223, 224, 225, 227, 228, 230, 231, 232, 234, 235, 237, 238, 239, 241, 242, 244, 245, 246, 248, 249, 251, 252, 253, 255, 256, 258, 259, 260, 262, 263, 265, 266, 267, 269, 270, 272, 273, 274, 276, 277, 279, 280, 281, 283, 284, 286, 287, 288, 290, 291, 293, 294, 295, 297, 298, 300, 301, 302, 304, 305, 307, 308, 309, 311, 312, 314, 315, 316, 318, 319, 321, 322, 323, 325, 326, 328, 329, 330, 332, 333, 335, 336, 337, 339, 340, 342, 343, 344, 346, 347, 349, 350, 351, 353, 354, 356, 357, 365, 367, 368, 370, 371, 372, 374, 375, 377, 378, 379, 381, 382, 384, 385, 386, 388, 389, 391, 392, 393, 394, 395, 396, 397, 400, 407, 409, 410, 412, 413, 414, 415, 416, 419, 426, 428, 429, 431, 432, 433, 434, 435, 438, 440, 441, 443, 444, 445, 447, 448, 450, 451, 452, 454, 455, 457, 458, 459, 461, 462, 464, 465, 466, 468, 469, 471, 472, 473, 475, 476, 478, 479, 480, 482, 483, 485, 486, 487, 489, 490, 492, 493, 494, 496, 497, 499, 500, 501, 504, 505, 506, 508, 509, 511, 512, 513, 515, 516, 518, 519, 520, 522, 523, 525, 526, 527, 529, 530, 532, 533, 534, 537, 538, 539, 541, 542, 544, 545, 546, 548, 549, 551, 552, 553, 555, 556, 558, 559, 560, 562, 563, 565, 566, 567, 569, 570, 572, 573, 574, 576, 577, 579, 580, 581, 583, 584, 586, 587, 588, 590, 591, 593, 594, 595, 597, 598, 600, 601, 602, 604, 605, 607, 608, 609, 611, 612, 614, 615, 616, 618, 619, 621, 622, 623, 626, 627, 628, 630, 631, 633, 634]
noncomputable def bE : List Stmt := behindTheImports PySem.Challenge.rw_formcycle_k44_unit_and_opposite.row.prog
noncomputable def ev : Env := { scope := PySem.Challenge.rw_formcycle_k44_unit_and_opposite.row.prog.main.scope, locals := mainNs, globals := mainNs, cells := [], code := .ref 13, frame := some 14 }
noncomputable def cc : Code := .body bE ev
def qq : Pos := .mk 0 0 0 0
def pp : Pos := ⟨0, 0, 0, 0⟩
theorem AiD : ∀ w os, goT treeTable PySem.Challenge.rw_formcycle_k44_unit_and_opposite.row.prog w 11 (some (.ref 6)) 12 (QV w os) (topStub PySem.Challenge.rw_formcycle_k44_unit_and_opposite.row.prog) = some (St0 w os, ⟨denote treeTable cc, cc, pp, [topFrame qq]⟩) := fun w os => by kernel_rfl
theorem AgJ : ∀ w os, segRunT treeTable PySem.Challenge.rw_formcycle_k44_unit_and_opposite.row.prog w 11 (some (.ref 6)) 1 1 (St0 w os) (blockOf bE ev cc pp [topFrame qq]) = some (.next, St0 w os, cc, ps0) := fun w os => by kernel_rfl
noncomputable def l9 : List Stmt := List.take 9 bE
noncomputable def r9 : List Stmt := List.drop 9 bE
theorem g_9 : ∀ w os, segRunT treeTable PySem.Challenge.rw_formcycle_k44_unit_and_opposite.row.prog w 11 (some (.ref 6)) 1 1665 (St0 w os) (piecesOf l9 ev cc ps0 [topFrame qq]) = some (.next, St9 w os, cc, ps9) := fun w os => by kernel_rfl
noncomputable def l48 : List Stmt := List.take 39 r9
noncomputable def r48 : List Stmt := List.drop 39 r9
theorem AiO : ∀ w os, segRunT treeTable PySem.Challenge.rw_formcycle_k44_unit_and_opposite.row.prog w 11 (some (.ref 6)) 1 1743 (St9 w os) (piecesOf l48 ev cc ps9 [topFrame qq]) = some (.next, Agc w os, cc, Age) := fun w os => by kernel_rfl
noncomputable def TL (w : World) (os : OsState) : Option SharedT := T9 treeTable PySem.Challenge.rw_formcycle_k44_unit_and_opposite.row.prog w 11 (some (.ref 6)) 1229 (Agc w os) (restOf r48 ev cc Age [topFrame qq])
theorem hr : ∀ w os r, TL w os = some r → topRun treeTable PySem.Challenge.rw_formcycle_k44_unit_and_opposite.row.prog w (Bw w os).heap.objs.size ((Bw w os).heap.nsMap mainGlobals "__annotations__") 4650 (Bw w os) (topStub PySem.Challenge.rw_formcycle_k44_unit_and_opposite.row.prog) = some r.abs := fun w os r h => by
  rw [show (Bw w os).heap.objs.size = 11 by kernel_rfl, show (Bw w os).heap.nsMap mainGlobals "__annotations__" = some (.ref 6) by kernel_rfl]
  have k := Rw _ h
  have k := piece_app (segRun_of (AiO w os)) k
  rw [show l48 ++ r48 = r9 from List.take_append_drop _ _] at k
  have k := piece_app (segRun_of (g_9 w os)) k
  rw [show l9 ++ r9 = bE from List.take_append_drop _ _] at k
  have k := piece_block (segRun_of (AgJ w os)) k
  have k := go_top (Yc _ (AiD w os)) k
  rw [boot_abs] at k
  exact k
noncomputable def sA0 (s : Shared) := PyProof.Rows.seen ((PyProof.Rows.recsOf vw).map (·.name)) (PyProof.Rows.ownsOf vw) [] { s with gens := #[] }
noncomputable def sA1 (s : Shared) := s.heap.bltView
noncomputable def sA2 (s : Shared) := s.heap.keysOk (looseW vw []) ((PyProof.Rows.recsOf vw).map (·.name)) ((PyProof.Rows.litsOf vw).map (·.1)) ((PyProof.Rows.clssOf vw (looseW vw [])).map (·.name)) && s.heap.accountedOkI (importedModules PySem.Challenge.rw_formcycle_k44_unit_and_opposite.row.prog.main.body) && s.heap.isNs mainGlobals && s.heap.isNs builtinsNs && PyProof.Rows.tablesOk vw s.heap && (xlAt vw [] s && recOk (RowW.records PySem.Challenge.rw_formcycle_k44_unit_and_opposite.row.toRowW) s) && (if true then s.gens.size == 0 else !leftWithCleanup s.gens)
noncomputable def sA3 (s : Shared) := PyProof.Rows.tabsOk vw s
noncomputable def sA4 (s : Shared) := pinSeenD vw (PyProof.Rows.drecsOf vw) s
noncomputable def sA5 (s : Shared) := PyProof.Rows.plainSeenE vw (looseW vw []) s
noncomputable def sA6 (s : Shared) := PyProof.Rows.plainSeenD vw [] s
noncomputable def sA7 (s : Shared) := wideSeen vw s
noncomputable def sA8 (s : Shared) := clsSeenW vw [] s
theorem hA : ∀ (w : World) (os : OsState), (TL w os).map (fun r => stays PySem.Challenge.rw_formcycle_k44_unit_and_opposite.row.prog (Bw w os) r.abs) = some true := fun w os => by kernel_rfl
theorem hB0 : ∀ (w : World) (os : OsState), (TL w os).map (fun r => sA0 r.abs) = some (PyProof.Rows.expectedOf vw) := fun w os => by kernel_rfl
theorem hB1 : ∀ (w : World) (os : OsState), (TL w os).map (fun r => (sA1 r.abs, sA3 r.abs, sA4 r.abs, sA6 r.abs, sA8 r.abs)) = some (bltViewBooted, true, pinGoodD (PyProof.Rows.drecsOf vw), PyProof.Rows.plainGoodD vw [], clsGoodW vw []) := fun w os => by kernel_rfl
theorem hB2 : ∀ (w : World) (os : OsState), (TL w os).map (fun r => sA2 r.abs) = some true := fun w os => by kernel_rfl
theorem hB5 : ∀ (w : World) (os : OsState), (TL w os).map (fun r => sA5 r.abs) = some (PyProof.Rows.plainGoodE vw (looseW vw [])) := fun w os => by kernel_rfl
theorem hB7 : ∀ (w : World) (os : OsState), (TL w os).map (fun r => sA7 r.abs) = some (wideGood vw) := fun w os => by kernel_rfl
theorem nine {α0 α1 α2 α3 α4 α5 α6 α7 α8 : Type} {o : Option SharedT} {A0 : Shared → α0} {A1 : Shared → α1} {A2 : Shared → α2} {A3 : Shared → α3} {A4 : Shared → α4} {A5 : Shared → α5} {A6 : Shared → α6} {A7 : Shared → α7} {A8 : Shared → α8} {a0 : α0} {a1 : α1} {a2 : α2} {a3 : α3} {a4 : α4} {a5 : α5} {a6 : α6} {a7 : α7} {a8 : α8}
    (h0 : o.map (fun r => A0 r.abs) = some a0) (h1 : o.map (fun r => (A1 r.abs, A3 r.abs, A4 r.abs, A6 r.abs, A8 r.abs)) = some (a1, a3, a4, a6, a8)) (h2 : o.map (fun r => A2 r.abs) = some a2) (h5 : o.map (fun r => A5 r.abs) = some a5) (h7 : o.map (fun r => A7 r.abs) = some a7) :
    o.map (fun r => (A0 r.abs, A1 r.abs, A2 r.abs, A3 r.abs, A4 r.abs, A5 r.abs, A6 r.abs, A7 r.abs, A8 r.abs)) = some (a0, a1, a2, a3, a4, a5, a6, a7, a8) := by
  cases o with
  | none => cases h0
  | some r =>
    simp only [Option.map_some, Option.some.injEq, Prod.mk.injEq] at h0 h1 h2 h5 h7 ⊢
    exact ⟨h0, h1.1, h2, h1.2.1, h1.2.2.1, h5, h1.2.2.2.1, h7, h1.2.2.2.2⟩
theorem hB : ∀ (w : World) (os : OsState), (TL w os).map (fun r => openSeen vw [] (importedModules PySem.Challenge.rw_formcycle_k44_unit_and_opposite.row.prog.main.body) (fun s => xlAt vw [] s && recOk (RowW.records PySem.Challenge.rw_formcycle_k44_unit_and_opposite.row.toRowW) s) true r.abs) = some (openGood vw []) := fun w os => nine (A0 := sA0) (A1 := sA1) (A2 := sA2) (A3 := sA3) (A4 := sA4) (A5 := sA5) (A6 := sA6) (A7 := sA7) (A8 := sA8) (hB0 w os) (hB1 w os) (hB2 w os) (hB5 w os) (hB7 w os)
theorem hC : ∀ (w : World) (os : OsState), (TL w os).map (fun r => Hook.obs (kHook My.KK My.asK (fun _ => by kernel_rfl)) r.abs) = some (Hook.val (kHook My.KK My.asK (fun _ => by kernel_rfl)) w) := fun w os => by kernel_rfl
theorem hl : LeftO PySem.Challenge.rw_formcycle_k44_unit_and_opposite.row.prog vw [] (fun s => xlAt vw [] s && recOk (RowW.records PySem.Challenge.rw_formcycle_k44_unit_and_opposite.row.toRowW) s) (Hook.obs (kHook My.KK My.asK (fun _ => by kernel_rfl))) (Hook.val (kHook My.KK My.asK (fun _ => by kernel_rfl))) 4650 := fun w => Yj (TL := TL w) (by kernel_rfl) (by decide) (fun _ => by kernel_rfl) (hr w) (hA w) (hB w) (hC w) (fun os => by kernel_rfl)
end My
namespace L2
open PySem PySem.Spec PyProof.Rows
abbrev Key := Sum Int Str
def AcX : Key → Value → Bool
  | .inl k, v => Value.isInt k v
  | .inr x, v => Value.isStrOf x v
def Aja (w : World) : Key → Int
  | .inl k => hashInt k
  | .inr x => hashStr w x
theorem Cq : ∀ {k : Key} {v : Value}, AcX k v = true → (∃ i t, k = Sum.inl i ∧ v = Value.int i t) ∨ (∃ x t, k = Sum.inr x ∧ v = Value.str x t)
  | .inl i, v, h => by
    obtain ⟨t, e⟩ := Value.isInt_shape (k := i) (v := v) h
    exact .inl ⟨i, t, rfl, e⟩
  | .inr x, v, h => by
    obtain ⟨t, e⟩ := Value.isStrOf_shape (x := x) (v := v) h
    exact .inr ⟨x, t, rfl, e⟩
theorem Adk (a b : Int) : decide ((Sum.inl a : Key) = Sum.inl b) = (a == b) := by
  by_cases e : a = b
  · subst e; simp
  · have h : ¬ (Sum.inl a : Key) = Sum.inl b := fun q => e (Sum.inl.inj q)
    rw [decide_eq_false h]
    exact (beq_eq_false_iff_ne.mpr e).symm
theorem AeZ (a b : Str) : decide ((Sum.inr a : Key) = Sum.inr b) = decide (a = b) := by
  by_cases e : a = b
  · subst e; simp
  · have h : ¬ (Sum.inr a : Key) = Sum.inr b := fun q => e (Sum.inr.inj q)
    rw [decide_eq_false h, decide_eq_false e]
theorem Ae1 (a : Int) (b : Str) : decide ((Sum.inl a : Key) = Sum.inr b) = false := decide_eq_false (fun q => nomatch q)
theorem AdD (a : Str) (b : Int) : decide ((Sum.inr a : Key) = Sum.inl b) = false := decide_eq_false (fun q => nomatch q)
def Ws (prog : Program) (w : World) : PySem.KeyKind prog w Key where
  is := AcX
  hash := Aja w
  inj := fun v a b ha hb => by
    rcases Cq ha with ⟨i, t, rfl, rfl⟩ | ⟨x, t, rfl, rfl⟩
    · rcases Cq hb with ⟨j, u, rfl, e⟩ | ⟨y, u, rfl, e⟩
      · injection e with e1 _; rw [e1]
      · exact nomatch e
    · rcases Cq hb with ⟨j, u, rfl, e⟩ | ⟨y, u, rfl, e⟩
      · exact nomatch e
      · injection e with e1 _; rw [e1]
  byValue := fun k v h => by
    rcases Cq h with ⟨i, t, rfl, rfl⟩ | ⟨x, t, rfl, rfl⟩ <;> rfl
  pyHash := fun hv h => by
    rcases Cq hv with ⟨i, t, rfl, rfl⟩ | ⟨x, t, rfl, rfl⟩
    · exact wpAny_pyHash_int h
    · exact wpAny_pyHash_str h
  eqBool := fun hu hv h => by
    rcases Cq hu with ⟨i, t, rfl, rfl⟩ | ⟨x, t, rfl, rfl⟩
    · rcases Cq hv with ⟨j, u, rfl, rfl⟩ | ⟨y, u, rfl, rfl⟩
      · rw [Adk] at h; exact wpAny_eqBool_int h
      · rw [Ae1] at h; exact SeqAt.EqAt.int_str i t y u _ _ _ _ h
    · rcases Cq hv with ⟨j, u, rfl, rfl⟩ | ⟨y, u, rfl, rfl⟩
      · rw [AdD] at h; exact SeqAt.EqAt.str_int x t j u _ _ _ _ h
      · rw [AeZ] at h; exact wpAny_eqBool_str h
  «strs» := fun k x t v h => by
    rcases Cq h with ⟨i, u, rfl, e⟩ | ⟨y, u, rfl, e⟩
    · exact nomatch e
    · injection e with e1 _
      subst e1
      cases v <;> rfl
end L2
namespace L2
open PySem PySem.Spec PyProof.Rows
inductive V where
  | non | bl (b : Bool) | int (i : Int) | str (x : Str) | byt (b : Array UInt8) | flt (b : UInt64) | ref (a : Addr) | ty (n : String)
  deriving DecidableEq
def RelV : V → Value → Prop
  | .non, u => u = Value.none
  | .bl b, u => u = Value.bool b
  | .int i, u => ∃ t, u = Value.int i t
  | .str x, u => ∃ t, u = Value.str x t
  | .byt b, u => ∃ t, u = Value.bytes b t
  | .flt b, u => ∃ t, u = Value.float b t
  | .ref a, u => u = Value.ref a
  | .ty n, u => u = Value.type n
abbrev Vals : List V → List Value → Prop := Paired RelV
theorem Vals.length {xs : List V} {us : List Value} (r : Vals xs us) : xs.length = us.length := Paired.length r
theorem Vals.get : ∀ {xs : List V} {us : List Value} {i : Nat} {x : V}, Vals xs us → xs[i]? = some x → ∃ u, us[i]? = some u ∧ RelV x u
  | _, _, _, _, .nil, e => by simp at e
  | _, _, 0, _, .cons r _, e => by simp at e; subst e; exact ⟨_, rfl, r⟩
  | _, _, i + 1, x, .cons _ t, e => by
    obtain ⟨u, h1, h2⟩ := Vals.get (i := i) (x := x) t (by simpa using e)
    exact ⟨u, by simpa using h1, h2⟩
theorem Vals.append : ∀ {xs ys : List V} {us ws : List Value}, Vals xs us → Vals ys ws → Vals (xs ++ ys) (us ++ ws)
  | _, _, _, _, .nil, s => s
  | _, _, _, _, .cons r t, s => .cons r (Vals.append t s)
theorem Vals.take : ∀ {xs : List V} {us : List Value} (n : Nat), Vals xs us → Vals (xs.take n) (us.take n)
  | _, _, 0, _ => .nil
  | _, _, _ + 1, .nil => .nil
  | _, _, n + 1, .cons r t => .cons r (Vals.take n t)
theorem Vals.drop : ∀ {xs : List V} {us : List Value} (n : Nat), Vals xs us → Vals (xs.drop n) (us.drop n)
  | _, _, 0, r => r
  | _, _, _ + 1, .nil => .nil
  | _, _, n + 1, .cons _ t => Vals.drop n t
def Pb : Option V → Option Value → Prop
  | some v, some u => RelV v u
  | none, none => True
  | _, _ => False
def KV {κ : Type} : List (κ × V) → List (κ × Value) → Prop := Paired fun (p : κ × V) (q : κ × Value) => p.1 = q.1 ∧ RelV p.2 q.2
def kV : Key → V
  | .inl i => .int i
  | .inr x => .str x
inductive HO where
    | lst (xs : List V)
    | tup (xs : List V)
    | dK (kvs : List (Key × V)) | dT (kvs : List (List Key × V))
    | set (S : Int → Bool) (n : Nat)
    | ins (C dx : Addr) (fs : List (Str × V))
    | own (x : Addr)
    | xd (fs : List (Str × V))
    | met (f x : Addr)
    | rng (lo hi : Int)
    | frz (o : Obj) (u : HO)
    | tbl (ps : Array Value)
    | ext (φ : Heap → Prop)
abbrev Hp := Addr → Option HO
def upd (H : Hp) (a : Addr) (o : HO) : Hp := fun b => if b = a then some o else H b
theorem BJ {H : Hp} {a : Addr} {o : HO} : upd H a o a = some o := by unfold upd; rw [if_pos rfl]
theorem Bc {H : Hp} {a b : Addr} {o : HO} (h : b ≠ a) : upd H a o b = H b := by unfold upd; rw [if_neg h]
theorem Bu {H : Hp} {a b : Addr} {o : HO} (h : H a = some o) (h' : H b = none) : a ≠ b := by
  intro e; subst e; rw [h] at h'; cases h'
section
variable (P : Program) (w : World)
def Gu (H : Hp) (h : Heap) (a : Addr) : HO → Prop
  | .lst xs => xs.length ≤ sizeLine ∧ ∃ (its : List Value) (n : Nat), Vals xs its ∧ h.get? a = some { cls := .type "list", data := .seq its.toArray n }
  | .tup xs => xs.length ≤ sizeLine ∧ ∃ its : List Value, Vals xs its ∧ IsTup h a its.toArray
  | .dK kvs => kvs.length ≤ sizeLine ∧ (a == sysModules) = false ∧ ∃ vs, KV kvs vs ∧ h.DictOf (Ws P w) a vs
  | .dT kvs => kvs.length ≤ sizeLine ∧ (a == sysModules) = false ∧ ∃ xs : List (List Key × Addr × Value),
      Paired (fun (p : List Key × V) (q : List Key × Addr × Value) => p.1 = q.1 ∧ H q.2.1 = some (.tup (p.1.map kV)) ∧ RelV p.2 q.2.2) kvs xs ∧
      ∃ o es ep, h.get? a = some o ∧ o.ExactDict ∧ o.data = .dict es ep ∧ es.toList = xs.map (entryOfKey (tupleKind (Ws P w))) ∧ (xs.map (·.1)).Nodup
  | .set S n => h.SetOf (intKind P w) a S n
  | .ins C dx fs => H dx = some (.own a) ∧ fs.length ≤ 1000 ∧ dx ≠ a ∧ h.get? a = some (PySem.W.instObj C dx) ∧
      ∃ mA, h.Ns1 dx mA ∧ (∀ f, Pb (fs.lookup f) (mA f)) ∧ PySem.Within mA (fs.map (·.1))
  | .own _ => ∃ o, h.get? a = some o
  | .xd fs => ∃ mA, h.Ns1 a mA ∧ ∀ f, Pb (fs.lookup f) (mA f)
  | .rng lo hi => ∃ t u v, h.get? a = some { cls := .type "range", data := .fields #[.int lo t, .int hi u, .int 1 v] }
  | .frz o u => h.get? a = some o ∧ Gu H h a u
  | .tbl ps => h.get? a = some { cls := .none, data := .fields ps }
  | .met f x => h.get? a = some (PySem.W.methodObj (.ref f) (.ref x))
  | .ext φ => φ h ∧ (∃ o, h.get? a = some o) ∧ ∀ h1 h2 : Heap, φ h1 → (∀ o, h1.get? a = some o → h2.get? a = some o) → φ h2
def HOk (H : Hp) (h : Heap) : Prop := ∀ a o, H a = some o → Gu P w H h a o
end
section
variable {P : Program} {w : World} {H H' : Hp} {h h' : Heap} {a : Addr} {o : HO}
theorem Gu.lt (x : Gu P w H h a o) : a < h.objs.size := by
  cases o with
  | lst xs => obtain ⟨_, _, _, _, e⟩ := x; exact Heap.lt_size e
  | tup xs => obtain ⟨_, _, _, p⟩ := x; exact p.lt
  | dK kvs => obtain ⟨_, _, _, _, o, _, _, e, _⟩ := x; exact Heap.lt_size e
  | dT kvs => obtain ⟨_, _, _, _, o, _, _, e, _⟩ := x; exact Heap.lt_size e
  | set S n => obtain ⟨o, _, _, _, e, _⟩ := x; exact Heap.lt_size e
  | ins C dx fs => obtain ⟨_, _, _, e, _⟩ := x; exact Heap.lt_size e
  | own y => obtain ⟨_, e⟩ := x; exact Heap.lt_size e
  | xd fs => obtain ⟨_, ⟨_, _, _, e, _⟩, _⟩ := x; exact Heap.lt_size e
  | rng lo hi => obtain ⟨_, _, _, e⟩ := x; exact Heap.lt_size e
  | frz ob u => obtain ⟨e, _⟩ := x; exact Heap.lt_size e
  | tbl ps => exact Heap.lt_size (show h.get? a = some _ from x)
  | met f y => exact Heap.lt_size (show h.get? a = some _ from x)
  | ext φ => obtain ⟨_, ⟨_, e⟩, _⟩ := x; exact Heap.lt_size e
theorem Paired.mapP {α β : Type} {F G : α → β → Prop} : ∀ {l₁ : List α} {l₂ : List β}, Paired F l₁ l₂ → (∀ a b, F a b → G a b) → Paired G l₁ l₂
  | _, _, .nil, _ => .nil
  | _, _, .cons r t, f => .cons (f _ _ r) (Paired.mapP t f)
theorem Gu.stay (x : Gu P w H h a o) (k : ∀ b u, (b = a ∨ H b = some (.own a)) → h.get? b = some u → h'.get? b = some u)
    (ho : ∀ b, H b = some (.own a) → H' b = some (.own a)) (ht : ∀ b xs, H b = some (.tup xs) → H' b = some (.tup xs)) : Gu P w H' h' a o := by
  induction o with
  | lst xs => obtain ⟨z, its, n, r, e⟩ := x; exact ⟨z, its, n, r, k _ _ (.inl rfl) e⟩
  | tup xs => obtain ⟨z, its, r, ob, e, c⟩ := x; exact ⟨z, its, r, ob, k _ _ (.inl rfl) e, c⟩
  | dK kvs => obtain ⟨z, y, vs, r, ob, es, ep, e, c⟩ := x; exact ⟨z, y, vs, r, ob, es, ep, k _ _ (.inl rfl) e, c⟩
  | dT kvs =>
    obtain ⟨z, y, xs, r, ob, es, ep, e, c⟩ := x
    exact ⟨z, y, xs, Paired.mapP r fun p q z => ⟨z.1, ht _ _ z.2.1, z.2.2⟩, ob, es, ep, k _ _ (.inl rfl) e, c⟩
  | set S n => obtain ⟨ob, es, ep, t, e, c⟩ := x; exact ⟨ob, es, ep, t, k _ _ (.inl rfl) e, c⟩
  | ins C dx fs =>
    obtain ⟨d, z, ne, e, mA, ⟨od, es, ep, e2, c⟩, r⟩ := x
    exact ⟨ho _ d, z, ne, k _ _ (.inl rfl) e, mA, ⟨od, es, ep, k _ _ (.inr d) e2, c⟩, r⟩
  | own y => obtain ⟨ob, e⟩ := x; exact ⟨ob, k _ _ (.inl rfl) e⟩
  | xd fs => obtain ⟨mA, ⟨od, es, ep, e, c⟩, r⟩ := x; exact ⟨mA, ⟨od, es, ep, k _ _ (.inl rfl) e, c⟩, r⟩
  | rng lo hi => obtain ⟨t, u, v, e⟩ := x; exact ⟨t, u, v, k _ _ (.inl rfl) e⟩
  | frz ob u ih => obtain ⟨e, q⟩ := x; exact ⟨k _ _ (.inl rfl) e, ih q⟩
  | tbl ps =>
    have e : h.get? a = some { cls := .none, data := .fields ps } := x
    show h'.get? a = some { cls := .none, data := .fields ps }
    exact k a _ (.inl rfl) e
  | met f y =>
    have e : h.get? a = some (PySem.W.methodObj (.ref f) (.ref y)) := x
    show h'.get? a = some (PySem.W.methodObj (.ref f) (.ref y))
    exact k a _ (.inl rfl) e
  | ext φ => obtain ⟨p, ⟨o, e⟩, st⟩ := x; exact ⟨st _ _ p fun o q => k _ _ (.inl rfl) q, ⟨o, k _ _ (.inl rfl) e⟩, st⟩
theorem HOk.lt (x : HOk P w H h) (e : H a = some o) : a < h.objs.size := (x a o e).lt
theorem HOk.fresh (x : HOk P w H h) (e : h.objs.size ≤ a) : H a = none := by
  cases q : H a with
  | none => rfl
  | some u => exact absurd (Nat.lt_of_lt_of_le (x.lt q) e) (Nat.lt_irrefl _)
theorem HOk.kept (x : HOk P w H h) (k : ∀ b u, h.get? b = some u → h'.get? b = some u) : HOk P w H h' := fun a o e =>
  (x a o e).stay (fun b u _ q => k b u q) (fun _ q => q) fun _ _ q => q
theorem HOk.laid (x : HOk P w H h) (k : ∀ b u, h.get? b = some u → h'.get? b = some u) (hp : h.objs.size ≤ a) (new : Gu P w (upd H a o) h' a o) : HOk P w (upd H a o) h' := fun b u e => by
  have hn := x.fresh hp
  by_cases hb : b = a
  · subst hb; rw [BJ] at e; cases e; exact new
  · rw [Bc hb] at e
    exact (x b u e).stay (fun c v _ q => k c v q) (fun c q => by rw [Bc (Bu q hn)]; exact q) fun c xs q => by rw [Bc (Bu q hn)]; exact q
end
def Rd (H : Hp) (a : Addr) (u : HO) : Prop := H a = some u ∨ ∃ o, H a = some (.frz o u)
theorem Rd.ok {P : Program} {w : World} {H : Hp} {h : Heap} {a : Addr} {u : HO} (r : Rd H a u) (x : HOk P w H h) : Gu P w H h a u := by
  rcases r with r | ⟨o, r⟩
  · exact x a u r
  · obtain ⟨_, q⟩ := x a _ r
    exact q
def Mut : Option HO → Prop
  | some (.lst _) => True
  | some (.dK _) => True
  | some (.dT _) => True
  | some (.set _ _) => True
  | some (.ins _ _ _) => True
  | some (.ext _) => True
  | _ => False
section
variable {P : Program} {w : World} {H : Hp} {h h' : Heap} {x e : Addr} {o' : HO}
theorem HOk.write (ok : HOk P w H h) (mu : Mut (H x)) (he : e = x ∨ H e = some (.own x)) (k : ∀ b u, b ≠ e → h.get? b = some u → h'.get? b = some u) (heo : ∃ u, h'.get? e = some u)
    (new : Gu P w (upd H x o') h' x o') : HOk P w (upd H x o') h' := fun b u q => by
  have nown : ∀ c y, H c = some (.own y) → c ≠ x := fun c y r z => by subst z; rw [r] at mu; exact mu
  have ntup : ∀ c xs, H c = some (.tup xs) → c ≠ x := fun c xs r z => by subst z; rw [r] at mu; exact mu
  by_cases hb : b = x
  · subst hb; rw [BJ] at q; cases q; exact new
  · rw [Bc hb] at q
    by_cases hbe : b = e
    · have q' : H b = some (.own x) := by
        rcases he with z | z
        · exact absurd (hbe.trans z) hb
        · rw [hbe]; exact z
      rw [q] at q'; cases q'
      obtain ⟨v, hv⟩ := heo
      exact ⟨v, by rw [hbe]; exact hv⟩
    · refine (ok b u q).stay (fun c v hc r => k c v ?_ r) (fun c r => by rw [Bc (nown c b r)]; exact r) fun c xs r => by rw [Bc (ntup c xs r)]; exact r
      rcases hc with rfl | hc
      · exact hbe
      · rintro rfl
        rcases he with z | z
        · exact nown c b hc z
        · rw [hc] at z; cases z; exact hb rfl
end
structure Un (fs ex : List Addr) (H H' : Hp) (h h' : Heap) : Prop where
  keep : ∀ b o, h.get? b = some o → H b = none → b ∉ fs → b ∉ ex → h'.get? b = some o
  slot : ∀ b o, h.get? b = some o → H b = none → b ∈ fs → b ∉ ex → ∃ sl, h'.get? b = some { o with slots := sl }
  free : ∀ b o, h.get? b = some o → H b = none → b ∉ ex → H' b = none
  there : ∀ b o, h.get? b = some o → b ∉ ex → ∃ o', h'.get? b = some o'
  tups : ∀ b xs, H b = some (.tup xs) → H' b = some (.tup xs)
  frzs : ∀ b o u, H b = some (.frz o u) → H' b = some (.frz o u)
  tbls : ∀ b ps, H b = some (.tbl ps) → ∃ more, H' b = some (.tbl (ps ++ more))
section
variable {fs fs' ex ex' : List Addr} {H H1 H2 : Hp} {h h1 h2 h' : Heap} {a x e : Addr} {o : HO}
theorem Un.any (u : Un fs ex H H1 h h1) {b : Addr} {ob : Obj} (q : h.get? b = some ob) (n : H b = none) (hx : b ∉ ex) : ∃ sl, h1.get? b = some { ob with slots := sl } := by
  by_cases hb : b ∈ fs
  · exact u.slot b ob q n hb hx
  · exact ⟨ob.slots, u.keep b ob q n hb hx⟩
theorem Un.trans (a : Un fs ex H H1 h h1) (b : Un fs ex H1 H2 h1 h2) : Un fs ex H H2 h h2 where
  keep := fun c ob q n hc hx => b.keep c ob (a.keep c ob q n hc hx) (a.free c ob q n hx) hc hx
  slot := fun c ob q n hc hx => by
    obtain ⟨sl, e1⟩ := a.slot c ob q n hc hx
    obtain ⟨sl', e2⟩ := b.slot c _ e1 (a.free c ob q n hx) hc hx
    exact ⟨sl', e2⟩
  free := fun c ob q n hx => by
    obtain ⟨o', e1⟩ := a.there c ob q hx
    exact b.free c o' e1 (a.free c ob q n hx) hx
  there := fun c ob q hx => by
    obtain ⟨o', e1⟩ := a.there c ob q hx
    exact b.there c o' e1 hx
  tups := fun c xs q => b.tups c xs (a.tups c xs q)
  frzs := fun c ob xs q => b.frzs c ob xs (a.frzs c ob xs q)
  tbls := fun c ps q => by
    obtain ⟨m1, e1⟩ := a.tbls c ps q
    obtain ⟨m2, e2⟩ := b.tbls c _ e1
    exact ⟨m1 ++ m2, by rw [e2, Array.append_assoc]⟩
theorem Un.kept (k : ∀ b u, h.get? b = some u → h'.get? b = some u) : Un fs ex H H h h' :=
  ⟨fun b ob q _ _ _ => k b ob q, fun b ob q _ _ _ => ⟨ob.slots, k b ob q⟩, fun _ _ _ n _ => n, fun b ob q _ => ⟨ob, k b ob q⟩, fun _ _ q => q, fun _ _ _ q => q, fun _ ps q => ⟨#[], by rw [q]; simp⟩⟩
theorem Un.refl : Un fs ex H H h h := Un.kept fun _ _ q => q
theorem Un.laid (k : ∀ b u, h.get? b = some u → h'.get? b = some u) (hp : h.objs.size ≤ a) (hn : H a = none) : Un fs ex H (upd H a o) h h' where
  keep := fun b u q _ _ _ => k b u q
  slot := fun b u q _ _ _ => ⟨u.slots, k b u q⟩
  free := fun b u q n _ => by rw [Bc (Nat.ne_of_lt (Nat.lt_of_lt_of_le (Heap.lt_size q) hp))]; exact n
  there := fun b u q _ => ⟨u, k b u q⟩
  tups := fun b xs q => by rw [Bc (Bu q hn)]; exact q
  frzs := fun b u xs q => by rw [Bc (Bu q hn)]; exact q
  tbls := fun b ps q => ⟨#[], by rw [Bc (Bu q hn), q]; simp⟩
theorem Un.write (mu : Mut (H x)) (he : e = x ∨ H e = some (.own x)) (k : ∀ b u, b ≠ e → h.get? b = some u → h'.get? b = some u) (heo : ∃ u, h'.get? e = some u) : Un fs ex H (upd H x o) h h' := by
  have hx : ∀ b, H b = none → b ≠ x := fun b n z => by subst z; rw [n] at mu; exact mu
  have hb : ∀ b, H b = none → b ≠ e := fun b n z => by
    subst z
    rcases he with r | r
    · exact hx b n r
    · rw [n] at r; cases r
  have hm : ∀ b u, H b = some u → ¬ Mut (some u) → b ≠ x := fun b u q nm z => by subst z; rw [q] at mu; exact nm mu
  refine ⟨fun b u q n _ _ => k b u (hb b n) q, fun b u q n _ _ => ⟨u.slots, k b u (hb b n) q⟩, fun b u q n _ => by rw [Bc (hx b n)]; exact n, fun b u q _ => ?_,
    fun b xs q => by rw [Bc (hm b _ q fun z => z)]; exact q, fun b u xs q => by rw [Bc (hm b _ q fun z => z)]; exact q, fun b ps q => ⟨#[], by rw [Bc (hm b _ q fun z => z), q]; simp⟩⟩
  by_cases hbe : b = e
  · subst hbe; exact heo
  · exact ⟨u, k b u hbe q⟩
end
def trk (h : Heap) (H : Hp) : List Addr := (List.range h.objs.size).filter fun a => (H a).isSome
def RD (h : Heap) (H : Hp) : Heap := PySem.W.hideAll h (trk h H)
theorem Xb (h : Heap) (H : Hp) : (RD h H).objs.size = h.objs.size := PySem.W.hideAll_size _ _
theorem X5 {h : Heap} {H : Hp} {b : Addr} {o : Obj} (e : h.get? b = some o) (n : H b = none) : (RD h H).get? b = some o :=
  PySem.W.hideAll_get _ e fun hm => by
    have q : (H b).isSome = true := (List.mem_filter.mp hm).2
    rw [n] at q; simp at q
theorem AaW {h : Heap} {H : Hp} {b : Addr} {o : Obj} (e : (RD h H).get? b = some o) : h.get? b = some o ∧ H b = none := by
  have e' : h.get? b = some o := PySem.W.of_hideAll (trk h H) e
  refine ⟨e', ?_⟩
  cases q : H b with
  | none => rfl
  | some x =>
    have hm : b ∈ trk h H := List.mem_filter.mpr ⟨List.mem_range.mpr (Heap.lt_size e'), by simp [q]⟩
    have z : (RD h H).get? b = none := PySem.W.hideAll_none (trk h H) hm
    rw [z] at e; cases e
def AbC (g h : Heap) (L : Addr) : List (Addr × Obj) := (List.range h.objs.size).filterMap fun a => if a = L ∨ (g.get? a).isSome = true then none else (h.get? a).map fun o => (a, o)
def rest (g h : Heap) (L d : Addr) : List (Addr × Obj) := (AbC g h L).filter fun p => decide (p.1 ≠ d)
end L2
namespace L2
open PySem PySem.Spec PyProof.Rows
structure Mod (K : PySem.W.Frag) (mg : Str → Option Value) (base : Heap) : Prop where
  kin : K.In base
  glob : base.Ns mainGlobals mg
  blt : ∃ mb, base.Ns builtinsNs mb ∧ ∀ x : Str, x ≠ "__name__" → mb x = bootBuiltins x
  nolimit : base.NoLimit
structure Cx where
  prog : Program
  w : World
  K : PySem.W.Frag
  mg : Str → Option Value
  base : Heap
  A : Around
  N : List Str
  s₀ : Shared
  H₀ : Hp
  env : Env
  outer : List Env
  stack : List Env
  ex : List Addr
  fn : Str → Bool
  calm : Bool
  pn : List (Addr × Obj)
  xe : Value → Shared → Prop
def frs (l : List Env) : List Addr := l.filterMap (·.frame)
abbrev Cx.fs (X : Cx) : List Addr := frs X.outer
def Vis (sc : Scope) (x : Str) : Prop := sc.names.lookup x = some .local ∨ sc.names.lookup x = some .cell ∨ sc.names.lookup x = some .free
def Loc (sc : Scope) (x : Str) : Prop := sc.names.lookup x = some .local ∨ sc.names.lookup x = some .cell
def Look (env : Env) (h : Heap) (m : Str → Option Value) (x : Str) (u : Value) : Prop :=
  (env.kindOf x = some .local ∧ m x = some u) ∨ ((env.kindOf x = some .cell ∨ env.kindOf x = some .free) ∧ ∃ c, env.cells.lookup x = some c ∧ h.IsCell c (some u))
structure Cx.Ok (X : Cx) : Prop where
  mod : Mod X.K X.mg X.base
  kind : X.env.scope.kind = .function
  glob : X.env.globals = mainGlobals
  blt : X.env.builtins = builtinsNs
  above : X.s₀.heap.objs.size ≤ X.env.locals
  inj : ∀ x y c, X.env.cells.lookup x = some c → X.env.cells.lookup y = some c → x = y
  has : ∀ x, (X.env.kindOf x = some .cell ∨ X.env.kindOf x = some .free) → ∃ c, X.env.cells.lookup x = some c
  cab : ∀ x c, X.fn x = true → X.env.cells.lookup x = some c → X.s₀.heap.objs.size ≤ c
  hd : X.calm = true → X.A.handled = none
  frames : X.A.frames = some X.stack
  stk : X.stack = X.outer ∨ (X.stack = X.env :: X.outer ∧ X.env.frame = some X.env.locals)
  exf : ∀ b ∈ X.ex, b ≠ X.env.locals ∧ ∀ x c, X.env.cells.lookup x = some c → c ≠ b
  bs : ∀ b o, X.base.get? b = some o → X.s₀.heap.get? b = some o ∧ X.H₀ b = none
  bsz : X.base.objs.size ≤ X.s₀.heap.objs.size
  noex : ∀ b o, X.base.get? b = some o → b ∉ X.ex
  exfs : ∀ b ∈ X.ex, b ∉ X.fs
  funs : X.s₀.heap.FunFrames X.base X.outer
  frf : ∀ b ∈ X.fs, X.H₀ b = none
structure Inv (X : Cx) (pins : List (Addr × Obj)) (σ : List (Option V)) (H : Hp) (s : Shared) : Prop where
  ok : X.Ok
  os : s.os = X.s₀.os
  bare : AllBare s.gens
  base : Un X.fs X.ex X.H₀ H X.s₀.heap s.heap
  loc : ∃ m, s.heap.Ns X.env.locals m ∧ ∀ (i : Nat) (x : Str) (v : V), X.N[i]? = some x → σ[i]? = some (some v) → Vis X.env.scope x → ∃ u, RelV v u ∧ Look X.env s.heap m x u
  cell : ∀ x c, X.env.cells.lookup x = some c → ∃ v, s.heap.IsCell c v
  free : H X.env.locals = none
  freeC : ∀ x c, X.env.cells.lookup x = some c → H c = none
  pin : ∀ p ∈ X.pn ++ pins, s.heap.get? p.1 = some p.2 ∧ H p.1 = none ∧ p.1 ≠ X.env.locals ∧ p.1 ∉ X.fs ∧ ∀ v, p.2.data ≠ .cell v
  hok : HOk X.prog X.w H s.heap
  len : σ.length = X.N.length
section
variable {X : Cx} {pins : List (Addr × Obj)} {σ : List (Option V)} {H H' : Hp} {s : Shared} {h' : Heap}
theorem Cx.Ok.nofr (ok : X.Ok) {b : Addr} {o : Obj} (e : X.base.get? b = some o) : b ∉ X.fs := fun hb => by
  have := (ok.funs.mem hb).1
  rw [e] at this; cases this
theorem Inv.bs (I : Inv X pins σ H s) : ∀ b o, X.base.get? b = some o → s.heap.get? b = some o ∧ H b = none := fun b o e =>
  ⟨I.base.keep b o (I.ok.bs b o e).1 (I.ok.bs b o e).2 (I.ok.nofr e) (I.ok.noex b o e), I.base.free b o (I.ok.bs b o e).1 (I.ok.bs b o e).2 (I.ok.noex b o e)⟩
theorem Inv.bk (I : Inv X pins σ H s) : ∀ b o, X.base.get? b = some o → s.heap.get? b = some o := fun b o e => (I.bs b o e).1
theorem Inv.mod (I : Inv X pins σ H s) : Mod X.K X.mg X.base := I.ok.mod
theorem Inv.kIn (I : Inv X pins σ H s) : X.K.In s.heap := I.ok.mod.kin.keeps I.bk
theorem Inv.lt (I : Inv X pins σ H s) : X.env.locals < s.heap.objs.size := let ⟨_, hn, _⟩ := I.loc; hn.lt
theorem Inv.sz (I : Inv X pins σ H s) : X.s₀.heap.objs.size ≤ s.heap.objs.size := Nat.le_trans I.ok.above (Nat.le_of_lt I.lt)
theorem Inv.nofs (I : Inv X pins σ H s) {a : Addr} (h : s.heap.objs.size ≤ a) : a ∉ X.fs := fun hb => by
  obtain ⟨_, o, ho, _⟩ := I.ok.funs.mem hb
  exact absurd (Nat.lt_of_lt_of_le (Heap.lt_size ho) (Nat.le_trans I.sz h)) (Nat.lt_irrefl _)
theorem Inv.cne (I : Inv X pins σ H s) : ∀ x c, X.env.cells.lookup x = some c → c ≠ X.env.locals := fun x c e z => by
  obtain ⟨v, o, ho, hd⟩ := I.cell x c e
  obtain ⟨m, ⟨o', es, ep, ho', hd', _⟩, _⟩ := I.loc
  rw [z, ho'] at ho; cases ho; rw [hd'] at hd; cases hd
theorem Inv.funs (I : Inv X pins σ H s) : s.heap.FunFrames X.base X.outer := by
  have all : ∀ (l : List Env), (∀ b ∈ frs l, b ∈ X.fs) → X.s₀.heap.FunFrames X.base l → s.heap.FunFrames X.base l := by
    intro l
    induction l with
    | nil => intro _ _; trivial
    | cons env r ih =>
      intro hs hl
      obtain ⟨hk, ⟨L, o, hf, hn, ho, hd⟩, hr⟩ := hl
      have hL : L ∈ X.fs := hs L (by unfold frs; rw [List.filterMap_cons, hf]; exact List.mem_cons_self)
      obtain ⟨sl, e⟩ := I.base.slot L o ho (I.ok.frf L hL) hL fun z => I.ok.exfs L z hL
      exact ⟨hk, ⟨L, _, hf, hn, e, hd⟩, ih (fun b hb => hs b (by unfold frs; rw [List.filterMap_cons, hf]; exact List.mem_cons_of_mem _ hb)) hr⟩
  exact all X.outer (fun _ hb => hb) I.ok.funs
theorem Inv.stack (I : Inv X pins σ H s) : s.heap.FunFrames X.base X.stack := by
  rcases I.ok.stk with e | ⟨e, hf⟩
  · rw [e]; exact I.funs
  · rw [e]
    obtain ⟨m, hn, _⟩ := I.loc
    refine .cons (by rw [I.ok.kind]; decide) hf hn ?_ I.funs
    exact Heap.get?_none_of_le (Nat.le_trans I.ok.bsz I.ok.above)
theorem Inv.stkSub (I : Inv X pins σ H s) : ∀ b ∈ frs X.stack, b ∈ X.env.locals :: X.fs := fun b hb => by
  rcases I.ok.stk with e | ⟨e, hf⟩
  · rw [e] at hb; exact List.mem_cons_of_mem _ hb
  · rw [e] at hb
    unfold frs at hb
    rw [List.filterMap_cons, hf] at hb
    exact hb
theorem Inv.stkFree (I : Inv X pins σ H s) : ∀ b ∈ frs X.stack, H b = none := fun b hb => by
  rcases List.mem_cons.mp (I.stkSub b hb) with e | hb
  · rw [e]; exact I.free
  · obtain ⟨_, o, ho, _⟩ := I.ok.funs.mem hb
    exact I.base.free b o ho (I.ok.frf b hb) fun z => I.ok.exfs b z hb
theorem Inv.step {g' : Array GenState} {t' : Nat} {d' : Drawn} {ch : List Addr} (I : Inv X pins σ H s)
    (hch : ∀ b ∈ ch, (b ∈ X.ex ∨ X.s₀.heap.objs.size ≤ b) ∧ b ≠ X.env.locals ∧ (∀ x c, X.env.cells.lookup x = some c → c ≠ b) ∧ ∀ p ∈ X.pn ++ pins, p.1 ≠ b)
    (keep : ∀ b o, b ≠ X.env.locals → b ∉ X.fs → b ∉ ch → s.heap.get? b = some o → H b = none → h'.get? b = some o)
    (slot : ∀ b o, b ≠ X.env.locals → b ∈ X.fs → b ∉ ch → s.heap.get? b = some o → H b = none → ∃ sl, h'.get? b = some { o with slots := sl }) (free : ∀ b o, b ∉ ch → s.heap.get? b = some o → H b = none → H' b = none)
    (there : ∀ b o, b ∉ ch → s.heap.get? b = some o → ∃ o', h'.get? b = some o')
    (tups : ∀ b xs, H b = some (.tup xs) → H' b = some (.tup xs)) (frzs : ∀ b o u, H b = some (.frz o u) → H' b = some (.frz o u)) (tbls : ∀ b ps, H b = some (.tbl ps) → ∃ more, H' b = some (.tbl (ps ++ more)))
    (ns : ∀ m, s.heap.Ns X.env.locals m → h'.Ns X.env.locals m) (hok : HOk X.prog X.w H' h') (hg : AllBare g') :
    Inv X pins σ H' { s with heap := h', gens := g', drawn := d', toks := t' } := by
  have neL : ∀ b o, X.s₀.heap.get? b = some o → b ≠ X.env.locals := fun b o e => Nat.ne_of_lt (Nat.lt_of_lt_of_le (Heap.lt_size e) I.ok.above)
  have neC : ∀ b o, X.s₀.heap.get? b = some o → b ∉ X.ex → b ∉ ch := fun b o e hx hb => by
    rcases (hch b hb).1 with z | z
    · exact hx z
    · exact absurd (Nat.lt_of_lt_of_le (Heap.lt_size e) z) (Nat.lt_irrefl _)
  have cellK : ∀ x c, X.env.cells.lookup x = some c → ∀ v, s.heap.IsCell c v → h'.IsCell c v := fun x c e v ⟨o, ho, hd⟩ => by
    have nch : c ∉ ch := fun z => (hch c z).2.2.1 x c e rfl
    by_cases hc : c ∈ X.fs
    · obtain ⟨sl, q⟩ := slot c o (I.cne x c e) hc nch ho (I.freeC x c e)
      exact ⟨_, q, hd⟩
    · exact ⟨o, keep c o (I.cne x c e) hc nch ho (I.freeC x c e), hd⟩
  refine ⟨I.ok, I.os, hg, ⟨fun b o e n hb hx => ?_, fun b o e n hb hx => ?_, fun b o e n hx => ?_, fun b o e hx => ?_, fun b xs e => tups b xs (I.base.tups b xs e), fun b o xs e => frzs b o xs (I.base.frzs b o xs e), fun b ps e => ?_⟩, ?_, fun x c e => ?_, ?_, fun x c e => ?_, fun p hp => ?_, hok, I.len⟩
  · exact keep b o (neL b o e) hb (neC b o e hx) (I.base.keep b o e n hb hx) (I.base.free b o e n hx)
  · obtain ⟨sl, e1⟩ := I.base.slot b o e n hb hx
    obtain ⟨sl', e2⟩ := slot b _ (neL b o e) hb (neC b o e hx) e1 (I.base.free b o e n hx)
    exact ⟨sl', e2⟩
  · obtain ⟨o', e1⟩ := I.base.there b o e hx
    exact free b o' (neC b o e hx) e1 (I.base.free b o e n hx)
  · obtain ⟨o', e1⟩ := I.base.there b o e hx
    exact there b o' (neC b o e hx) e1
  · obtain ⟨m1, e1⟩ := I.base.tbls b ps e
    obtain ⟨m2, e2⟩ := tbls b _ e1
    exact ⟨m1 ++ m2, by rw [e2, Array.append_assoc]⟩
  · obtain ⟨m, hn, hl⟩ := I.loc
    refine ⟨m, ns m hn, fun i x v e1 e2 e3 => ?_⟩
    obtain ⟨u, r, l⟩ := hl i x v e1 e2 e3
    refine ⟨u, r, ?_⟩
    rcases l with l | ⟨k, c, e, z⟩
    · exact .inl l
    · exact .inr ⟨k, c, e, cellK x c e _ z⟩
  · obtain ⟨v, z⟩ := I.cell x c e
    exact ⟨v, cellK x c e v z⟩
  · obtain ⟨m, ⟨o, _, _, ho, _⟩, _⟩ := I.loc
    exact free _ o (fun z => (hch _ z).2.1 rfl) ho I.free
  · obtain ⟨v, o, ho, hd⟩ := I.cell x c e
    exact free c o (fun z => (hch c z).2.2.1 x c e rfl) ho (I.freeC x c e)
  · obtain ⟨e, n, ne, nf, d⟩ := I.pin p hp
    have nch : p.1 ∉ ch := fun z => (hch p.1 z).2.2.2 p hp rfl
    exact ⟨keep p.1 p.2 ne nf nch e n, free p.1 p.2 nch e n, ne, nf, d⟩
theorem Inv.un {t' : Nat} (I : Inv X pins σ H s) (u : Un X.fs [] H H' s.heap h') (hok : HOk X.prog X.w H' h') : Inv X pins σ H' { s with heap := h', toks := t' } := by
  obtain ⟨m, ⟨o, es, ep, ho, r⟩, _⟩ := id I.loc
  obtain ⟨sl, hL⟩ := u.any ho I.free (by simp)
  exact I.step (g' := s.gens) (d' := s.drawn) (ch := []) (fun _ z => nomatch z) (fun b o _ hb _ e n => u.keep b o e n hb (by simp)) (fun b o _ hb _ e n => u.slot b o e n hb (by simp)) (fun b o _ e n => u.free b o e n (by simp)) (fun b o _ e => u.there b o e (by simp)) u.tups u.frzs u.tbls (fun m' hm => by
    obtain ⟨o', es', ep', ho', r'⟩ := hm
    rw [ho] at ho'; cases ho'
    exact ⟨_, es', ep', hL, r'⟩) hok I.bare
theorem Inv.call {g' : Array GenState} {t' : Nat} {d' : Drawn} {ch : List Addr} (I : Inv X pins σ H s) (u : Un (frs X.stack) ch H H' s.heap h') (hok : HOk X.prog X.w H' h') (hg : AllBare g')
    (hch : ∀ b ∈ ch, (b ∈ X.ex ∨ X.s₀.heap.objs.size ≤ b) ∧ b ≠ X.env.locals ∧ (∀ x c, X.env.cells.lookup x = some c → c ≠ b) ∧ ∀ p ∈ X.pn ++ pins, p.1 ≠ b) :
    Inv X pins σ H' { s with heap := h', gens := g', drawn := d', toks := t' } := by
  obtain ⟨m, ⟨o, es, ep, ho, r⟩, _⟩ := id I.loc
  obtain ⟨sl, hL⟩ := u.any ho I.free fun z => (hch _ z).2.1 rfl
  exact I.step (ch := ch) hch (fun b o hL hb hc e n => u.keep b o e n (fun z => (List.mem_cons.mp (I.stkSub b z)).elim hL hb) hc) (fun b o _ _ hc e n => u.any e n hc) (fun b o hc e n => u.free b o e n hc) (fun b o hc e => u.there b o e hc) u.tups u.frzs u.tbls (fun m' hm => by
    obtain ⟨o', es', ep', ho', r'⟩ := hm
    rw [ho] at ho'; cases ho'
    exact ⟨_, es', ep', hL, r'⟩) hok hg
theorem Inv.turned {t' : Nat} {it : Addr} (I : Inv X pins σ H s) (k : ∀ b o, b ≠ it → s.heap.get? b = some o → h'.get? b = some o) (hn : H it = none) (hL : it ≠ X.env.locals)
    (h1 : it ∈ X.ex ∨ X.s₀.heap.objs.size ≤ it) (h2 : ∀ x c, X.env.cells.lookup x = some c → c ≠ it) (h3 : ∀ p ∈ X.pn ++ pins, p.1 ≠ it) : Inv X pins σ H { s with heap := h', toks := t' } := by
  have nit : ∀ b u, H b = some u → b ≠ it := fun b u e z => by rw [z, hn] at e; cases e
  refine I.step (g' := s.gens) (d' := s.drawn) (ch := [it]) (fun b hb => ?_) (fun b o _ _ hc e _ => k b o (fun z => hc (by simp [z])) e) (fun b o _ _ hc e _ => ⟨o.slots, k b o (fun z => hc (by simp [z])) e⟩) (fun _ _ _ _ n => n)
    (fun b o hc e => ⟨o, k b o (fun z => hc (by simp [z])) e⟩) (fun _ _ e => e) (fun _ _ _ e => e) (fun b ps e => ⟨#[], by rw [e]; simp⟩) (fun m hm => ?_) (fun b u e => ?_) I.bare
  · have e : b = it := by simpa using hb
    subst e
    exact ⟨h1, hL, h2, h3⟩
  · obtain ⟨o, es, ep, ho, r⟩ := hm
    exact ⟨o, es, ep, k _ o (Ne.symm hL) ho, r⟩
  · refine (I.hok b u e).stay (fun c v hc q => k c v ?_ q) (fun _ q => q) fun _ _ q => q
    rcases hc with z | z
    · rw [z]; exact nit b u e
    · exact nit c _ z
theorem Inv.tok (I : Inv X pins σ H s) (t : Nat) : Inv X pins σ H { s with toks := t } := I.un (h' := s.heap) (t' := t) Un.refl I.hok
theorem Inv.kept {t' : Nat} (I : Inv X pins σ H s) (k : ∀ b u, s.heap.get? b = some u → h'.get? b = some u) : Inv X pins σ H { s with heap := h', toks := t' } := I.un (Un.kept k) (I.hok.kept k)
theorem Inv.laid {a : Addr} {o : HO} {t' : Nat} (I : Inv X pins σ H s) (k : ∀ b u, s.heap.get? b = some u → h'.get? b = some u) (hp : s.heap.objs.size ≤ a) (new : Gu X.prog X.w (upd H a o) h' a o) :
    Inv X pins σ (upd H a o) { s with heap := h', toks := t' } := I.un (Un.laid k hp (I.hok.fresh hp)) (I.hok.laid k hp new)
theorem Inv.write {x e : Addr} {o : HO} {t' : Nat} (I : Inv X pins σ H s) (mu : Mut (H x)) (he : e = x ∨ H e = some (.own x)) (k : ∀ b u, b ≠ e → s.heap.get? b = some u → h'.get? b = some u) (heo : ∃ u, h'.get? e = some u)
    (new : Gu X.prog X.w (upd H x o) h' x o) : Inv X pins σ (upd H x o) { s with heap := h', toks := t' } := I.un (Un.write mu he k heo) (I.hok.write mu he k heo new)
theorem Inv.pins_of {pins' : List (Addr × Obj)} (I : Inv X pins σ H s) (h : ∀ p ∈ pins', s.heap.get? p.1 = some p.2 ∧ H p.1 = none ∧ p.1 ≠ X.env.locals ∧ p.1 ∉ X.fs ∧ ∀ v, p.2.data ≠ .cell v) : Inv X pins' σ H s :=
  ⟨I.ok, I.os, I.bare, I.base, I.loc, I.cell, I.free, I.freeC, fun p hp => (List.mem_append.mp hp).elim (fun z => I.pin p (List.mem_append_left _ z)) (h p), I.hok, I.len⟩
theorem Tw {N : List Str} (hN : N.Nodup) {i j : Nat} {x : Str} (a : N[i]? = some x) (b : N[j]? = some x) : i = j := by
  obtain ⟨h1, e1⟩ := List.getElem?_eq_some_iff.mp a
  obtain ⟨h2, e2⟩ := List.getElem?_eq_some_iff.mp b
  exact (List.getElem_inj hN).mp (e1.trans e2.symm)
theorem Qx {M : Model} {A : Around} {E : Value → Shared → Prop} {i : Nat} {x : Str} {v : V} {u : Value} {Q : Unit → Shared → Prop} (I : Inv X pins σ H s) (hN : X.N.Nodup) (hi : X.N[i]? = some x) (hx : Loc X.env.scope x) (r : RelV v u)
    (h : ∀ s', Inv X pins (σ.set i (some v)) H s' → (∃ a, Heap.SameBut a s.heap s'.heap ∧ (a = X.env.locals ∨ X.env.cells.lookup x = some a)) → Q () s') (hf : X.fn x = true ∨ X.env.scope.names.lookup x = some .local := by first | exact .inl rfl | exact .inr rfl | assumption) : wpAny M A (storeName X.env x u) Q E s := by
  obtain ⟨m, hn, hl⟩ := id I.loc
  have hcls : (X.env.scope.kind == .class || (X.env.scope.kind == .module && X.env.locals != X.env.globals)) = false := by rw [I.ok.kind]; rfl
  have hiσ : i < σ.length := by rw [I.len]; exact (List.getElem?_eq_some_iff.mp hi).1
  have cne := I.cne
  have tracked : ∀ {a : Addr} {h' : Heap}, (∃ o, s.heap.get? a = some o ∧ H a = none) → Heap.SameBut a s.heap h' → HOk X.prog X.w H h' := fun {a h'} ha hs b ob e => by
    obtain ⟨_, _, hfree⟩ := ha
    refine (I.hok b ob e).stay (fun c w' hc q => (hs.2 c ?_).trans q) (fun _ q => q) fun _ _ q => q
    rintro rfl
    rcases hc with rfl | hc
    · rw [hfree] at e; cases e
    · rw [hfree] at hc; cases hc
  rcases hx with hk | hk
  · refine wpAny_storeName_local hk hn (fun h' hn' hs => ?_) hcls
    obtain ⟨oL, _, _, hoL, _⟩ := id hn
    refine h _ ⟨I.ok, I.os, I.bare, ⟨fun b o e n hb hx => ?_, fun b o e n hb hx => ?_, I.base.free, fun b o e hx => ?_, I.base.tups, I.base.frzs, I.base.tbls⟩, ⟨_, hn', fun j y v' e1 e2 e3 => ?_⟩, fun y c e => ?_, I.free, I.freeC, fun p hp => ?_, tracked ⟨oL, hoL, I.free⟩ hs, by simpa using I.len⟩ ⟨_, hs, .inl rfl⟩
    · exact (hs.2 b (Nat.ne_of_lt (Nat.lt_of_lt_of_le (Heap.lt_size e) I.ok.above))).trans (I.base.keep b o e n hb hx)
    · obtain ⟨sl, e1⟩ := I.base.slot b o e n hb hx
      exact ⟨sl, (hs.2 b (Nat.ne_of_lt (Nat.lt_of_lt_of_le (Heap.lt_size e) I.ok.above))).trans e1⟩
    · obtain ⟨o', e1⟩ := I.base.there b o e hx
      exact ⟨o', (hs.2 b (Nat.ne_of_lt (Nat.lt_of_lt_of_le (Heap.lt_size e) I.ok.above))).trans e1⟩
    · by_cases hj : j = i
      · subst hj
        rw [hi] at e1; cases e1
        rw [List.getElem?_set_self hiσ] at e2
        cases e2
        exact ⟨u, r, .inl ⟨hk, by simp⟩⟩
      · rw [List.getElem?_set_ne (Ne.symm hj)] at e2
        obtain ⟨u', r', q⟩ := hl j y v' e1 e2 e3
        refine ⟨u', r', ?_⟩
        rcases q with ⟨k, e⟩ | ⟨k, c, e, z⟩
        · refine .inl ⟨k, ?_⟩
          have : y ≠ x := fun e => hj (Tw hN e1 (e ▸ hi))
          simp [this, e]
        · exact .inr ⟨k, c, e, z.sameBut hs (cne y c e)⟩
    · obtain ⟨w', z⟩ := I.cell y c e
      exact ⟨w', z.sameBut hs (cne y c e)⟩
    · obtain ⟨e, n, ne, nf, d⟩ := I.pin p hp
      exact ⟨(hs.2 p.1 ne).trans e, n, ne, nf, d⟩
  · have hfn : X.fn x = true := by
      rcases hf with z | z
      · exact z
      · rw [z] at hk; cases hk
    obtain ⟨c, hc⟩ := I.ok.has x (.inl hk)
    obtain ⟨w', z⟩ := I.cell x c hc
    refine wpAny_storeName_cell I.ok.kind hk hc z (fun h' hc' hs => ?_)
    obtain ⟨oc, hoc, hocd⟩ := id z
    refine h { s with heap := h' } ⟨I.ok, I.os, I.bare, ⟨fun b o e n hb hx => ?_, fun b o e n hb hx => ?_, I.base.free, fun b o e hx => ?_, I.base.tups, I.base.frzs, I.base.tbls⟩, ⟨m, hn.sameBut hs (Ne.symm (cne x c hc)), fun j y v' e1 e2 e3 => ?_⟩, fun y c' e => ?_, I.free, I.freeC, fun p hp => ?_, tracked ⟨oc, hoc, I.freeC x c hc⟩ hs, by simpa using I.len⟩ ⟨c, hs, .inr hc⟩
    · exact (hs.2 b (Nat.ne_of_lt (Nat.lt_of_lt_of_le (Heap.lt_size e) (I.ok.cab x c hfn hc)))).trans (I.base.keep b o e n hb hx)
    · obtain ⟨sl, e1⟩ := I.base.slot b o e n hb hx
      exact ⟨sl, (hs.2 b (Nat.ne_of_lt (Nat.lt_of_lt_of_le (Heap.lt_size e) (I.ok.cab x c hfn hc)))).trans e1⟩
    · obtain ⟨o', e1⟩ := I.base.there b o e hx
      exact ⟨o', (hs.2 b (Nat.ne_of_lt (Nat.lt_of_lt_of_le (Heap.lt_size e) (I.ok.cab x c hfn hc)))).trans e1⟩
    · by_cases hj : j = i
      · subst hj
        rw [hi] at e1; cases e1
        rw [List.getElem?_set_self hiσ] at e2
        cases e2
        exact ⟨u, r, .inr ⟨.inl hk, c, hc, hc'⟩⟩
      · rw [List.getElem?_set_ne (Ne.symm hj)] at e2
        obtain ⟨u', r', q⟩ := hl j y v' e1 e2 e3
        refine ⟨u', r', ?_⟩
        rcases q with q | ⟨k, c', e, z'⟩
        · exact .inl q
        · refine .inr ⟨k, c', e, z'.sameBut hs ?_⟩
          rintro rfl
          exact hj (Tw hN e1 (I.ok.inj _ _ _ e hc ▸ hi))
    · by_cases hcc : c' = c
      · subst hcc; exact ⟨_, hc'⟩
      · obtain ⟨w2, z2⟩ := I.cell y c' e
        exact ⟨w2, z2.sameBut hs hcc⟩
    · obtain ⟨e, n, ne, nf, d⟩ := I.pin p hp
      refine ⟨(hs.2 p.1 ?_).trans e, n, ne, nf, d⟩
      intro q
      rw [q, hoc] at e
      have q' : oc = p.2 := Option.some.inj e
      exact d w' (by rw [← q']; exact hocd)
theorem Gz {M : Model} {A : Around} {E : Value → Shared → Prop} {i : Nat} {x : Str} {v : V} {u : Value} {Q : Unit → Shared → Prop} (I : Inv X pins σ H s) (hN : X.N.Nodup) (hi : X.N[i]? = some x) (hx : Loc X.env.scope x) (r : RelV v u)
    (h : ∀ s', Inv X pins (σ.set i (some v)) H s' → Q () s') (hf : X.fn x = true ∨ X.env.scope.names.lookup x = some .local := by first | exact .inl rfl | exact .inr rfl | assumption) : wpAny M A (storeName X.env x u) Q E s :=
  Qx I hN hi hx r (fun s' I' _ => h s' I') hf
theorem Inv.call' {s' : Shared} {ch : List Addr} (I : Inv X pins σ H s) (ho : s'.os = s.os) (u : Un (frs X.stack) ch H H' s.heap s'.heap) (hok : HOk X.prog X.w H' s'.heap) (hg : AllBare s'.gens)
    (hch : ∀ b ∈ ch, (b ∈ X.ex ∨ X.s₀.heap.objs.size ≤ b) ∧ b ≠ X.env.locals ∧ (∀ x c, X.env.cells.lookup x = some c → c ≠ b) ∧ ∀ p ∈ X.pn ++ pins, p.1 ≠ b) : Inv X pins σ H' s' := by
  obtain ⟨h', g', d', t', o'⟩ := s'
  have e : o' = s.os := ho
  subst e
  exact I.call (g' := g') (t' := t') (d' := d') u hok hg hch
end
abbrev XK := Value → Option Addr → Hp → Prop
abbrev St := List (Option V)
abbrev VK := V → Hp → Prop
abbrev TE := St → Hp → VK → Prop
abbrev TT := St → Hp → (Bool → Hp → Prop) → Prop
abbrev TA := St → Hp → (List V → Hp → Prop) → Prop
structure Ends where
  nx : St → Hp → Prop
  rt : VK
  bk : St → Hp → Prop := fun _ _ => False
  ct : St → Hp → Prop := fun _ _ => False
abbrev TS := Ends → St → Hp → Prop
def EP (X : Cx) (pins : List (Addr × Obj)) (σ : St) (Q : VK) (u : Value) (s' : Shared) : Prop := ∃ v H', Inv X pins σ H' s' ∧ RelV v u ∧ Q v H'
def TP (X : Cx) (pins : List (Addr × Obj)) (σ : St) (Q : Bool → Hp → Prop) (b : Bool) (s' : Shared) : Prop := ∃ H', Inv X pins σ H' s' ∧ Q b H'
def AP (X : Cx) (pins : List (Addr × Obj)) (σ : St) (Q : List V → Hp → Prop) (us : List Value) (s' : Shared) : Prop := ∃ vs H', Inv X pins σ H' s' ∧ Vals vs us ∧ Q vs H'
def SP (X : Cx) (pins : List (Addr × Obj)) (D : Ends) (f : Flow) (s' : Shared) : Prop :=
  match f with
  | .next => ∃ σ' H', Inv X pins σ' H' s' ∧ D.nx σ' H'
  | .brk => ∃ σ' H', Inv X pins σ' H' s' ∧ D.bk σ' H'
  | .cont => ∃ σ' H', Inv X pins σ' H' s' ∧ D.ct σ' H'
  | .ret u => ∃ v σ' H', Inv X pins σ' H' s' ∧ RelV v u ∧ D.rt v H'
def PE (X : Cx) (e : Expr) (t : TE) : Prop :=
  ∀ (pins : List (Addr × Obj)) (s : Shared) (σ : St) (H : Hp) (Q : VK), Inv X pins σ H s → t σ H Q → wpAny (model X.prog X.w) X.A (eval e X.env) (EP X pins σ Q) X.xe s
def PT (X : Cx) (e : Expr) (t : TT) : Prop :=
  ∀ (pins : List (Addr × Obj)) (s : Shared) (σ : St) (H : Hp) (Q : Bool → Hp → Prop), Inv X pins σ H s → t σ H Q → wpAny (model X.prog X.w) X.A (isTrue e X.env (eval e X.env)) (TP X pins σ Q) X.xe s
def PW (X : Cx) (e : Expr) (t : TT) : Prop :=
  ∀ (whole : Sem Value) (pins : List (Addr × Obj)) (s : Shared) (σ : St) (H : Hp) (Q : Bool → Hp → Prop), Inv X pins σ H s → t σ H Q → wpAny (model X.prog X.w) X.A (isTrue e X.env whole) (TP X pins σ Q) X.xe s
theorem PW.pt {X : Cx} {e : Expr} {t : TT} (h : PW X e t) : PT X e t := h _
def PA (X : Cx) (es : List Expr) (t : TA) : Prop :=
  ∀ (pos : Pos) (pins : List (Addr × Obj)) (s : Shared) (σ : St) (H : Hp) (Q : List V → Hp → Prop), Inv X pins σ H s → t σ H Q → wpAny (model X.prog X.w) X.A (spliced (backTo pos (starEach es X.env))) (AP X pins σ Q) X.xe s
def PS (X : Cx) (st : Stmt) (t : TS) : Prop :=
  ∀ (pins : List (Addr × Obj)) (s : Shared) (σ : St) (H : Hp) (D : Ends), Inv X pins σ H s → t D σ H → wpAny (model X.prog X.w) X.A (exec st X.env) (SP X pins D) X.xe s
def PSs (X : Cx) (st : List Stmt) (t : TS) : Prop :=
  ∀ (pins : List (Addr × Obj)) (s : Shared) (σ : St) (H : Hp) (D : Ends), Inv X pins σ H s → t D σ H → wpAny (model X.prog X.w) X.A (execs st X.env) (SP X pins D) X.xe s
theorem thn {α : Type} {t : Sem α} {Q Q' : α → Shared → Prop} {M : Model} {A : Around} {E : Value → Shared → Prop} {s : Shared} (h : wpAny M A t Q E s) (hQ : ∀ a s, Q a s → Q' a s) : wpAny M A t Q' E s := wpAny_mono h hQ fun _ _ x => x
end L2
namespace L2
open PySem PySem.Spec PyProof.Rows
section
variable {X : Cx}
theorem bin {a b : Expr} {ta tb : TE} (ha : PE X a ta) (hb : PE X b tb) {pins : List (Addr × Obj)} {s : Shared} {σ : St} {H : Hp} {R : V → V → Hp → Prop} (I : Inv X pins σ H s) (h : ta σ H fun x H1 => tb σ H1 fun y H2 => R x y H2)
    {α : Type} {Q : α → Shared → Prop} {f : Value → Value → Sem α}
    (hf : ∀ v u s2 x y H2, Inv X pins σ H2 s2 → RelV x v → RelV y u → R x y H2 → wpAny (model X.prog X.w) X.A (f v u) Q X.xe s2) :
    wpAny (model X.prog X.w) X.A (eval a X.env) (fun v s₁ => wpAny (model X.prog X.w) X.A (eval b X.env) (fun u s₂ => wpAny (model X.prog X.w) X.A (f v u) Q X.xe s₂) X.xe s₁) X.xe s := by
  refine thn (ha pins s σ H _ I h) fun v s1 ⟨x, H1, I1, r1, q1⟩ => ?_
  refine thn (hb pins s1 σ H1 _ I1 q1) fun u s2 ⟨y, H2, I2, r2, q2⟩ => ?_
  exact hf v u s2 x y H2 I2 r1 r2 q2
def AjB (i : Nat) : TE := fun σ H Q => ∃ v, σ[i]? = some (some v) ∧ Q v H
def tC (v : V) : TE := fun _ H Q => Q v H
theorem K7 {i : Nat} {x : Str} {pos : Pos} (hN : X.N[i]? = some x) (hv : Vis X.env.scope x) (hd : (x == ("__debug__" : Str)) = false := by decide) (hcd : (x == ("__classdict__" : Str)) = false := by decide) : PE X (.Name x pos) (AjB i) := by
  intro pins s σ H Q I h
  obtain ⟨v, e, h⟩ := h
  obtain ⟨m, hn, hl⟩ := I.loc
  obtain ⟨u, r, l⟩ := hl i x v hN e hv
  have fin : EP X pins σ Q u s := ⟨v, H, I, r, h⟩
  rcases l with ⟨hk, hm⟩ | ⟨hk, c, hc, hcell⟩
  · exact wpAny_Name (wpAny_loadName_local I.ok.kind hk hn hm fin) hd
  · rcases hk with hk | hk
    · exact wpAny_Name (wpAny_loadName_cell I.ok.kind hk hc hcell fin) hd
    · exact wpAny_Name (wpAny_loadName_free I.ok.kind hk hc hcell fin hcd) hd
theorem Aed {i j pos} : PE X (.Constant (.int i) j pos) (tC (.int i)) := fun _ _ _ H _ I h => wpAny_Constant_int ⟨.int i, H, I.tok _, ⟨_, rfl⟩, h⟩
theorem AgP {b j pos} : PE X (.Constant (.bool b) j pos) (tC (.bl b)) := fun _ _ _ H _ I h => Constant_bool ⟨.bl b, H, I, rfl, h⟩
theorem Ad9 {x j pos} : PE X (.Constant (.str x) j pos) (tC (.str x)) := fun _ _ _ H _ I h => Calls.Constant_str ⟨.str x, H, I.tok _, ⟨_, rfl⟩, h⟩
def Gl (X : Cx) (x : Str) : Prop := X.env.kindOf x = some .globalImplicit
theorem Rj {E : Value → Shared → Prop} {pins : List (Addr × Obj)} {s : Shared} {σ : St} {H : Hp} {x : Str} {u : Value} {pos : Pos} {Q : Value → Shared → Prop} (I : Inv X pins σ H s) (hg : Gl X x) (hm : X.mg x = some u) (h : Q u s)
    (hd : (x == ("__debug__" : Str)) = false := by decide) : wpAny (model X.prog X.w) X.A (eval (.Name x pos) X.env) Q E s :=
  Calls.Name_function_global I.ok.kind hg (Calls.loadGlobal_global (by rw [I.ok.glob]; exact I.mod.glob.keeps I.bk) hm h) hd
theorem N5 {E : Value → Shared → Prop} {pins : List (Addr × Obj)} {s : Shared} {σ : St} {H : Hp} {x : Str} {u : Value} {pos : Pos} {Q : Value → Shared → Prop} (I : Inv X pins σ H s) (hg : Gl X x) (hm : X.mg x = none) (hv : bootBuiltins x = some u) (h : Q u s)
    (hn : x ≠ "__name__" := by decide) (hd : (x == ("__debug__" : Str)) = false := by decide) : wpAny (model X.prog X.w) X.A (eval (.Name x pos) X.env) Q E s := by
  obtain ⟨mb, h1, h2⟩ := I.mod.blt
  exact Calls.Name_function_global I.ok.kind hg (Calls.loadGlobal_builtin (by rw [I.ok.glob]; exact I.mod.glob.keeps I.bk) hm (by rw [I.ok.blt]; exact h1.keeps I.bk) ((h2 x hn).trans hv) h) hd
theorem Wf {x : Str} {v : V} {u : Value} {pos : Pos} (hg : Gl X x) (hm : X.mg x = some u) (r : RelV v u) (hd : (x == ("__debug__" : Str)) = false := by decide) : PE X (.Name x pos) (tC v) :=
  fun _ _ _ H _ I h => Rj I hg hm ⟨v, H, I, r, h⟩ hd
theorem Abl {x : Str} {v : V} {u : Value} {pos : Pos} (hg : Gl X x) (hm : X.mg x = none) (hv : bootBuiltins x = some u) (r : RelV v u) (hn : x ≠ "__name__" := by decide) (hd : (x == ("__debug__" : Str)) = false := by decide) : PE X (.Name x pos) (tC v) :=
  fun _ _ _ H _ I h => N5 I hg hm hv ⟨v, H, I, r, h⟩ hn hd
variable {a b : Expr} {ta tb : TE} {pos : Pos}
def PC (X : Cx) (op : CmpOp) (a b : Expr) (t : TE) : Prop :=
  ∀ (pins : List (Addr × Obj)) (s : Shared) (σ : St) (H : Hp) (Q : VK), Inv X pins σ H s → t σ H Q →
    wpAny (model X.prog X.w) X.A (eval a X.env) (fun v s₁ => wpAny (model X.prog X.w) X.A (eval b X.env) (fun u s₂ => wpAny (model X.prog X.w) X.A (compareOp op v u) (EP X pins σ Q) X.xe s₂) X.xe s₁) X.xe s
def tB (t : TE) : TT := fun σ H Q => t σ H fun x H1 => ∃ c, x = .bl c ∧ Q c H1
theorem AjL {op : CmpOp} {t : TE} (h : PC X op a b t) (h1 : behindInMarks op b = false := by first | exact nobehind _ (by decide) (by decide) | rfl) : PT X (.Compare a [op] [b] pos) (tB t) := by
  intro pins s σ H Q I hw
  refine wpAny_isTrue_Compare1 (thn (h pins s σ H _ I hw) fun v s1 h1 => thn h1 fun u s2 h2 => thn h2 fun c s3 ⟨x, H1, I1, r1, q1⟩ => ?_) h1
  obtain ⟨d, rfl, q⟩ := q1
  cases r1
  exact wpAny_truthy_bool ⟨H1, I1, q⟩
theorem AdG {e : Expr} {t : TE} (h : PE X e t) (he : ∀ whole, isTrue e X.env whole = (do let v ← whole; standAt e.pos; holding [v] (truthy v)) := by intro _; rfl) : PT X e (tB t) := by
  intro pins s σ H Q I hw
  refine isTrue_plain (thn (h pins s σ H _ I hw) fun v s1 ⟨x, H1, I1, r1, q1⟩ => ?_) (he _)
  obtain ⟨d, rfl, q⟩ := q1
  cases r1
  exact wpAny_truthy_bool ⟨H1, I1, q⟩
variable {tA tB' : TT} {rest : List Expr}
def Ajg (t u : TT) : TT := fun σ H Q => t σ H fun c H1 => if c = true then u σ H1 Q else Q false H1
def tOr (t u : TT) : TT := fun σ H Q => t σ H fun c H1 => if c = true then Q true H1 else u σ H1 Q
def Ajn (t : TT) : TT := fun σ H Q => t σ H fun c H1 => Q (!c) H1
theorem AbX (ha : PT X a tA) : PW X (.BoolOp .And [a] pos) tA := by
  intro wh pins s σ H Q I h
  refine isTrue_and (thn (ha pins s σ H Q I h) fun c s1 e => ?_)
  cases c with
  | true => exact isTrue_and_nil e
  | false => exact e
theorem Aei (ha : PT X a tA) : PW X (.BoolOp .Or [a] pos) tA := by
  intro wh pins s σ H Q I h
  refine isTrue_or (thn (ha pins s σ H Q I h) fun c s1 e => ?_)
  cases c with
  | false => exact isTrue_or_nil e
  | true => exact e
theorem Aee (ha : PT X a tA) (hb : PW X (.BoolOp .And (b :: rest) pos) tB') : PW X (.BoolOp .And (a :: b :: rest) pos) (Ajg tA tB') := by
  intro wh pins s σ H Q I h
  refine isTrue_and (thn (ha pins s σ H _ I h) fun c s1 ⟨H1, I1, q1⟩ => ?_)
  cases c with
  | true => exact hb wh pins s1 σ H1 Q I1 q1
  | false => exact ⟨H1, I1, q1⟩
theorem Agg (ha : PT X a tA) (hb : PW X (.BoolOp .Or (b :: rest) pos) tB') : PW X (.BoolOp .Or (a :: b :: rest) pos) (tOr tA tB') := by
  intro wh pins s σ H Q I h
  refine isTrue_or (thn (ha pins s σ H _ I h) fun c s1 ⟨H1, I1, q1⟩ => ?_)
  cases c with
  | true => exact ⟨H1, I1, q1⟩
  | false => exact hb wh pins s1 σ H1 Q I1 q1
theorem AdA (ha : PT X a tA) : PT X (.UnaryOp .Not a pos) (Ajn tA) := by
  intro pins s σ H Q I h
  exact isTrue_not (ha pins s σ H (fun c H1 => Q (!c) H1) I h)
def Afz (ta tb : TE) : TE := fun σ H Q => ta σ H fun x H1 => ∃ c, x = .bl c ∧ if c = true then tb σ H1 Q else Q (.bl false) H1
def AjJ (ta tb : TE) : TE := fun σ H Q => ta σ H fun x H1 => ∃ c, x = .bl c ∧ if c = true then Q (.bl true) H1 else tb σ H1 Q
def Aiy (ta : TE) : TE := fun σ H Q => ta σ H fun x H1 => ∃ c, x = .bl c ∧ Q (.bl (!c)) H1
theorem Aex {op} {t : TE} (h : PE X a t) : PE X (.BoolOp op [a] pos) t := fun pins s σ H Q I hw => BoolOp_one (h pins s σ H Q I hw)
theorem Aey (ha : PE X a ta) (hb : PE X (.BoolOp .And (b :: rest) pos) tb) : PE X (.BoolOp .And (a :: b :: rest) pos) (Afz ta tb) := by
  intro pins s σ H Q I h
  refine BoolOp_and (thn (ha pins s σ H _ I h) fun v s1 ⟨x, H1, I1, r1, q1⟩ => ?_)
  obtain ⟨c, rfl, q1⟩ := q1
  cases r1
  refine wpAny_truthy_bool ?_
  cases c with
  | true => exact hb pins s1 σ H1 Q I1 q1
  | false => exact ⟨.bl false, H1, I1, rfl, q1⟩
theorem AgA (ha : PE X a ta) (hb : PE X (.BoolOp .Or (b :: rest) pos) tb) : PE X (.BoolOp .Or (a :: b :: rest) pos) (AjJ ta tb) := by
  intro pins s σ H Q I h
  refine BoolOp_or (thn (ha pins s σ H _ I h) fun v s1 ⟨x, H1, I1, r1, q1⟩ => ?_)
  obtain ⟨c, rfl, q1⟩ := q1
  cases r1
  refine wpAny_truthy_bool ?_
  cases c with
  | false => exact hb pins s1 σ H1 Q I1 q1
  | true => exact ⟨.bl true, H1, I1, rfl, q1⟩
theorem Ad3 (ha : PE X a ta) : PE X (.UnaryOp .Not a pos) (Aiy ta) := by
  intro pins s σ H Q I h
  refine UnaryOp_ (thn (ha pins s σ H _ I h) fun v s1 ⟨x, H1, I1, r1, q1⟩ => ?_)
  obtain ⟨c, rfl, q1⟩ := q1
  cases r1
  exact not_of (wpAny_truthy_bool ⟨.bl (!c), H1, I1, rfl, q1⟩)
end
end L2
namespace L2
open PySem PySem.Spec PyProof.Rows
def SqL (K : PySem.W.Frag) (H : Hp) (a : Addr) (xs : List V) : Prop :=
  Rd H a (.lst xs) ∨
    ∃ (o : Obj) (its : Array Value) (n : Nat), K.lookup a = some o ∧ o.cls = .type "list" ∧ o.dict = none ∧ o.data = .seq its n ∧ its.size ≤ sizeLine ∧ Vals xs its.toList
def SqT (K : PySem.W.Frag) (H : Hp) (a : Addr) (xs : List V) : Prop :=
  Rd H a (.tup xs) ∨
    ∃ (o : Obj) (its : Array Value) (n : Nat), K.lookup a = some o ∧ o.cls = .type "tuple" ∧ o.data = .seq its n ∧ its.size ≤ sizeLine ∧ Vals xs its.toList
def AkI : Value → Option V
  | .none => some .non
  | .bool b => some (.bl b)
  | .int i _ => some (.int i)
  | .str x _ => some (.str x)
  | .bytes b _ => some (.byt b)
  | .float b _ => some (.flt b)
  | .ref a => some (.ref a)
  | .type n => some (.ty n)
  | _ => none
theorem RelV.abs {x : V} {u : Value} (r : RelV x u) : AkI u = some x := by
  cases x with
  | non => cases r; rfl
  | bl _ => cases r; rfl
  | int _ => obtain ⟨t, rfl⟩ := r; rfl
  | str _ => obtain ⟨t, rfl⟩ := r; rfl
  | byt _ => obtain ⟨t, rfl⟩ := r; rfl
  | flt _ => obtain ⟨t, rfl⟩ := r; rfl
  | ref _ => cases r; rfl
  | ty _ => cases r; rfl
theorem RelV.inj {x y : V} {u : Value} (r : RelV x u) (q : RelV y u) : x = y := Option.some.inj (r.abs.symm.trans q.abs)
theorem Vals.inj : ∀ {xs ys : List V} {us : List Value}, Vals xs us → Vals ys us → xs = ys
  | _, _, _, .nil, .nil => rfl
  | _, _, _, .cons r t, .cons r' t' => by rw [r.inj r', Vals.inj t t']
section
variable {X : Cx} {pins : List (Addr × Obj)} {σ : St} {H : Hp} {s : Shared} {a : Addr} {xs ys : List V}
theorem SqL.of {K : PySem.W.Frag} (h : H a = some (.lst xs)) : SqL K H a xs := .inl (.inl h)
theorem SqT.of {K : PySem.W.Frag} (h : H a = some (.tup xs)) : SqT K H a xs := .inl (.inl h)
theorem Inv.list (I : Inv X pins σ H s) (h : SqL X.K H a xs) : ∃ its : List Value, Vals xs its ∧ PlainL s.heap a its.toArray ∧ xs.length ≤ sizeLine := by
  rcases h with h | ⟨o, its, n, hk, hc, hd, hs, hz, r⟩
  · obtain ⟨z, its, n, r, e⟩ := h.ok I.hok
    exact ⟨its, r, ⟨_, n, e, rfl, rfl, rfl⟩, z⟩
  · refine ⟨its.toList, r, ⟨o, n, I.kIn a o hk, hc, hd, by simpa using hs⟩, ?_⟩
    have e := r.length
    simp only [Array.length_toList] at e
    omega
theorem Inv.tuple (I : Inv X pins σ H s) (h : SqT X.K H a xs) : ∃ its : List Value, Vals xs its ∧ IsTup s.heap a its.toArray ∧ xs.length ≤ sizeLine := by
  rcases h with h | ⟨o, its, n, hk, hc, hs, hz, r⟩
  · obtain ⟨z, its, r, p⟩ := h.ok I.hok
    exact ⟨its, r, p, z⟩
  · refine ⟨its.toList, r, ⟨o, I.kIn a o hk, hc, n, by simpa using hs⟩, ?_⟩
    have e := r.length
    simp only [Array.length_toList] at e
    omega
theorem Inv.list_inj (I : Inv X pins σ H s) (h : SqL X.K H a xs) (h' : SqL X.K H a ys) : xs = ys := by
  obtain ⟨its, r, ⟨o, n, e, _, _, d⟩, _⟩ := I.list h
  obtain ⟨its', r', ⟨o', n', e', _, _, d'⟩, _⟩ := I.list h'
  rw [e] at e'; cases e'
  rw [d] at d'
  injection d' with d1 _
  have : its = its' := by simpa using congrArg Array.toList d1
  subst this
  exact r.inj r'
theorem Inv.tuple_inj (I : Inv X pins σ H s) (h : SqT X.K H a xs) (h' : SqT X.K H a ys) : xs = ys := by
  obtain ⟨its, r, ⟨o, e, _, n, d⟩, _⟩ := I.tuple h
  obtain ⟨its', r', ⟨o', e', _, n', d'⟩, _⟩ := I.tuple h'
  rw [e] at e'; cases e'
  rw [d] at d'
  injection d' with d1 _
  have : its = its' := by simpa using congrArg Array.toList d1
  subst this
  exact r.inj r'
end
abbrev Cx.wish (X : Cx) (E : Value → Shared → Prop) : Cx := { X with xe := E }
abbrev Cx.nox (X : Cx) : Cx := X.wish fun _ _ => False
theorem Cx.Ok.wish {X : Cx} (ok : X.Ok) (E : Value → Shared → Prop) : (X.wish E).Ok :=
  ⟨ok.mod, ok.kind, ok.glob, ok.blt, ok.above, ok.inj, ok.has, ok.cab, ok.hd, ok.frames, ok.stk, ok.exf, ok.bs, ok.bsz, ok.noex, ok.exfs, ok.funs, ok.frf⟩
theorem Cx.Ok.unwish {X : Cx} {E : Value → Shared → Prop} (ok : (X.wish E).Ok) : X.Ok :=
  ⟨ok.mod, ok.kind, ok.glob, ok.blt, ok.above, ok.inj, ok.has, ok.cab, ok.hd, ok.frames, ok.stk, ok.exf, ok.bs, ok.bsz, ok.noex, ok.exfs, ok.funs, ok.frf⟩
section
variable {X : Cx} {pins : List (Addr × Obj)} {σ : St} {H : Hp} {s : Shared} {E : Value → Shared → Prop}
theorem Inv.wish (I : Inv X pins σ H s) (E : Value → Shared → Prop) : Inv (X.wish E) pins σ H s := ⟨I.ok.wish E, I.os, I.bare, I.base, I.loc, I.cell, I.free, I.freeC, I.pin, I.hok, I.len⟩
theorem Inv.unwish (I : Inv (X.wish E) pins σ H s) : Inv X pins σ H s := ⟨I.ok.unwish, I.os, I.bare, I.base, I.loc, I.cell, I.free, I.freeC, I.pin, I.hok, I.len⟩
theorem SP.unwish {D : Ends} {f : Flow} {s' : Shared} (h : SP (X.wish E) pins D f s') : SP X pins D f s' := by
  cases f with
  | next => obtain ⟨σ', H', I, q⟩ := h; exact ⟨σ', H', I.unwish, q⟩
  | brk => obtain ⟨σ', H', I, q⟩ := h; exact ⟨σ', H', I.unwish, q⟩
  | cont => obtain ⟨σ', H', I, q⟩ := h; exact ⟨σ', H', I.unwish, q⟩
  | ret u => obtain ⟨v, σ', H', I, r, q⟩ := h; exact ⟨v, σ', H', I.unwish, r, q⟩
theorem PSs.nox {st : List Stmt} {t : TS} (h : PSs X.nox st t) : PSs X st t := fun pins s σ H D I hw =>
  wpAny_mono (h pins s σ H D (I.wish _) hw) (fun _ _ q => q.unwish) fun _ _ z => False.elim z
end
section
variable {X : Cx} {st : Stmt} {rest : List Stmt} {t u : TS} {e : Expr} {te : TE} {pos : Pos}
def Agv : TS := fun D σ H => D.nx σ H
def Akv (t u : TS) : TS := fun D σ H => t { D with nx := u D } σ H
theorem Aan : PSs X [] Agv := fun _ _ σ H _ I h => wpAny_execs_nil ⟨σ, H, I, h⟩
theorem O2 (h1 : PS X st t) (h2 : PSs X rest u) : PSs X (st :: rest) (Akv t u) := by
  intro pins s σ H D I h
  refine wpAny_execs_cons (thn (h1 pins s σ H { D with nx := u D } I h) fun f s1 q => ?_)
  cases f with
  | next =>
    obtain ⟨σ', H', I', q⟩ := q
    exact h2 pins s1 σ' H' D I' q
  | ret v => exact q
  | brk => exact q
  | cont => exact q
theorem RP (h1 : PS X st t) : PSs X [st] t := by
  intro pins s σ H D I h
  refine wpAny_execs_cons (thn (h1 pins s σ H D I h) fun f s1 q => ?_)
  cases f with
  | next => exact wpAny_execs_nil q
  | ret v => exact q
  | brk => exact q
  | cont => exact q
theorem Inv.quiet {pins : List (Addr × Obj)} {σ : St} {H : Hp} {s : Shared} (I : Inv X pins σ H s) : interactive X.env = false := by simp [interactive, I.ok.kind]
def Afx (te : TE) : TS := fun D σ H => te σ H fun _ H1 => D.nx σ H1
theorem Rx (he : PE X e te) (hs : swapsWith e none pos.line X.env = pure false := by rfl) : PS X (.Expr e pos) (Afx te) := by
  intro pins s σ H D I h
  exact wpAny_Expr_any (thn (he pins s σ H _ I h) fun v s1 ⟨x, H1, I1, r1, q1⟩ => ⟨σ, H1, I1, q1⟩) I.quiet hs
def Ai0 (te : TE) : TS := fun D σ H => te σ H D.rt
theorem AeU (he : PE X e te) : PS X (.Return (some e) pos) (Ai0 te) := by
  intro pins s σ H D I h
  exact wpAny_Return_some (thn (he pins s σ H _ I h) fun v s1 ⟨x, H1, I1, r1, q1⟩ => ⟨x, σ, H1, I1, r1, q1⟩)
def AkB (c : TT) (t u : TS) : TS := fun D σ H => c σ H fun b H1 => if b = true then t D σ H1 else u D σ H1
theorem AgB {c : Expr} {a b : List Stmt} {tc : TT} (hc : PT X c tc) (ha : PSs X a t) (hb : PSs X b u) : PS X (.If c a b pos) (AkB tc t u) := by
  intro pins s σ H D I h
  refine wpAny_If (thn (hc pins s σ H _ I h) fun d s1 ⟨H1, I1, q1⟩ => ?_)
  cases d with
  | true => exact ha pins s1 σ H1 D I1 q1
  | false => exact hb pins s1 σ H1 D I1 q1
def Aeq : TS := fun _ _ _ => False
theorem ZD : PS X st Aeq := fun _ _ _ _ _ _ h => h.elim
end
abbrev TG := V → St → Hp → (St → Hp → Prop) → Prop
abbrev TGs := List V → St → Hp → (St → Hp → Prop) → Prop
def PG (X : Cx) (target : Expr) (t : TG) : Prop :=
  ∀ (pins : List (Addr × Obj)) (s : Shared) (σ : St) (H : Hp) (v : V) (u : Value) (Q : St → Hp → Prop), Inv X pins σ H s → RelV v u → t v σ H Q →
    wpAny (model X.prog X.w) X.A (assign target X.env u) (fun _ s' => ∃ σ' H', Inv X pins σ' H' s' ∧ Q σ' H') X.xe s
def PGs (X : Cx) (ts : List Expr) (t : TGs) : Prop :=
  ∀ (pins : List (Addr × Obj)) (s : Shared) (σ : St) (H : Hp) (vs : List V) (us : List Value) (Q : St → Hp → Prop), Inv X pins σ H s → Vals vs us → t vs σ H Q →
    wpAny (model X.prog X.w) X.A (assignInOrder ((assignEach ts X.env).map (·.2)) us) (fun _ s' => ∃ σ' H', Inv X pins σ' H' s' ∧ Q σ' H') X.xe s
section
variable {X : Cx} {pos : Pos}
def Wb (i : Nat) : TG := fun v σ H Q => Q (σ.set i (some v)) H
theorem Rf {i : Nat} {x : Str} (hN : X.N.Nodup) (hi : X.N[i]? = some x) (hx : Loc X.env.scope x) (hf : X.fn x = true ∨ X.env.scope.names.lookup x = some .local := by first | exact .inl rfl | exact .inr rfl | assumption) : PG X (.Name x pos) (Wb i) := by
  intro pins s σ H v u Q I r h
  exact wpAny_assign_Name (Gz I hN hi hx r (fun s' I' => ⟨_, H, I', h⟩) hf)
def Aky : TGs := fun vs σ H Q => vs = [] ∧ Q σ H
def Ain (t : TG) (u : TGs) : TGs := fun vs σ H Q => ∃ v r, vs = v :: r ∧ t v σ H fun σ' H' => u r σ' H' Q
theorem Acf : PGs X [] Aky := by
  intro pins s σ H vs us Q I r h
  obtain ⟨e, h⟩ := h
  subst e
  cases r
  exact assignInOrder_nil ⟨σ, H, I, h⟩
theorem YW {e : Expr} {es : List Expr} {t : TG} {u : TGs} (h1 : PG X e t) (h2 : PGs X es u)
    (hs : (assignEach (e :: es) X.env).map (·.2) = assign e X.env :: (assignEach es X.env).map (·.2) := by rfl) : PGs X (e :: es) (Ain t u) := by
  intro pins s σ H vs us Q I r h
  obtain ⟨v, vr, e1, h⟩ := h
  subst e1
  cases r with
  | cons r rr =>
    rw [hs]
    refine assignInOrder_cons (thn (h1 pins s σ H _ _ _ I r h) fun _ s1 ⟨σ1, H1, I1, q1⟩ => ?_)
    exact h2 pins s1 σ1 H1 _ _ Q I1 rr q1
def Akw (K : PySem.W.Frag) (n : Nat) (t : TGs) : TG := fun v σ H Q => ∃ a xs, v = .ref a ∧ SqT K H a xs ∧ xs.length = n ∧ t xs σ H Q
theorem AeB {es : List Expr} {k : Nat} {t : TGs} {n : Nat} (hc : X.calm = true) (h : PGs X es t)
    (hn : (assignEach es X.env).length = n := by rfl) (hst : (assignEach es X.env).findIdx? (·.1) = none := by rfl) : PG X (.Tuple es k pos) (Akw X.K n t) := by
  intro pins s σ H v u Q I r hw
  obtain ⟨a, xs, e1, hq, hl, hw⟩ := hw
  subst e1
  cases r
  obtain ⟨its, rv, ht, hz⟩ := I.tuple hq
  refine assign_Tuple_tuple (I.ok.hd hc) ht (by simp [hn, ← hl, rv.length]) hst fun h' hx => ?_
  have I1 : Inv X pins σ H { s with heap := h' } := I.kept (t' := s.toks) fun b o e => hx b o (Nat.ne_of_lt (Heap.lt_size e)) e
  exact h pins _ σ H xs _ Q I1 (by simpa using rv) hw
def Aim (te : TE) (g : TG) : TS := fun D σ H => te σ H fun x H1 => g x σ H1 D.nx
theorem Ae0 {tg e : Expr} {te : TE} {g : TG} (he : PE X e te) (hg : PG X tg g) (hs : swapsWithSole [tg] e pos.line X.env = pure false := by rfl) (hw : swappedStores [tg] e X.env = pure none := by rfl)
    (h1 : (assignEach [tg] X.env).map (·.2) = [assign tg X.env] := by rfl) : PS X (.Assign [tg] e pos) (Aim te g) := by
  intro pins s σ H D I h
  refine wpAny_Assign_stores (thn (he pins s σ H _ I h) fun v s1 ⟨x, H1, I1, r1, q1⟩ => ?_) hs hw
  rw [h1]
  exact thn (hg pins s1 σ H1 x v _ I1 r1 q1) fun _ s2 q => q
theorem YT {i : Nat} {x : Str} {e : Expr} {te : TE} {pos' : Pos} (hN : X.N.Nodup) (hi : X.N[i]? = some x) (hx : Loc X.env.scope x) (he : PE X e te) (hs : swapsWith e (some (.Name x pos')) pos.line X.env = pure false := by rfl) (hf : X.fn x = true ∨ X.env.scope.names.lookup x = some .local := by first | exact .inl rfl | exact .inr rfl | assumption) :
    PS X (.Assign [.Name x pos'] e pos) (Aim te (Wb i)) := by
  intro pins s σ H D I h
  refine wpAny_Assign_Name (thn (he pins s σ H _ I h) fun v s1 ⟨y, H1, I1, r1, q1⟩ => ?_) hs
  exact Gz I1 hN hi hx r1 (fun s2 I2 => ⟨_, H1, I2, q1⟩) hf
def Aki (i j : Nat) (ta : TA) : TS := fun D σ H => ta σ H fun vs H1 => ∃ v w, vs = [v, w] ∧ D.nx ((σ.set i (some v)).set j (some w)) H1
theorem AeL {i j : Nat} {x y : Str} {a b : Expr} {ta : TA} {px py pt : Pos} {kt k2 pt2} (hc : X.calm = true) (hN : X.N.Nodup) (hi : X.N[i]? = some x) (hj : X.N[j]? = some y) (hij : i ≠ j)
    (hx : X.env.scope.names.lookup x = some .local) (hy : X.env.scope.names.lookup y = some .local) (ha : PA X [a, b] ta)
    (hw : swappedStores [.Tuple [.Name x px, .Name y py] kt pt] (.Tuple [a, b] k2 pt2) X.env = pure (some [x, y]))
    (hs : swapsWithSole [.Tuple [.Name x px, .Name y py] kt pt] (.Tuple [a, b] k2 pt2) pos.line X.env = pure false := by rfl) :
    PS X (.Assign [.Tuple [.Name x px, .Name y py] kt pt] (.Tuple [a, b] k2 pt2) pos) (Aki i j ta) := by
  intro pins s σ H D I h
  rw [exec_Assign_arm]
  refine wpAny_bind (wpAny_standAt ?_)
  rw [hs]
  refine wpAny_bind (wpAny_pure ?_)
  rw [if_neg (by decide)]
  refine wpAny_bind (Tuple_ (thn (ha _ pins s σ H _ I h) fun us s1 ⟨vs, H1, I1, r1, q1⟩ => ?_))
  obtain ⟨v, w, e1, q1⟩ := q1
  subst e1
  obtain ⟨u1, u2, rfl, rv, rw'⟩ : ∃ u1 u2, us = [u1, u2] ∧ RelV v u1 ∧ RelV w u2 := by
    cases r1 with
    | cons p q =>
      cases q with
      | cons p' q' =>
        cases q'
        exact ⟨_, _, rfl, p, p'⟩
  refine wpAny_newObj_type ?_ (by show 2 ≤ sizeLine; decide)
  have I2 : Inv X pins σ H1 { s1 with heap := s1.heap.push { cls := .type "tuple", data := .seq [u1, u2].toArray } } := I1.kept (t' := s1.toks) fun b o e => Heap.get?_push_of_some _ e
  rw [hw]
  refine wpAny_bind (wpAny_pure ?_)
  show wpAny (model X.prog X.w) X.A (do rule "assign.swapped-stores"; let items ← unpackItems (.ref s1.heap.objs.size) 2 none; assignInOrder [fun v => bindName X.env y v, fun v => bindName X.env x v] items.reverse; pure Flow.next) _ _ _
  refine wpAny_bind (wpAny_rule (wpAny_bind (unpackItems_tuple (items := #[u1, u2]) (I.ok.hd hc) (IsTup.new s1.heap _) fun h' hx' => ?_)))
  have I3 := I2.kept (h' := h') (t' := s1.toks) fun b o e => hx' b o (Nat.ne_of_lt (Heap.lt_size e)) e
  show wpAny _ _ (assignInOrder [fun v => bindName X.env y v, fun v => bindName X.env x v] [u2, u1] >>= fun _ => pure Flow.next) _ _ _
  refine wpAny_bind (assignInOrder_cons (wpAny_bindName (Gz I3 hN hj (.inl hy) rw' (fun s2 I4 => ?_) (.inr hy))))
  refine assignInOrder_cons (wpAny_bindName (Gz I4 hN hi (.inl hx) rv (fun s3 I5 => assignInOrder_nil (wpAny_pure ?_)) (.inr hx)))
  rw [List.set_comm _ _ (Ne.symm hij)] at I5
  exact ⟨_, H1, I5, q1⟩
end
section
variable {X : Cx} {pos : Pos}
def Aec (c : TT) (tb : TS) : TS := fun D σ H => ∃ W : Nat → St → Hp → Prop, (∃ m, W m σ H) ∧ ∀ m σ H, W m σ H →
  c σ H fun b H1 => if b = true then ∃ N : St → Hp → Prop, (∀ σ' H', N σ' H' → ∃ m', m' < m ∧ W m' σ' H') ∧ tb { D with nx := N, ct := N, bk := D.nx } σ H1 else D.nx σ H1
theorem Aae {c : Expr} {body : List Stmt} {tc : TT} {tb : TS} (hp : PassesOwn (model X.prog X.w) X.A X.env X.xe) (hc : PT X c tc) (hb : PSs X body tb) : PS X (.While c body [] pos) (Aec tc tb) := by
  intro pins s σ H D I h
  obtain ⟨W, ⟨m0, w0⟩, turn⟩ := h
  refine wpAny_While (codeAny_whileLoop (fun n s' => ∃ σ' H', Inv X pins σ' H' s' ∧ W n σ' H') ?_ m0 ⟨σ, H, I, w0⟩)
  rintro n s1 ⟨σ1, H1, I1, w1⟩
  refine wpAny_passesOwn hp (thn (hc pins s1 σ1 H1 _ I1 (turn n σ1 H1 w1)) fun b s2 ⟨H2, I2, q2⟩ => ?_)
  cases b with
  | true =>
    obtain ⟨N, hN, q2⟩ := q2
    rw [if_pos rfl]
    refine wpAny_passesOwn hp (thn (hb pins s2 σ1 H2 _ I2 q2) fun f s3 q3 => ?_)
    cases f with
    | next =>
      obtain ⟨σ3, H3, I3, n3⟩ := q3
      obtain ⟨m', hm, w3⟩ := hN σ3 H3 n3
      exact ⟨m', hm, σ3, H3, I3, w3⟩
    | cont =>
      obtain ⟨σ3, H3, I3, n3⟩ := q3
      obtain ⟨m', hm, w3⟩ := hN σ3 H3 n3
      exact ⟨m', hm, σ3, H3, I3, w3⟩
    | brk => exact q3
    | ret v => exact q3
  | false =>
    rw [if_neg Bool.false_ne_true]
    exact wpAny_execs_nil ⟨σ1, H2, I2, q2⟩
end
structure It where
  go : Nat → Hp → Prop
  yld : Nat → Hp → V → Hp → Prop
  stop : Nat → Hp → Prop
def Kp (X : Cx) (pins : List (Addr × Obj)) (H : Hp) (b : Addr) : Prop :=
  H b = none ∧ b ≠ X.env.locals ∧ b ∉ X.fs ∧ (b ∈ X.ex ∨ X.s₀.heap.objs.size ≤ b) ∧ (∀ x c, X.env.cells.lookup x = some c → c ≠ b) ∧ ∀ p ∈ X.pn ++ pins, p.1 ≠ b
theorem Inv.fpOk {X : Cx} {pins : List (Addr × Obj)} {σ : St} {H H' : Hp} {s : Shared} {b : Addr} (I : Inv X pins σ H s) (hb : s.heap.objs.size ≤ b) (hn : H' b = none) : Kp X pins H' b := by
  refine ⟨hn, Nat.ne_of_gt (Nat.lt_of_lt_of_le I.lt hb), I.nofs hb, .inr (Nat.le_trans I.sz hb), fun x c e z => ?_, fun p hp z => ?_⟩
  · obtain ⟨v, q⟩ := I.cell x c e
    exact absurd (Nat.lt_of_lt_of_le q.lt (by rw [z]; exact hb)) (Nat.lt_irrefl _)
  · exact absurd (Nat.lt_of_lt_of_le (Heap.lt_size (I.pin p hp).1) (by rw [z]; exact hb)) (Nat.lt_irrefl _)
structure Turn (P : Program) (w : World) (K : PySem.W.Frag) (tg : Expr) (J : It) (fp : List Addr) (it : Addr) (tn : Nat → Heap → Prop) : Prop where
  mem : it ∈ fp
  obj : ∀ i h, tn i h → ∀ b ∈ fp, ∃ o, h.get? b = some o ∧ ∀ v, o.data ≠ .cell v
  keep : ∀ i h h', tn i h → (∀ b ∈ fp, ∀ o, h.get? b = some o → h'.get? b = some o) → tn i h'
  item : ∀ (X : Cx), X.prog = P → X.w = w → X.K = K → X.calm = true → ∀ (i : Nat) (pins : List (Addr × Obj)) (s : Shared) (σ : St) (H : Hp) (E : Value → Shared → Prop), Inv X pins σ H s → (∀ b ∈ fp, Kp X pins H b) → tn i s.heap → J.go i H →
    wpAny (model P w) X.A (pyNext (.ref it)) (fun r s1 => ∃ u, r = some u ∧
      wpAny (model P w) X.A (letOwnedTupleGo tg (.ref it) u) (fun _ s2 => ∃ x H', Inv X pins σ H' s2 ∧ RelV x u ∧ J.yld i H x H' ∧ tn (i + 1) s2.heap ∧ ∀ b ∈ fp, H' b = none) E s1) E s
  done : ∀ (X : Cx), X.prog = P → X.w = w → X.K = K → X.calm = true → ∀ (i : Nat) (pins : List (Addr × Obj)) (s : Shared) (σ : St) (H : Hp) (E : Value → Shared → Prop), Inv X pins σ H s → (∀ b ∈ fp, Kp X pins H b) → tn i s.heap → J.stop i H →
    wpAny (model P w) X.A (pyNext (.ref it)) (fun r s1 => r = none ∧ Inv X pins σ H s1) E s
  self : ∀ (A : Around) (i : Nat) (s : Shared) (Q : Value → Shared → Prop) (E : Value → Shared → Prop), tn i s.heap → Q (.ref it) s → wpAny (model P w) A (pyIter (.ref it)) Q E s
abbrev TI := St → Hp → (It → Hp → Prop) → Prop
def PIE (X : Cx) (pins : List (Addr × Obj)) (σ : St) (tg : Expr) (R : It → Hp → Prop) (itv : Value) (s2 : Shared) : Prop :=
  ∃ (it : Addr) (fp : List Addr) (tn : Nat → Heap → Prop) (J : It) (H' : Hp), itv = .ref it ∧ Inv X pins σ H' s2 ∧ Turn X.prog X.w X.K tg J fp it tn ∧ tn 0 s2.heap ∧ (∀ b ∈ fp, Kp X pins H' b) ∧ R J H'
def PI (X : Cx) (tg iter : Expr) (wi : TI) : Prop :=
  ∀ (pins : List (Addr × Obj)) (s : Shared) (σ : St) (H : Hp) (R : It → Hp → Prop), Inv X pins σ H s → wi σ H R →
    wpAny (model X.prog X.w) X.A (eval iter X.env) (fun v s1 => wpAny (model X.prog X.w) X.A (pyIter v) (PIE X pins σ tg R) X.xe s1) X.xe s
theorem Z6 {M : Model} {A : Around} {E : Value → Shared → Prop} {s : Shared} {tg : Expr} {it : Addr} {u : Value} {o : Obj} {n : String} {vs : Array Value} {Q : Unit → Shared → Prop} (ho : s.heap.get? it = some o) (hc : o.cls = .type n) (hd : o.data = .fields vs)
    (hn : ["enumerate", "zip", "dict_itemiterator", "dict_reverseitemiterator", "odict_iterator", "itertools.zip_longest", "itertools.pairwise"].contains n = false) (hQ : Q () s) : wpAny M A (letOwnedTupleGo tg (.ref it) u) Q E s := by
  unfold letOwnedTupleGo
  cases tg <;> first
    | exact wpAny_pure hQ
    | (cases u <;> first
        | exact wpAny_pure hQ
        | (refine wpAny_bind (wpAny_load ho ?_)
           rw [hc, hd]
           show wpAny M A (if (["enumerate", "zip", "dict_itemiterator", "dict_reverseitemiterator", "odict_iterator", "itertools.zip_longest", "itertools.pairwise"].contains n && vs[0]? == some (rawInt _)) = true then _ else _) Q E s
           rw [if_neg (by intro h; rw [hn, Bool.false_and] at h; cases h)]
           exact wpAny_pure hQ))
def Itl (K : PySem.W.Frag) (a : Addr) : It :=
  ⟨fun i H => ∃ xs x, SqL K H a xs ∧ xs[i]? = some x, fun i H x H' => H' = H ∧ ∀ xs, SqL K H a xs → xs[i]? = some x, fun i H => ∃ xs, SqL K H a xs ∧ xs.length ≤ i⟩
def Itt (K : PySem.W.Frag) (a : Addr) : It :=
  ⟨fun i H => ∃ xs x, SqT K H a xs ∧ xs[i]? = some x, fun i H x H' => H' = H ∧ ∀ xs, SqT K H a xs → xs[i]? = some x, fun i H => ∃ xs, SqT K H a xs ∧ xs.length ≤ i⟩
def Itr (lo : Int) (n : Nat) : It := ⟨fun i _ => i < n, fun i H x H' => H' = H ∧ x = .int (lo + i), fun i _ => n ≤ i⟩
theorem W3 {P : Program} {w : World} {K : PySem.W.Frag} {tg : Expr} (a it : Addr) : Turn P w K tg (Itl K a) [it] it (fun i h => h.IsListIter it a i) where
  mem := by simp
  obj := fun i h st b hb => by
    have e : b = it := by simpa using hb
    subst e
    obtain ⟨o, e, c, d⟩ := st
    exact ⟨o, e, fun v z => by rw [d] at z; cases z⟩
  keep := fun i h h' st k => st.at fun o e => k it (by simp) o e
  item := by
    intro X hP hw hK hc i pins s σ H E I hf st hg
    subst hP hw hK
    obtain ⟨xs, x, hq, hx⟩ := hg
    obtain ⟨its, rv, p, hz⟩ := I.list hq
    obtain ⟨u, hu, ru⟩ := rv.get hx
    obtain ⟨f0, f1, f2, f3, f4, f5⟩ := hf it (by simp)
    refine wpAny_pyNext_list_item st p.isList (x := u) (by simpa using hu) fun h' st' sb => ?_
    have I1 : Inv X pins σ H { s with heap := h' } := I.turned (t' := s.toks) (fun b o hb e => (sb.2 b hb).trans e) f0 f1 f3 f4 f5
    obtain ⟨o, e, c, d⟩ := id st'
    exact ⟨u, rfl, Z6 (s := { s with heap := h' }) e c d (by decide) ⟨x, H, I1, ru, ⟨rfl, fun ys hy => by rw [I.list_inj hy hq]; exact hx⟩, st', fun b hb => (hf b hb).1⟩⟩
  done := by
    intro X hP hw hK hc i pins s σ H E I hf st hg
    subst hP hw hK
    obtain ⟨xs, hq, hx⟩ := hg
    obtain ⟨its, rv, p, hz⟩ := I.list hq
    obtain ⟨f0, f1, f2, f3, f4, f5⟩ := hf it (by simp)
    have hl := rv.length
    exact wpAny_pyNext_list_end (I.ok.hd hc) st p.isList (by simp; omega) fun h' eb => ⟨rfl, I.turned (t' := s.toks) (fun b o hb e => eb b o hb e) f0 f1 f3 f4 f5⟩
  self := fun _ _ _ _ _ st h => wpAny_pyIter_listiter st h
theorem Vz {P : Program} {w : World} {K : PySem.W.Frag} {tg : Expr} (a it : Addr) : Turn P w K tg (Itt K a) [it] it (fun i h => h.IsTupleIter it a i) where
  mem := by simp
  obj := fun i h st b hb => by
    have e : b = it := by simpa using hb
    subst e
    obtain ⟨o, e, c, d⟩ := st
    exact ⟨o, e, fun v z => by rw [d] at z; cases z⟩
  keep := fun i h h' st k => st.at fun o e => k it (by simp) o e
  item := by
    intro X hP hw hK hc i pins s σ H E I hf st hg
    subst hP hw hK
    obtain ⟨xs, x, hq, hx⟩ := hg
    obtain ⟨its, rv, p, hz⟩ := I.tuple hq
    obtain ⟨u, hu, ru⟩ := rv.get hx
    obtain ⟨f0, f1, f2, f3, f4, f5⟩ := hf it (by simp)
    refine wpAny_pyNext_tuple_item st (show s.heap.IsTuple a its.toArray from p) (x := u) (by simpa using hu) fun h' st' sb => ?_
    have I1 : Inv X pins σ H { s with heap := h' } := I.turned (t' := s.toks) (fun b o hb e => (sb.2 b hb).trans e) f0 f1 f3 f4 f5
    obtain ⟨o, e, c, d⟩ := id st'
    exact ⟨u, rfl, Z6 (s := { s with heap := h' }) e c d (by decide) ⟨x, H, I1, ru, ⟨rfl, fun ys hy => by rw [I.tuple_inj hy hq]; exact hx⟩, st', fun b hb => (hf b hb).1⟩⟩
  done := by
    intro X hP hw hK hc i pins s σ H E I hf st hg
    subst hP hw hK
    obtain ⟨xs, hq, hx⟩ := hg
    obtain ⟨its, rv, p, hz⟩ := I.tuple hq
    obtain ⟨f0, f1, f2, f3, f4, f5⟩ := hf it (by simp)
    have hl := rv.length
    exact wpAny_pyNext_tuple_end (I.ok.hd hc) st (show s.heap.IsTuple a its.toArray from p) (by simp; omega) fun h' eb => ⟨rfl, I.turned (t' := s.toks) (fun b o hb e => eb b o hb e) f0 f1 f3 f4 f5⟩
  self := fun _ _ _ _ _ st h => wpAny_pyIter_tupleiter st h
theorem Vc {P : Program} {w : World} {K : PySem.W.Frag} {tg : Expr} (it : Addr) (lo : Int) (n : Nat) : Turn P w K tg (Itr lo n) [it] it (fun i h => IsRangeIter h it (lo + (i : Nat) * 1) ((n : Int) - (i : Nat)) 1) where
  mem := by simp
  obj := fun i h st b hb => by
    have e : b = it := by simpa using hb
    subst e
    exact ⟨_, st, fun v z => by
      have z' : Data.fields _ = Data.cell v := z
      cases z'⟩
  keep := fun i h h' st k => k it (by simp) _ st
  item := by
    intro X hP hw hK hc i pins s σ H E I hf st hg
    subst hP hw hK
    obtain ⟨f0, f1, f2, f3, f4, f5⟩ := hf it (by simp)
    have W := Walks.range (prog := X.prog) (w := X.w) (I.ok.hd hc) it lo 1 n
    refine W.item i s _ _ hg st fun v h' tk hv st' kk => ?_
    obtain ⟨t, rfl⟩ := hv
    have I1 : Inv X pins σ H { s with heap := h', toks := tk } := I.turned (fun b o hb e => kk b o (by simpa using hb) e) f0 f1 f3 f4 f5
    refine ⟨_, rfl, Z6 (s := { s with heap := h', toks := tk }) (n := "range_iterator") st' rfl rfl (by decide) ⟨.int (lo + i), H, I1, ⟨t, ?_⟩, ⟨rfl, rfl⟩, st', fun b hb => (hf b hb).1⟩⟩
    rw [Int.mul_one]
  done := by
    intro X hP hw hK hc i pins s σ H E I hf st hg
    subst hP hw hK
    obtain ⟨f0, f1, f2, f3, f4, f5⟩ := hf it (by simp)
    exact wpAny_pyNext_range_end (I.ok.hd hc) st (by have : n ≤ i := hg; omega) fun h' eb => ⟨rfl, I.turned (t' := s.toks) (fun b o hb e => eb b o hb e) f0 f1 f3 f4 f5⟩
  self := fun _ _ _ _ _ st h => wpAny_pyIter_rangeiter st h
end L2
namespace L2
open PySem PySem.Spec PyProof.Rows
section
variable {X : Cx} {tg : Expr}
def Af0 (K : PySem.W.Frag) (tl : TE) : TI := fun σ H R => tl σ H fun x H1 => ∃ a, x = .ref a ∧ (∃ xs, SqL K H1 a xs) ∧ R (Itl K a) H1
def Ai2 (K : PySem.W.Frag) (tl : TE) : TI := fun σ H R => tl σ H fun x H1 => ∃ a, x = .ref a ∧ (∃ xs, SqT K H1 a xs) ∧ R (Itt K a) H1
theorem Aa5 {l : Expr} {tl : TE} (hl : PE X l tl) : PI X tg l (Af0 X.K tl) := by
  intro pins s σ H R I h
  refine thn (hl pins s σ H _ I h) fun v s1 ⟨x, H1, I1, r1, q1⟩ => ?_
  obtain ⟨a, e, ⟨xs, hq⟩, q⟩ := q1
  subst e
  cases r1
  obtain ⟨its, rv, p, hz⟩ := I1.list hq
  refine wpAny_pyIter_list p.isList ?_
  refine ⟨s1.heap.objs.size, [s1.heap.objs.size], _, _, H1, rfl, I1.kept (t' := s1.toks) fun b o e => Heap.get?_push_of_some _ e, W3 a _, ⟨_, Heap.get?_push_size _ rfl, rfl, rfl⟩, fun b hb => ?_, q⟩
  have e : b = s1.heap.objs.size := by simpa using hb
  subst e
  exact I1.fpOk (Nat.le_refl _) (I1.hok.fresh (Nat.le_refl _))
theorem AdJ {l : Expr} {tl : TE} (hl : PE X l tl) : PI X tg l (Ai2 X.K tl) := by
  intro pins s σ H R I h
  refine thn (hl pins s σ H _ I h) fun v s1 ⟨x, H1, I1, r1, q1⟩ => ?_
  obtain ⟨a, e, ⟨xs, hq⟩, q⟩ := q1
  subst e
  cases r1
  obtain ⟨its, rv, p, hz⟩ := I1.tuple hq
  refine wpAny_pyIter_tuple (show s1.heap.IsTuple a its.toArray from p) ?_
  refine ⟨s1.heap.objs.size, [s1.heap.objs.size], _, _, H1, rfl, I1.kept (t' := s1.toks) fun b o e => Heap.get?_push_of_some _ e, Vz a _, ⟨_, Heap.get?_push_size _ rfl, rfl, rfl⟩, fun b hb => ?_, q⟩
  have e : b = s1.heap.objs.size := by simpa using hb
  subst e
  exact I1.fpOk (Nat.le_refl _) (I1.hok.fresh (Nat.le_refl _))
theorem Ym {pins : List (Addr × Obj)} {σ : St} {H : Hp} {s : Shared} {R : It → Hp → Prop} {E : Value → Shared → Prop} {lo hi : Int} {t u v : Tok} {tk : Nat} (I : Inv X pins σ H s) (h1 : -(2 ^ 62) ≤ lo) (h2 : lo < 2 ^ 62) (h3 : -(2 ^ 62) ≤ hi) (h4 : hi < 2 ^ 62)
    (q : R (Itr lo (hi - lo).toNat) H) : wpAny (model X.prog X.w) X.A (pyIter (.ref s.heap.objs.size)) (PIE X pins σ tg R) E { s with heap := s.heap.push { cls := .type "range", data := .fields #[.int lo t, .int hi u, .int 1 v] }, toks := tk } := by
  refine wpAny_pyIter_range (IsRange.new ..) (small_one h1 h2 h3 h4) ?_
  have I1 : Inv X pins σ H { s with heap := s.heap.push { cls := .type "range", data := .fields #[.int lo t, .int hi u, .int 1 v] }, toks := tk } := I.kept fun b o e => Heap.get?_push_of_some _ e
  refine ⟨(s.heap.push { cls := .type "range", data := .fields #[.int lo t, .int hi u, .int 1 v] }).objs.size, [(s.heap.push { cls := .type "range", data := .fields #[.int lo t, .int hi u, .int 1 v] }).objs.size], _, _, H, rfl,
    I1.kept (t' := tk) fun b o e => Heap.get?_push_of_some _ e, Vc _ lo (hi - lo).toNat, ?_, fun b hb => ?_, q⟩
  · have e1 : lo + ((0 : Nat) : Int) * 1 = lo := by simp
    have e2 : (((hi - lo).toNat : Nat) : Int) - ((0 : Nat) : Int) = Builtin.Range.rangeSize lo hi 1 := by rw [rangeSize_one]; split <;> omega
    show IsRangeIter _ _ (lo + ((0 : Nat) : Int) * 1) ((((hi - lo).toNat : Nat) : Int) - ((0 : Nat) : Int)) 1
    rw [e1, e2]
    exact Heap.get?_push_size _ rfl
  · have e : b = (s.heap.push { cls := .type "range", data := .fields #[.int lo t, .int hi u, .int 1 v] }).objs.size := by simpa using hb
    subst e
    exact I1.fpOk (Nat.le_refl _) (I1.hok.fresh (Nat.le_refl _))
def AhQ (ta : TA) : TI := fun σ H R => ta σ H fun vs H1 => ∃ j : Int, vs = [.int j] ∧ -(2 ^ 62) ≤ j ∧ j < 2 ^ 62 ∧ R (Itr 0 j.toNat) H1
theorem Xj {a : Expr} {ta : TA} {p pos : Pos} (hg : Gl X "range") (hm : X.mg "range" = none) (ha : PA X [a] ta) (hs : starEach [a] X.env = [(false, eval a X.env)] := by rfl) : PI X tg (.Call (.Name "range" p) [a] [] pos) (AhQ ta) := by
  intro pins s σ H R I h
  refine Call_ (N5 I hg hm boot_range (PyProof.Rows.callWith_type1 (thn (ha pos pins s σ H _ I h) fun us s1 ⟨vs, H1, I1, r1, q1⟩ => ?_) hs rfl))
  obtain ⟨j, e, q1, q2, q⟩ := q1
  subst e
  cases r1 with
  | cons r rr =>
    cases rr
    obtain ⟨t, rfl⟩ := r
    exact call_range_1 (Ym I1 (by omega) (by omega) q1 q2 (by simpa using q))
def Ako (wi : TI) (g : TG) (tb : TS) : TS := fun D σ H => wi σ H fun J H1 => ∃ W : Nat → Nat → St → Hp → Prop, (∃ m, W 0 m σ H1) ∧ ∀ i m σ H, W i m σ H →
  (J.stop i H ∧ D.nx σ H) ∨ (J.go i H ∧ ∃ N : St → Hp → Prop, (∀ σ' H', N σ' H' → ∃ m', m' < m ∧ W (i + 1) m' σ' H') ∧ ∀ x H', J.yld i H x H' → g x σ H' fun σ2 H2 => tb { D with nx := N, ct := N, bk := D.nx } σ2 H2)
def Ly (fp : List Addr) (h : Heap) : List (Addr × Obj) := fp.filterMap fun b => (h.get? b).map fun o => (b, o)
theorem Fq {fp : List Addr} {h : Heap} {b : Addr} {o : Obj} (hb : b ∈ fp) (e : h.get? b = some o) : (b, o) ∈ Ly fp h := List.mem_filterMap.mpr ⟨b, hb, by rw [e]; rfl⟩
theorem XF {fp : List Addr} {h : Heap} {p : Addr × Obj} (hp : p ∈ Ly fp h) : p.1 ∈ fp ∧ h.get? p.1 = some p.2 := by
  obtain ⟨b, hb, e⟩ := List.mem_filterMap.mp hp
  cases q : h.get? b with
  | none => rw [q] at e; cases e
  | some o =>
    rw [q] at e
    have e' : (b, o) = p := Option.some.inj e
    subst e'
    exact ⟨hb, q⟩
theorem Inv.pinned {pins : List (Addr × Obj)} {σ : St} {H : Hp} {s : Shared} {fp : List Addr} (I : Inv X pins σ H s) (hf : ∀ b ∈ fp, Kp X pins H b) (ho : ∀ b ∈ fp, ∃ o, s.heap.get? b = some o ∧ ∀ v, o.data ≠ .cell v) : Inv X (pins ++ Ly fp s.heap) σ H s :=
  I.pins_of fun p hp => (List.mem_append.mp hp).elim (fun z => I.pin p (List.mem_append_right _ z)) fun z => by
    obtain ⟨hb, e⟩ := XF z
    obtain ⟨f0, f1, f2, _⟩ := hf p.1 hb
    obtain ⟨o, e', d⟩ := ho p.1 hb
    rw [e] at e'; cases e'
    exact ⟨e, f0, f1, f2, d⟩
theorem Inv.unpinned {pins pl : List (Addr × Obj)} {σ : St} {H : Hp} {s : Shared} (I : Inv X (pins ++ pl) σ H s) : Inv X pins σ H s := I.pins_of fun p hp => I.pin p (List.mem_append_right _ (List.mem_append_left _ hp))
theorem AeJ {iter : Expr} {body : List Stmt} {wi : TI} {g : TG} {tb : TS} {pos : Pos} (hp : PassesOwn (model X.prog X.w) X.A X.env X.xe) (hc : X.calm = true) (hi : PI X tg iter wi) (hg : PG X tg g) (hb : PSs X body tb)
    (hs : ∀ x, foldedSetIterable iter X.env x = pure x := by intro _; rfl) : PS X (.For tg iter body [] pos) (Ako wi g tb) := by
  intro pins s σ H D I h
  refine wpAny_For (thn (hi pins s σ H _ I h) fun v s1 h1 => thn h1 fun itv s2 h2 => ?_) hs
  obtain ⟨it, fp, tn, J, H2, e, I2, T, st2, f2, W, ⟨m0, w0⟩, turn⟩ := h2
  subst e
  have stat : ∀ {H' : Hp}, (∀ b ∈ fp, H' b = none) → ∀ b ∈ fp, Kp X pins H' b := fun hn b hb => ⟨hn b hb, (f2 b hb).2⟩
  refine codeAny_forLoop_any (fun n s' => ∃ i σ' H', Inv X pins σ' H' s' ∧ tn i s'.heap ∧ (∀ b ∈ fp, H' b = none) ∧ W i n σ' H') ?_ m0 ⟨0, σ, H2, I2, st2, fun b hb => (f2 b hb).1, w0⟩
  rintro n s3 ⟨i, σ3, H3, I3, st3, fr3, w3⟩
  rcases turn i n σ3 H3 w3 with ⟨stop, qn⟩ | ⟨go, N, hN, step⟩
  · refine wpAny_passesOwn hp (thn (T.done X rfl rfl rfl hc i pins s3 σ3 H3 X.xe I3 (stat fr3) st3 stop) fun r s4 ⟨hr, I4⟩ => ?_)
    subst hr
    exact wpAny_execs_nil ⟨σ3, H3, I4, qn⟩
  · refine wpAny_passesOwn hp (thn (T.item X rfl rfl rfl hc i pins s3 σ3 H3 X.xe I3 (stat fr3) st3 go) fun r s4 ⟨u, hr, h4⟩ => ?_)
    subst hr
    refine wpAny_passesOwn hp (thn h4 fun _ s5 ⟨x, H5, I5, r5, y5, st5, fr5⟩ => ?_)
    have I5' := I5.pinned (stat fr5) (T.obj _ _ st5)
    refine wpAny_passesOwn hp (thn (hg _ s5 σ3 H5 x u _ I5' r5 (step x H5 y5)) fun _ s6 ⟨σ6, H6, I6, q6⟩ => ?_)
    refine wpAny_passesOwn hp (thn (hb _ s6 σ6 H6 _ I6 q6) fun f s7 q7 => ?_)
    have again : ∀ {σ7 : St} {H7 : Hp}, Inv X (pins ++ Ly fp s5.heap) σ7 H7 s7 → N σ7 H7 → ∃ m, m < n ∧ ∃ i σ' H', Inv X pins σ' H' s7 ∧ tn i s7.heap ∧ (∀ b ∈ fp, H' b = none) ∧ W i m σ' H' := fun {σ7 H7} I7 n7 => by
      obtain ⟨m', hm, w7⟩ := hN σ7 H7 n7
      refine ⟨m', hm, i + 1, σ7, H7, I7.unpinned, T.keep _ _ _ st5 fun b hb o e => (I7.pin (b, o) (List.mem_append_right _ (List.mem_append_right _ (Fq hb e)))).1, fun b hb => ?_, w7⟩
      obtain ⟨o, e, d⟩ := T.obj _ _ st5 b hb
      exact (I7.pin (b, o) (List.mem_append_right _ (List.mem_append_right _ (Fq hb e)))).2.1
    cases f with
    | next => obtain ⟨σ7, H7, I7, n7⟩ := q7; exact again I7 n7
    | cont => obtain ⟨σ7, H7, I7, n7⟩ := q7; exact again I7 n7
    | brk => obtain ⟨σ7, H7, I7, q7⟩ := q7; exact ⟨σ7, H7, I7.unpinned, q7⟩
    | ret v => obtain ⟨x7, σ7, H7, I7, r7, q7⟩ := q7; exact ⟨x7, σ7, H7, I7.unpinned, r7, q7⟩
end
end L2
namespace L2
open PySem PySem.Spec PyProof.Rows
abbrev R2 := V → V → Hp → VK → Prop
def OpR (X : Cx) (f : Value → Value → Sem Value) (r : R2) : Prop :=
  ∀ (pins : List (Addr × Obj)) (s : Shared) (σ : St) (H : Hp) (x y : V) (v u : Value) (Q : VK), Inv X pins σ H s → RelV x v → RelV y u → r x y H Q →
    wpAny (model X.prog X.w) X.A (f v u) (EP X pins σ Q) X.xe s
def UnR (X : Cx) (f : Value → Sem Value) (r : V → Hp → VK → Prop) : Prop :=
  ∀ (pins : List (Addr × Obj)) (s : Shared) (σ : St) (H : Hp) (x : V) (v : Value) (Q : VK), Inv X pins σ H s → RelV x v → r x H Q →
    wpAny (model X.prog X.w) X.A (f v) (EP X pins σ Q) X.xe s
def Jz (X : Cx) (f : Value) (r : List V → Hp → VK → Prop) : Prop :=
  ∀ (pins : List (Addr × Obj)) (s : Shared) (σ : St) (H : Hp) (xs : List V) (us : List Value) (Q : VK), Inv X pins σ H s → Vals xs us → r xs H Q →
    wpAny (model X.prog X.w) X.A (call f us) (EP X pins σ Q) X.xe s
def tOp (r : R2) (ta tb : TE) : TE := fun σ H Q => ta σ H fun x H1 => tb σ H1 fun y H2 => r x y H2 Q
def tUn (r : V → Hp → VK → Prop) (ta : TE) : TE := fun σ H Q => ta σ H fun x H1 => r x H1 Q
def rI (C : Int → Int → Prop) (g : Int → Int → V) : R2 := fun x y H Q => ∃ i j, x = .int i ∧ y = .int j ∧ C i j ∧ Q (g i j) H
def rI0 (g : Int → Int → V) : R2 := fun x y H Q => ∃ i j, x = .int i ∧ y = .int j ∧ Q (g i j) H
def rU (g : Int → V) : V → Hp → VK → Prop := fun x H Q => ∃ i, x = .int i ∧ Q (g i) H
section
variable {X : Cx} {a b c : Expr} {ta tb tc : TE} {pos : Pos}
theorem Adt (ha : PE X a ta) (hb : PE X b tb) {pins : List (Addr × Obj)} {s : Shared} {σ : St} {H : Hp} {R : V → V → Hp → Prop} (I : Inv X pins σ H s)
    (h : ta σ H fun x H1 => tb σ H1 fun y H2 => R x y H2) {Q : Value → Shared → Prop} {f : Value → Value → Sem Value}
    (hf : ∀ v u s2 x y H2, Inv X pins σ H2 s2 → RelV x v → RelV y u → R x y H2 → wpAny (model X.prog X.w) X.A (f v u) Q X.xe s2) :
    wpAny (model X.prog X.w) X.A (eval a X.env) (fun v s₁ => wpAny (model X.prog X.w) X.A (eval b X.env) (fun u s₂ => wpAny (model X.prog X.w) X.A (f v u) Q X.xe s₂) X.xe s₁) X.xe s := by
  refine thn (ha pins s σ H _ I h) fun v s1 ⟨x, H1, I1, r1, q1⟩ => ?_
  refine thn (hb pins s1 σ H1 _ I1 q1) fun u s2 ⟨y, H2, I2, r2, q2⟩ => ?_
  exact hf v u s2 x y H2 I2 r1 r2 q2
theorem Ah7 {op : Operator} {r : R2} (ho : OpR X (binaryOp op) r) (ha : PE X a ta) (hb : PE X b tb) : PE X (.BinOp a op b pos) (tOp r ta tb) := by
  intro pins s σ H Q I h
  exact wpAny_BinOp (Adt ha hb I h fun v u s2 x y H2 I2 rx ry q => ho pins s2 σ H2 x y v u Q I2 rx ry q)
theorem Aif {op : UnaryOp} {r : V → Hp → VK → Prop} (ho : UnR X (unaryOp op) r) (ha : PE X a ta) : PE X (.UnaryOp op a pos) (tUn r ta) := by
  intro pins s σ H Q I h
  exact UnaryOp_ (thn (ha pins s σ H _ I h) fun v s1 ⟨x, H1, I1, r1, q1⟩ => ho pins s1 σ H1 x v Q I1 r1 q1)
theorem opI {f : Value → Value → Sem Value} {C : Int → Int → Prop} {g : Int → Int → Int}
    (rule : ∀ (i j : Int) (t u : Tok) (s : Shared) (Q : Value → Shared → Prop) (E : Value → Shared → Prop), C i j → Q (.int (g i j) s.toks) { s with toks := s.toks + 1 } → wpAny (model X.prog X.w) X.A (f (.int i t) (.int j u)) Q E s) :
    OpR X f (rI C fun i j => .int (g i j)) := by
  intro pins s σ H x y v u Q I rx ry h
  obtain ⟨i, j, rfl, rfl, hc, q⟩ := h
  obtain ⟨t, rfl⟩ := rx
  obtain ⟨t', rfl⟩ := ry
  exact rule i j t t' s _ _ hc ⟨.int (g i j), H, I.tok _, ⟨_, rfl⟩, q⟩
theorem AhR {f : Value → Value → Sem Value} {g : Int → Int → Int}
    (rule : ∀ (i j : Int) (t u : Tok) (s : Shared) (Q : Value → Shared → Prop) (E : Value → Shared → Prop), Q (.int (g i j) s.toks) { s with toks := s.toks + 1 } → wpAny (model X.prog X.w) X.A (f (.int i t) (.int j u)) Q E s) :
    OpR X f (rI0 fun i j => .int (g i j)) := by
  intro pins s σ H x y v u Q I rx ry h
  obtain ⟨i, j, rfl, rfl, q⟩ := h
  obtain ⟨t, rfl⟩ := rx
  obtain ⟨t', rfl⟩ := ry
  exact rule i j t t' s _ _ ⟨.int (g i j), H, I.tok _, ⟨_, rfl⟩, q⟩
theorem AbA {f : Value → Value → Sem Value} {g : Int → Int → Bool}
    (rule : ∀ (i j : Int) (t u : Tok) (s : Shared) (Q : Value → Shared → Prop) (E : Value → Shared → Prop), Q (.bool (g i j)) s → wpAny (model X.prog X.w) X.A (f (.int i t) (.int j u)) Q E s) :
    OpR X f (rI0 fun i j => .bl (g i j)) := by
  intro pins s σ H x y v u Q I rx ry h
  obtain ⟨i, j, rfl, rfl, q⟩ := h
  obtain ⟨t, rfl⟩ := rx
  obtain ⟨t', rfl⟩ := ry
  exact rule i j t t' s _ _ ⟨.bl (g i j), H, I, rfl, q⟩
def Xp (i j : Int) : Prop := 0 ≤ j ∧ j ≤ 1000000 ∧ i.natAbs < 2 ^ 64
theorem AdE : OpR X (binaryOp .Add) (rI0 fun i j => .int (i + j)) := AhR fun _ _ _ _ _ _ _ q => add_int q
theorem AeC : OpR X (binaryOp .Sub) (rI0 fun i j => .int (i - j)) := AhR fun _ _ _ _ _ _ _ q => sub_int q
theorem AbS : OpR X (binaryOp .Mod) (rI (fun _ j => j ≠ 0) fun i j => .int (i.fmod j)) := opI fun _ _ _ _ _ _ _ hc q => mod_int' hc q
theorem AdO : OpR X (binaryOp .Pow) (rI Xp fun i j => .int (i ^ j.toNat)) := opI fun _ _ _ _ _ _ _ hc q => pow_int_small hc.1 hc.2.1 hc.2.2 q
theorem Adn : OpR X (binaryOp .LShift) (rI Xp fun i j => .int (i * 2 ^ j.toNat)) := opI fun _ _ _ _ _ _ _ hc q => lshift_int_small hc.1 hc.2.1 hc.2.2 q
theorem unI {f : Value → Sem Value} {g : Int → Int}
    (rule : ∀ (i : Int) (t : Tok) (s : Shared) (Q : Value → Shared → Prop) (E : Value → Shared → Prop), Q (.int (g i) s.toks) { s with toks := s.toks + 1 } → wpAny (model X.prog X.w) X.A (f (.int i t)) Q E s) :
    UnR X f (rU fun i => .int (g i)) := by
  intro pins s σ H x v Q I rx h
  obtain ⟨i, rfl, q⟩ := h
  obtain ⟨t, rfl⟩ := rx
  exact rule i t s _ _ ⟨.int (g i), H, I.tok _, ⟨_, rfl⟩, q⟩
theorem AdY : UnR X (unaryOp .USub) (rU fun i => .int (-i)) := unI fun _ _ _ _ _ q => neg_int q
end
section
variable {X : Cx} {a b c : Expr} {ta tb tc : TE} {pos : Pos}
theorem O7 : OpR X (compareOp .Lt) (rI0 fun i j => .bl (decide (i < j))) := AbA fun _ _ _ _ _ _ _ q => lt_int q
theorem JB : OpR X (compareOp .LtE) (rI0 fun i j => .bl (decide (i ≤ j))) := AbA fun _ _ _ _ _ _ _ q => le_int q
theorem AgG : OpR X (compareOp .Gt) (rI0 fun i j => .bl (decide (j < i))) := AbA fun _ _ _ _ _ _ _ q => gt_int q
theorem AcM : OpR X (compareOp .GtE) (rI0 fun i j => .bl (decide (j ≤ i))) := AbA fun _ _ _ _ _ _ _ q => ge_int q
theorem Im (b : Expr) {op : CmpOp} (h : op ≠ .In := by decide) (h2 : op ≠ .NotIn := by decide) : behindInMarks op b = false := by
  have e1 : (op == CmpOp.In) = false := by cases op <;> first | rfl | exact absurd rfl h
  have e2 : (op == CmpOp.NotIn) = false := by cases op <;> first | rfl | exact absurd rfl h2
  cases b <;> simp [behindInMarks, e1, e2]
theorem Abg {op : CmpOp} {r : R2} (ho : OpR X (compareOp op) r) (ha : PE X a ta) (hb : PE X b tb) (hm : behindInMarks op b = false) : PE X (.Compare a [op] [b] pos) (tOp r ta tb) := by
  intro pins s σ H Q I h
  exact wpAny_Compare1 (Adt ha hb I h fun v u s2 x y H2 I2 rx ry q => ho pins s2 σ H2 x y v u Q I2 rx ry q) hm
def Ah8 (t : TE) : TT := fun σ H Q => t σ H fun x H' => ∃ k, x = .bl k ∧ Q k H'
theorem Aav {op : CmpOp} {r : R2} (ho : OpR X (compareOp op) r) (ha : PE X a ta) (hb : PE X b tb) (hm : behindInMarks op b = false) : PT X (.Compare a [op] [b] pos) (Ah8 (tOp r ta tb)) := by
  intro pins s σ H Q I h
  refine wpAny_isTrue_Compare1 (thn (ha pins s σ H _ I h) fun v s1 ⟨x, H1, I1, r1, q1⟩ => thn (hb pins s1 σ H1 _ I1 q1) fun u s2 ⟨y, H2, I2, r2, q2⟩ =>
    thn (ho pins s2 σ H2 x y v u _ I2 r1 r2 q2) fun c s3 ⟨z, H3, I3, r3, k, e, q3⟩ => ?_) hm
  subst e
  cases r3
  exact wpAny_truthy_bool ⟨H3, I3, q3⟩
def Y0 (r r' : R2) (ta tb tc : TE) : TE := fun σ H Q => ta σ H fun x H1 => tb σ H1 fun y H2 => r x y H2 fun z H3 => ∃ k, z = .bl k ∧
  (if k = true then tc σ H3 fun w' H4 => r' y w' H4 Q else Q (.bl false) H3)
theorem Aag {op op' : CmpOp} {r r' : R2} (ho : OpR X (compareOp op) r) (ho' : OpR X (compareOp op') r') (ha : PE X a ta) (hb : PE X b tb) (hc : PE X c tc)
    (hm : lastMarks [op, op'] [b, c] = false := by with_unfolding_all rfl) : PE X (.Compare a [op, op'] [b, c] pos) (Y0 r r' ta tb tc) := by
  intro pins s σ H Q I h
  refine Compare_chain (thn (ha pins s σ H _ I h) fun v s1 ⟨x, H1, I1, r1, q1⟩ => chain_link (thn (hb pins s1 σ H1 _ I1 q1) fun u s2 ⟨y, H2, I2, r2, q2⟩ =>
    thn (ho pins s2 σ H2 x y v u _ I2 r1 r2 q2) fun d s3 ⟨z, H3, I3, r3, k, e, q3⟩ => ?_)) hm
  subst e
  cases r3
  refine wpAny_truthy_bool ?_
  cases k with
  | false => exact ite_ff ⟨.bl false, H3, I3, rfl, q3⟩
  | true => exact ite_tt (chain_last (thn (hc pins s3 σ H3 _ I3 q3) fun w' s4 ⟨z', H4, I4, r4, q4⟩ => ho' pins s4 σ H4 y z' u w' Q I4 r2 r4 q4))
theorem Q5 : (sizeLine : Nat) < 2 ^ 63 := by rw [sizeLine_eq]; decide
theorem vals1 {x : V} {us : List Value} (r : Vals [x] us) : ∃ u, us = [u] ∧ RelV x u := by
  cases r with
  | cons r1 r2 => cases r2; exact ⟨_, rfl, r1⟩
theorem vals2 {x y : V} {us : List Value} (r : Vals [x, y] us) : ∃ u w', us = [u, w'] ∧ RelV x u ∧ RelV y w' := by
  cases r with
  | cons r1 r2 =>
    cases r2 with
    | cons r3 r4 => cases r4; exact ⟨_, _, rfl, r1, r3⟩
theorem Aaa : Jz X (.builtin "abs") (fun xs H Q => ∃ i, xs = [.int i] ∧ Q (.int (if i < 0 then -i else i)) H) := by
  intro pins s σ H xs us Q I r h
  obtain ⟨i, rfl, q⟩ := h
  obtain ⟨u, rfl, t, rfl⟩ := vals1 r
  exact call_abs_int fun u tk => ⟨.int (if i < 0 then -i else i), H, I.tok _, ⟨_, rfl⟩, q⟩
theorem Xv (hc : X.calm = true) : Jz X (.builtin "max") (fun xs H Q => ∃ i j, xs = [.int i, .int j] ∧ Q (.int (if j > i then j else i)) H) := by
  intro pins s σ H xs us Q I r h
  obtain ⟨i, j, rfl, q⟩ := h
  obtain ⟨u, w', rfl, ⟨t, rfl⟩, ⟨t', rfl⟩⟩ := vals2 r
  refine max_two_ints (I.ok.hd hc) fun h' tk k => ⟨_, H, I.kept k, ?_, q⟩
  by_cases hj : j > i
  · rw [if_pos hj, if_pos hj]; exact ⟨_, rfl⟩
  · rw [if_neg hj, if_neg hj]; exact ⟨_, rfl⟩
end
end L2
namespace L2
open PySem PySem.Spec PyProof.Rows
structure Vw (h : Heap) (x dx C : Addr) (mA : Str → Option Value) : Prop where
  obj : h.get? x = some (PySem.W.instObj C dx)
  ns : h.Ns1 dx mA
  ne : dx ≠ x
theorem W2 {h : Heap} {dx : Addr} {mA : Str → Option Value} (n : h.Ns1 dx mA) : ∃ od, h.get? dx = some od ∧ ∀ name, PySem.W.lookIn name od = some (mA name) := by
  obtain ⟨o, es, ep, ho, hd, hk, _, hm⟩ := n
  refine ⟨o, ho, fun name => ?_⟩
  have e := hm name
  unfold nsFind findBy at e
  rw [← Array.find?_toList] at e
  unfold PySem.W.lookIn
  rw [hd]
  dsimp only
  split
  · rename_i y q
    rw [q] at e
    exact congrArg some e
  · rename_i q
    rw [q] at e
    have a : es.toList.any (·.refKey) = false := by
      rw [List.any_eq_false]
      intro y hy
      obtain ⟨z, t, hkey⟩ := hk y (Array.mem_toList_iff.mp hy)
      simp [DictEntry.refKey, hkey]
    have a' : ¬ es.toList.any (·.refKey) = true := by rw [a]; exact Bool.false_ne_true
    rw [if_neg a']
    exact congrArg some e
theorem Vw.look {h : Heap} {x dx C : Addr} {mA : Str → Option Value} (I : Vw h x dx C mA) : ∃ od, PySem.W.InstAt h x (PySem.W.instObj C dx) C (some od) ∧ ∀ name, PySem.W.lookIn name od = some (mA name) :=
  let ⟨od, ho, hl⟩ := W2 I.ns
  ⟨od, ⟨I.obj, rfl, rfl, ho⟩, hl⟩
section
variable {prog : Program} {w : World} {A : Around} {E : Value → Shared → Prop} {s : Shared} {K : PySem.W.Frag} {x dx C f : Addr} {mA : Str → Option Value} {name : Str} {v : Value}
theorem get_map {expr : Bool} {Q : Value → Shared → Prop} (X : K.In s.heap) (I : Vw s.heap x dx C mA) (hg : PySem.W.plainGet K C name = true) (hh : PySem.W.hasDictIn K C = true)
    (ha : PySem.W.findIn K (.ref C) name = some none) (hv : mA name = some v) (hv' : PySem.W.handedIn v = true) (h : Q v { s with toks := s.toks + 1 }) :
    wpAny (model prog w) A (getAttr (.ref x) name expr) Q E s := by
  obtain ⟨od, J, hl⟩ := I.look
  exact PySem.W.get_value X J (PySem.W.plainGet_of hg).1 (PySem.W.findObj_own hh ha rfl (by rw [hl, hv])) hv' h
theorem Yq {pl : Sem Bool} {Q : Value × List Value → Shared → Prop} (X : K.In s.heap) (I : Vw s.heap x dx C mA) (hg : PySem.W.plainGet K C name = true)
    (hf : PySem.W.findIn K (.ref C) name = some (some (.ref f))) (ht : PySem.W.isFn K (.ref f) = true) (hv : mA name = none) (h : Q (.ref f, [.ref x]) s) :
    wpAny (model prog w) A (getMethod (.ref x) name pl) Q E s := by
  obtain ⟨od, J, hl⟩ := I.look
  exact PySem.W.method_fn X J (PySem.W.plainGet_of hg).1 (PySem.W.plainGet_of hg).2 hf (beq_iff_eq.mp ht) (by show (PySem.W.lookIn name od).map (·.isSome) = some false; rw [hl, hv]; rfl) h
theorem Abz {ns : List Str} {Q : Unit → Shared → Prop} (X : K.In s.heap) (I : Vw s.heap x dx C mA)
    (hs : PySem.W.findIn K (.ref C) "__setattr__" = some (some (.builtin "object.__setattr__"))) (hp : PySem.W.plainOver K C = true) (ht : PySem.W.takerIn K C name = some none) (hh : PySem.W.hasDictIn K C = true)
    (hw : PySem.Within mA ns) (hsz : ns.length ≤ sizeLine)
    (h : ∀ h', Vw h' x dx C (fun y => if y = name then some v else mA y) → Heap.SameBut dx s.heap h' → Q () { s with heap := h', toks := s.toks + 2 }) :
    wpAny (model prog w) A (setAttr (.ref x) name v) Q E s := by
  obtain ⟨od, J, hl⟩ := I.look
  refine PySem.W.set_plain X J hs (PySem.W.osa_open (s := { s with toks := s.toks + 1 }) (r := none) X J hp ht fun b => ?_)
  obtain ⟨cd, hc, hd'⟩ := PySem.W.any_some hh
  have hx : s.heap.get? x = some ⟨.ref C, some dx, .plain, #[]⟩ := I.obj
  refine wpAny_bind (wpAny_pure (wpAny_bind (wpAny_bind (wpAny_loadPart hx (wpAny_bind (PySem.W.Looks.here (s := { s with toks := s.toks + 1 }) (PySem.W.looks_clsIn X hc) ?_))))))
  rw [hd']
  refine wpAny_pure (a := some dx) (wpAny_bind (wpAny_pure (wpAny_bind ?_)))
  refine wpAny_nsSet1 (s := { s with toks := s.toks + 1 }) I.ns fun h' hn2 hs2 => ?_
  obtain ⟨oD, esD, epD, hoD, hdD, hcD⟩ := hn2.count (PySem.Within.cons name v hw)
  refine wpAny_bind (wpAny_lookBehind hoD (by rw [hdD]; exact pastItsLine_dict (Nat.le_trans hcD (by rw [List.length_cons]; omega))) ?_)
  exact wpAny_pure (h _ ⟨(hs2.2 _ (Ne.symm I.ne)).trans I.obj, hn2, I.ne⟩ hs2)
theorem Yi {R : Result → Shared → Prop} {vs : List Value} {kw : List (Str × Value)} (X : K.In s.heap) (hm : PySem.W.makesIn K C = true)
    (hi : PySem.W.findIn K (.ref C) "__init__" = some (some (.ref f))) (hf : PySem.W.typeIn K (.ref f) = some (.type "function"))
    (h : codeAny (model prog w) (A.under (.builtin "type.__call__" ⟨.ref C :: vs, kw⟩)) (.call (.ref f) ⟨.ref (s.heap.objs.size + 1) :: vs, kw⟩) (PySem.W.InitBack (s.heap.objs.size + 1) R)
      { s with heap := (s.heap.push PySem.W.emptyDict).push (PySem.W.instObj C s.heap.objs.size) }) :
    codeAny (model prog w) A (.call (.ref C) ⟨vs, kw⟩) R s := by
  obtain ⟨hh, g, d, t, os⟩ := s
  exact PySem.W.make_core (PySem.W.makes_of X hm) (PySem.W.looks_findIn X hi) (fun self => PySem.W.bind_fn X self hf) (.inl rfl) h
end
def Gp (f : Str) (v : V) : List (Str × V) → List (Str × V)
  | [] => [(f, v)]
  | (g, x) :: r => if g = f then (g, v) :: r else (g, x) :: Gp f v r
theorem Mg (f g : Str) (v : V) : ∀ fs : List (Str × V), (Gp f v fs).lookup g = if g = f then some v else fs.lookup g
  | [] => by
    show List.lookup g [(f, v)] = _
    by_cases h : g = f
    · have hb : (g == f) = true := beq_iff_eq.mpr h
      simp only [List.lookup, hb, if_pos h]
    · have hb : (g == f) = false := beq_eq_false_iff_ne.mpr h
      simp only [List.lookup, hb, if_neg h]
  | (k, x) :: r => by
    have ih := Mg f g v r
    rw [show Gp f v ((k, x) :: r) = (if k = f then (k, v) :: r else (k, x) :: Gp f v r) from rfl]
    by_cases hk : k = f
    · rw [if_pos hk]
      by_cases h : g = k
      · have hb : (g == k) = true := beq_iff_eq.mpr h
        simp only [List.lookup, hb, if_pos (h.trans hk)]
      · have hb : (g == k) = false := beq_eq_false_iff_ne.mpr h
        simp only [List.lookup, hb, if_neg (fun e : g = f => h (e.trans hk.symm))]
    · rw [if_neg hk]
      by_cases h : g = k
      · have hb : (g == k) = true := beq_iff_eq.mpr h
        simp only [List.lookup, hb, if_neg (fun e : g = f => hk (h.symm.trans e))]
      · have hb : (g == k) = false := beq_eq_false_iff_ne.mpr h
        simp only [List.lookup, hb]
        exact ih
theorem K3 (f : Str) (v : V) : ∀ fs : List (Str × V), f ∈ (Gp f v fs).map (·.1) ∧ ∀ g, g ∈ fs.map (·.1) → g ∈ (Gp f v fs).map (·.1)
  | [] => ⟨by simp [Gp], fun g h => by simp at h⟩
  | (k, x) :: r => by
    obtain ⟨i1, i2⟩ := K3 f v r
    rw [show Gp f v ((k, x) :: r) = (if k = f then (k, v) :: r else (k, x) :: Gp f v r) from rfl]
    by_cases hk : k = f
    · rw [if_pos hk]
      subst hk
      exact ⟨by simp, fun g h => by simpa using h⟩
    · rw [if_neg hk]
      refine ⟨?_, fun g h => ?_⟩
      · rw [List.map_cons]
        exact List.mem_cons_of_mem _ i1
      · rw [List.map_cons] at h ⊢
        rcases List.mem_cons.mp h with e | e
        · exact List.mem_cons.mpr (.inl e)
        · exact List.mem_cons_of_mem _ (i2 g e)
theorem Mj (f : Str) (v : V) : ∀ fs : List (Str × V), (Gp f v fs).length ≤ fs.length + 1
  | [] => by simp [Gp]
  | (k, x) :: r => by
    have ih := Mj f v r
    rw [show Gp f v ((k, x) :: r) = (if k = f then (k, v) :: r else (k, x) :: Gp f v r) from rfl]
    by_cases hk : k = f
    · rw [if_pos hk, List.length_cons, List.length_cons]; omega
    · rw [if_neg hk, List.length_cons, List.length_cons]; omega
theorem Pb.some_of {v : V} {o : Option Value} (r : Pb (some v) o) : ∃ u, o = some u ∧ RelV v u := by
  cases o with
  | none => exact (show False from r).elim
  | some u => exact ⟨u, rfl, r⟩
theorem Pb.none_of {o : Option Value} (r : Pb none o) : o = none := by
  cases o with
  | none => rfl
  | some u => exact (show False from r).elim
theorem Xx {v : V} {u : Value} (r : RelV v u) : PySem.W.handedIn u = true := by
  cases v with
  | non => cases (show u = Value.none from r); rfl
  | bl b => cases (show u = Value.bool b from r); rfl
  | int i => obtain ⟨t, e⟩ := (show ∃ t, u = Value.int i t from r); cases e; rfl
  | str x => obtain ⟨t, e⟩ := (show ∃ t, u = Value.str x t from r); cases e; rfl
  | byt b => obtain ⟨t, e⟩ := (show ∃ t, u = Value.bytes b t from r); cases e; rfl
  | flt b => obtain ⟨t, e⟩ := (show ∃ t, u = Value.float b t from r); cases e; rfl
  | ref a => cases (show u = Value.ref a from r); rfl
  | ty n => cases (show u = Value.type n from r); rfl
section
variable {P : Program} {w : World} {H H' : Hp} {h h' : Heap} {a C dx : Addr} {fs fs' : List (Str × V)}
theorem RK (hok : HOk P w H h) (e : H a = some (.ins C dx fs)) : ∃ mA, Vw h a dx C mA ∧ (∀ f, Pb (fs.lookup f) (mA f)) ∧ PySem.Within mA (fs.map (·.1)) ∧ fs.length ≤ 1000 ∧ H dx = some (.own a) := by
  obtain ⟨d, z, ne, ob, mA, n, r, q⟩ := (show Gu P w H h a (.ins C dx fs) from hok a _ e)
  exact ⟨mA, ⟨ob, n, ne⟩, r, q, z, d⟩
end
structure Cls (K : PySem.W.Frag) (C : Addr) : Prop where
  pg : PySem.W.plainGet K C Str.empty = true
  hd : PySem.W.hasDictIn K C = true
  po : PySem.W.plainOver K C = true
  sa : PySem.W.findIn K (.ref C) "__setattr__" = some (some (.builtin "object.__setattr__"))
theorem Cls.get {K : PySem.W.Frag} {C : Addr} (c : Cls K C) (f : Str) : PySem.W.plainGet K C f = true := c.pg
def G4 (K : PySem.W.Frag) (C : Addr) (f : Str) : Prop := PySem.W.findIn K (.ref C) f = some none
theorem G4.taker {K : PySem.W.Frag} {C : Addr} {f : Str} (n : G4 K C f) : PySem.W.takerIn K C f = some none := by
  unfold PySem.W.takerIn
  rw [show PySem.W.findIn K (.ref C) f = some none from n]
  rfl
structure Meth (K : PySem.W.Frag) (C : Addr) (m : Str) (f : Addr) : Prop where
  at_ : PySem.W.findIn K (.ref C) m = some (some (.ref f))
  fn : PySem.W.isFn K (.ref f) = true
  kp : PySem.W.keepIn K (.ref f) = true
section
variable {X : Cx} {pins : List (Addr × Obj)} {σ : St} {H : Hp} {s : Shared} {a C dx : Addr} {fs : List (Str × V)} {f : Str} {v : V} {A : Around} {E : Value → Shared → Prop}
theorem Vo {b : Bool} {Q : Value → Shared → Prop} (I : Inv X pins σ H s) (e : H a = some (.ins C dx fs)) (c : Cls X.K C) (n : G4 X.K C f) (l : fs.lookup f = some v)
    (h : ∀ u s', Inv X pins σ H s' → RelV v u → Q u s') : wpAny (model X.prog X.w) A (getAttr (.ref a) f b) Q E s := by
  obtain ⟨mA, O, r, _, _, _⟩ := RK I.hok e
  obtain ⟨u, hu, ru⟩ := Pb.some_of (v := v) (o := mA f) (by rw [← l]; exact r f)
  exact get_map I.kIn O (c.get f) c.hd n hu (Xx ru) (h u _ (I.tok _) ru)
theorem Uo {m : Str} {g : Addr} {pl : Sem Bool} {Q : Value × List Value → Shared → Prop} (I : Inv X pins σ H s) (e : H a = some (.ins C dx fs)) (c : Cls X.K C) (k : Meth X.K C m g) (l : fs.lookup m = none)
    (h : Q (.ref g, [.ref a]) s) : wpAny (model X.prog X.w) A (getMethod (.ref a) m pl) Q E s := by
  obtain ⟨mA, O, r, _, _, _⟩ := RK I.hok e
  have hn : mA m = none := Pb.none_of (by rw [← l]; exact r m)
  exact Yq I.kIn O (c.get m) k.at_ k.fn hn h
theorem Vi {y : V} {u : Value} {Q : Unit → Shared → Prop} (I : Inv X pins σ H s) (e : H a = some (.ins C dx fs)) (c : Cls X.K C) (n : G4 X.K C f) (hl : fs.length < 1000) (ry : RelV y u)
    (h : ∀ s', Inv X pins σ (upd H a (.ins C dx (Gp f y fs))) s' → Q () s') : wpAny (model X.prog X.w) A (setAttr (.ref a) f u) Q E s := by
  obtain ⟨mA, O, r, wi, _, ho⟩ := RK I.hok e
  have hz : (fs.map (·.1)).length ≤ sizeLine := by rw [List.length_map, sizeLine_eq]; omega
  refine Abz I.kIn O c.sa c.po n.taker c.hd wi hz fun h' O' sb => h _ ?_
  have hd : ∃ o, h'.get? dx = some o := let ⟨o, _, _, e', _⟩ := O'.ns; ⟨o, e'⟩
  refine I.write (x := a) (e := dx) (by rw [e]; exact True.intro) (.inr ho) (fun b q hb z => (sb.2 b hb).trans z) hd ?_
  refine ⟨by rw [Bc O.ne]; exact ho, ?_, O.ne, O'.obj, _, O'.ns, fun g => ?_, fun g hg => ?_⟩
  · have := Mj f y fs; omega
  · show Pb ((Gp f y fs).lookup g) (if g = f then some u else mA g)
    rw [Mg]
    by_cases q : g = f
    · rw [if_pos q, if_pos q]; exact ry
    · rw [if_neg q, if_neg q]; exact r g
  · by_cases q : g = f
    · rw [q]; exact (K3 f y fs).1
    · refine (K3 f y fs).2 g (wi g fun z => hg ?_)
      show (if g = f then some u else mA g) = none
      rw [if_neg q]; exact z
theorem Inv.made (I : Inv X pins σ H s) : Inv X pins σ (upd (upd H s.heap.objs.size (.own (s.heap.objs.size + 1))) (s.heap.objs.size + 1) (.ins C s.heap.objs.size []))
    { s with heap := (s.heap.push PySem.W.emptyDict).push (PySem.W.instObj C s.heap.objs.size) } := by
  have e1 : (s.heap.push PySem.W.emptyDict).get? s.heap.objs.size = some PySem.W.emptyDict := Heap.get?_push_size s.heap rfl
  have e2 : ((s.heap.push PySem.W.emptyDict).push (PySem.W.instObj C s.heap.objs.size)).get? (s.heap.objs.size + 1) = some (PySem.W.instObj C s.heap.objs.size) := by
    have := Heap.get?_push_size (s.heap.push PySem.W.emptyDict) (o := PySem.W.instObj C s.heap.objs.size) rfl
    rwa [Heap.size_push] at this
  have e3 : (s.heap.push PySem.W.emptyDict).Ns s.heap.objs.size (fun _ => none) := ⟨PySem.W.emptyDict, #[], _, e1, rfl, (fun e he => absurd he (by simp)), fun _ => rfl⟩
  have I1 := I.laid (a := s.heap.objs.size) (o := .own (s.heap.objs.size + 1)) (h' := s.heap.push PySem.W.emptyDict) (t' := s.toks) (fun b u q => Heap.get?_push_of_some _ q) (Nat.le_refl _) ⟨_, e1⟩
  refine I1.laid (a := s.heap.objs.size + 1) (o := .ins C s.heap.objs.size []) (t' := s.toks) (fun b u q => Heap.get?_push_of_some _ q) (Nat.le_of_eq (Heap.size_push _ _)) ?_
  have ne : s.heap.objs.size ≠ s.heap.objs.size + 1 := Nat.ne_of_lt (Nat.lt_succ_self _)
  refine ⟨by rw [Bc ne, BJ], Nat.zero_le _, ne, e2, fun _ => none, (Heap.Ns1.of_empty e3).at fun o q => Heap.get?_push_of_some _ q, fun _ => True.intro, fun y hy => absurd rfl hy⟩
theorem Aa0 {prog : Program} {w : World} {env : Env} {e : Expr} {f : Str} {pos : Pos} {s : Shared} {Q : Value → Shared → Prop} (hb : attributeBase e f env (eval e env) = eval e env)
    (h : wpAny (model prog w) A (eval e env) (fun o s₁ => wpAny (model prog w) A (getAttr o f true) Q E s₁) E s) : wpAny (model prog w) A (eval (.Attribute e f pos) env) Q E s :=
  Attribute_any_ h (by rw [arm_eval_Attribute, hb])
end
def Aj6 (K : PySem.W.Frag) (ta : TE) (f : Str) : TE := fun σ H Q => ta σ H fun x H1 => ∃ a C dx fs v, x = .ref a ∧ H1 a = some (.ins C dx fs) ∧ Cls K C ∧ G4 K C f ∧ fs.lookup f = some v ∧ Q v H1
def AjN (K : PySem.W.Frag) (ta tv : TE) (f : Str) : TS := fun D σ H => tv σ H fun y H1 => ta σ H1 fun x H2 => ∃ a C dx fs, x = .ref a ∧ H2 a = some (.ins C dx fs) ∧ Cls K C ∧ G4 K C f ∧ fs.length < 1000 ∧
  D.nx σ (upd H2 a (.ins C dx (Gp f y fs)))
section
variable {X : Cx} {o e value : Expr} {f : Str} {pos pos' tpos : Pos} {ta tv : TE}
theorem AeT (he : PE X e ta) (hb : attributeBase e f X.env (eval e X.env) = eval e X.env) : PE X (.Attribute e f pos) (Aj6 X.K ta f) := by
  intro pins s σ H Q I h
  refine Aa0 hb (thn (he pins s σ H _ I h) fun u s1 ⟨x, H1, I1, rx, a, C, dx, fs, v, ex, ea, c, n, l, q⟩ => ?_)
  subst ex
  obtain rfl : u = Value.ref a := rx
  exact Vo I1 ea c n l fun u' s2 I2 ru => ⟨v, H1, I2, ru, q⟩
theorem Uq (ha : PE X o ta) (hv : PE X value tv) (hs : swapsWith value (some (.Attribute o f pos')) pos.line X.env = pure false) : PS X (.Assign [.Attribute o f pos'] value pos) (AjN X.K ta tv f) := by
  intro pins s σ H D I h
  refine plainObj_wpAny_Assign_Attribute (thn (hv pins s σ H _ I h) fun u s1 ⟨y, H1, I1, ry, q⟩ => thn (ha pins s1 σ H1 _ I1 q) fun ov s2 ⟨x, H2, I2, rx, a, C, dx, fs, ex, ea, c, n, l, q2⟩ => ?_) hs
  subst ex
  obtain rfl : ov = Value.ref a := rx
  exact Vi I2 ea c n l ry fun s3 I3 => ⟨σ, _, I3, q2⟩
end
section
variable {X : Cx} {pins : List (Addr × Obj)} {σ : St} {H : Hp} {s : Shared} {A : Around} {E : Value → Shared → Prop} {Q : Value → Shared → Prop} {c : Value} {b : Bool}
end
end L2
namespace L2
open PySem PySem.Spec PyProof.Rows
structure DP (k : Nat) (A : Around) : Prop where
  hd : A.handled = none
  dp : A.depth + 3 * k + 5 < recursionLimit
  un : A.units + 16 * k + 200 < cLine
theorem DP.mono {j k : Nat} {A : Around} (r : DP k A) (h : j ≤ k) : DP j A := ⟨r.hd, by have := r.dp; omega, by have := r.un; omega⟩
theorem DP.deeper {k : Nat} {A : Around} (r : DP (k + 1) A) (env : Env) : DP k (A.deeper env) :=
  ⟨r.hd, by have := r.dp; show A.depth + 1 + 3 * k + 5 < _; omega, by have := r.un; show A.units + 3 + 16 * k + 200 < _; omega⟩
theorem UG {A : Around} {C : Addr} {us : List Value} {kw : List (Str × Value)} : (A.under (.builtin "type.__call__" ⟨.ref C :: us, kw⟩)).depth = A.depth + 1 := by
  first | rfl | simp [Around.under, Code.weight, Code.isCreation, Code.isGuard, Code.isCaller, Code.frames, Code.isFrame, guardIds]
theorem Vk {A : Around} {C : Addr} {us : List Value} {kw : List (Str × Value)} : (A.under (.builtin "type.__call__" ⟨.ref C :: us, kw⟩)).units = A.units + 1 := by
  first | rfl | simp [Around.under, Code.cUnits, Code.frames, Code.isFrame]
theorem DP.make {k : Nat} {A : Around} (r : DP (k + 1) A) (C : Addr) (us : List Value) (kw : List (Str × Value)) : DP k (A.under (.builtin "type.__call__" ⟨.ref C :: us, kw⟩)) :=
  ⟨r.hd, by have := r.dp; rw [UG]; omega, by have := r.un; rw [Vk]; omega⟩
theorem DP.depth {k : Nat} {A : Around} (r : DP k A) : A.depth < recursionLimit := by have := r.dp; omega
theorem DP.units {k : Nat} {A : Around} (r : DP k A) : A.units + 64 < cLine := by have := r.un; omega
def Agi : TA := fun _ H Q => Q [] H
def Ag9 (ta : TE) (tr : TA) : TA := fun σ H Q => ta σ H fun x H1 => tr σ H1 fun xs H2 => Q (x :: xs) H2
section
variable {X : Cx} {e : Expr} {es : List Expr} {te : TE} {t : TA} {pos : Pos}
theorem Vq : PA X [] Agi := fun _ _ _ _ H Q I h => Calls.spliced_nil ⟨[], H, I, .nil, h⟩
theorem KZ (ha : PE X e te) (hr : PA X es t) (hs : starEach (e :: es) X.env = (false, eval e X.env) :: starEach es X.env := by rfl) : PA X (e :: es) (Ag9 te t) := by
  intro pos pins s σ H Q I h
  rw [hs]
  show wpAny _ _ (spliced ((false, eval e X.env) :: backTo pos (starEach es X.env))) _ _ s
  refine Calls.spliced_cons (thn (ha pins s σ H _ I h) fun u s1 ⟨x, H1, I1, r1, q1⟩ => ?_)
  exact thn (hr pos pins s1 σ H1 _ I1 q1) fun us s2 ⟨xs, H2, I2, r2, q2⟩ => ⟨x :: xs, H2, I2, .cons r1 r2, q2⟩
def Ajr (t : TA) : TE := fun σ H Q => t σ H fun xs H1 => xs.length ≤ sizeLine ∧ ∀ p, H1 p = none → Q (.ref p) (upd H1 p (.tup xs))
def AiM (t : TA) : TE := fun σ H Q => t σ H fun xs H1 => xs.length ≤ sizeLine ∧ ∀ p, H1 p = none → Q (.ref p) (upd H1 p (.lst xs))
theorem Ado {x1} (h : PA X es t) : PE X (.Tuple es x1 pos) (Ajr t) := by
  intro pins s σ H Q I hq
  refine wpAny_Tuple_spliced (thn (h pos pins s σ H _ I hq) fun us s1 ⟨xs, H1, I1, r, z, q⟩ => ⟨by rw [← r.length]; exact z, ?_⟩)
  have hf : H1 s1.heap.objs.size = none := I1.hok.fresh (Nat.le_refl _)
  refine ⟨.ref s1.heap.objs.size, upd H1 s1.heap.objs.size (.tup xs), I1.laid (t' := s1.toks) (fun b u e => Heap.get?_push_of_some _ e) (Nat.le_refl _) ?_, rfl, q _ hf⟩
  exact ⟨z, us, r, ⟨_, Heap.get?_push_size _ rfl, rfl, _, rfl⟩⟩
theorem ZP (h : PA X es t) : PE X (.List es pos) (AiM t) := by
  intro pins s σ H Q I hq
  refine wpAny_List_spliced (thn (h pos pins s σ H _ I hq) fun us s1 ⟨xs, H1, I1, r, z, q⟩ => ⟨by rw [← r.length]; exact z, ?_⟩)
  have hf : H1 s1.heap.objs.size = none := I1.hok.fresh (Nat.le_refl _)
  refine ⟨.ref s1.heap.objs.size, upd H1 s1.heap.objs.size (.lst xs), I1.laid (t' := s1.toks) (fun b u e => Heap.get?_push_of_some _ e) (Nat.le_refl _) ?_, rfl, q _ hf⟩
  exact ⟨z, us, 0, r, Heap.get?_push_size _ rfl⟩
end
abbrev Sp := List V → Hp → VK → XK → Prop
abbrev CXT := List Env → Hp → Shared → XK → Value → Shared → Prop
structure Ut (P : Program) (w : World) (K : PySem.W.Frag) (mg : Str → Option Value) (base : Heap) (A : Around) (outer : List Env) (s : Shared) (H : Hp) : Prop where
  frames : A.frames = some outer
  mod : Mod K mg base
  bs : ∀ b o, base.get? b = some o → s.heap.get? b = some o ∧ H b = none
  bsz : base.objs.size ≤ s.heap.objs.size
  funs : s.heap.FunFrames base outer
  frf : ∀ b ∈ frs outer, H b = none
  hok : HOk P w H s.heap
  bare : AllBare s.gens
def CE (outer : List Env) (P : Program) (w : World) (H : Hp) (s : Shared) (Q : VK) (u : Value) (s' : Shared) : Prop :=
  ∃ v H', s'.os = s.os ∧ AllBare s'.gens ∧ Un (frs outer) [] H H' s.heap s'.heap ∧ HOk P w H' s'.heap ∧ RelV v u ∧ Q v H'
def CR (CX : CXT) (outer : List Env) (P : Program) (w : World) (H : Hp) (s : Shared) (Q : VK) (E : XK) (r : Result) (s' : Shared) : Prop :=
  match r with
  | .ok (.ret u) => CE outer P w H s Q u s'
  | .ok _ => False
  | .error e => CX outer H s E e s'
structure GP (P : Program) (w : World) (K : PySem.W.Frag) (mg : Str → Option Value) (base : Heap) (CX : CXT) (k : Nat) (f : Addr) (fd : FuncData) (ps : List Str) (sp : Sp) : Prop where
  len : ∀ vs H Q E, sp vs H Q E → vs.length = ps.length
  run : ∀ (A : Around) (outer : List Env) (s : Shared) (H : Hp) (args : Args) (us : List Value) (vs : List V) (Q : VK) (E : XK), DP k A → Ut P w K mg base A outer s H → BindsTo s fd args (ps.zip us) → Vals vs us → sp vs H Q E →
    codeAny (model P w) A (.call (.ref f) args) (CR CX outer P w H s Q E) s
theorem Ut.make {P : Program} {w : World} {K : PySem.W.Frag} {mg : Str → Option Value} {base : Heap} {A : Around} {outer : List Env} {s : Shared} {H : Hp} (e : Ut P w K mg base A outer s H) (C : Addr) (us : List Value) (kw : List (Str × Value)) :
    Ut P w K mg base (A.under (.builtin "type.__call__" ⟨.ref C :: us, kw⟩)) outer s H := ⟨by first | exact e.frames | (simpa [Around.under, Code.envs, Code.isFrame, pushEnvs] using e.frames), e.mod, e.bs, e.bsz, e.funs, e.frf, e.hok, e.bare⟩
section
variable {X : Cx} {pins : List (Addr × Obj)} {σ : St} {H : Hp} {s s' : Shared}
theorem Inv.env0 (I : Inv X pins σ H s) : Ut X.prog X.w X.K X.mg X.base X.A X.stack s H :=
  ⟨I.ok.frames, I.ok.mod, I.bs, Nat.le_trans I.ok.bsz I.sz, I.stack, I.stkFree, I.hok, I.bare⟩
theorem Inv.after {Q : VK} {u : Value} (I : Inv X pins σ H s) (h : CE X.stack X.prog X.w H s Q u s') : EP X pins σ Q u s' := by
  obtain ⟨v, H', os, bare, un, hok, r, q⟩ := h
  obtain ⟨hh, g, d, t, os'⟩ := s'
  obtain rfl : os' = s.os := os
  exact ⟨v, H', I.call (h' := hh) (g' := g) (d' := d) (t' := t) (ch := []) un hok bare (fun b z => absurd z (by simp)), r, q⟩
end
def AcW (sp : Sp) (dvs : List V) (E : XK) (t : TA) : TE := fun σ H Q => t σ H fun vs H1 => sp (vs ++ dvs) H1 Q E
def AhG (C : Addr) (sp : Sp) (dvs : List V) (E : XK) (t : TA) : TE := fun σ H Q => t σ H fun vs H1 => ∀ x dx, H1 x = none → H1 dx = none → dx ≠ x →
  sp (.ref x :: (vs ++ dvs)) (upd (upd H1 dx (.own x)) x (.ins C dx [])) (fun v H2 => v = .non ∧ Q (.ref x) H2) E
def Binds (K : PySem.W.Frag) (fd : FuncData) (ps : List Str) (ds : List Value) : Prop :=
  ∀ (s : Shared) (us : List Value), K.In s.heap → (us ++ ds).length = ps.length → BindsTo s fd ⟨us, []⟩ (ps.zip (us ++ ds))
theorem Binds.all {K : PySem.W.Frag} {fd : FuncData} {ps : List Str} (h : ∀ us : List Value, us.length = ps.length → bindArgs fd ⟨us, []⟩ = pure (ps.zip us)) : Binds K fd ps [] := fun s us _ hl => by
  rw [List.append_nil] at hl ⊢
  exact .of_eq (h us hl)
def Passes (CX : CXT) (X : Cx) (E : XK) : Prop := ∀ (pins : List (Addr × Obj)) (σ : St) (H : Hp) (s : Shared) (e : Value) (s' : Shared), Inv X pins σ H s → CX X.stack H s E e s' → X.xe e s'
section
variable {X : Cx} {CX : CXT} {k : Nat} {f C : Addr} {fd : FuncData} {ps : List Str} {sp : Sp} {dvs : List V} {ds : List Value} {E : XK} {x m : Str} {p pos apos : Pos} {e o : Expr} {es : List Expr} {ta : TE} {t : TA}
theorem U6 {pins : List (Addr × Obj)} {σ : St} {H : Hp} {s : Shared} {Q : VK} {us : List Value} {vs : List V} (F : GP X.prog X.w X.K X.mg X.base CX k f fd ps sp) (hr : DP k X.A) (hb : Binds X.K fd ps ds) (hd : Vals dvs ds) (hx : Passes CX X E)
    (I : Inv X pins σ H s) (r : Vals vs us) (h : sp (vs ++ dvs) H Q E) : wpAny (model X.prog X.w) X.A (call (.ref f) us) (EP X pins σ Q) X.xe s := by
  have r2 : Vals (vs ++ dvs) (us ++ ds) := r.append hd
  have hl : (us ++ ds).length = ps.length := by rw [← r2.length]; exact F.len _ _ _ _ h
  refine wpAny_call (codeAny_mono (F.run X.A X.stack s H ⟨us, []⟩ (us ++ ds) (vs ++ dvs) Q E hr I.env0 (hb s us I.kIn hl) r2 h) fun r s' hq => ?_)
  cases r with
  | error e => exact hx pins σ H s e s' I hq
  | ok fl =>
    cases fl with
    | ret u => exact I.after hq
    | next => exact False.elim hq
    | brk => exact False.elim hq
    | cont => exact False.elim hq
theorem AbF (F : GP X.prog X.w X.K X.mg X.base CX k f fd ps sp) (hr : DP k X.A) (hg : Gl X x) (hm : X.mg x = some (.ref f)) (hk : PySem.W.keepIn X.K (.ref f) = true) (hb : Binds X.K fd ps ds) (hd : Vals dvs ds) (hx : Passes CX X E)
    (ha : PA X (e :: es) t) (hdb : (x == ("__debug__" : Str)) = false := by decide) (he : starEach (e :: es) X.env = (false, eval e X.env) :: starEach es X.env := by rfl) (hpl : (backTo pos (starEach es X.env)).any (·.1) = false := by rfl) :
    PE X (.Call (.Name x p) (e :: es) [] pos) (AcW sp dvs E t) := by
  intro pins s σ H Q I h
  refine wpAny_Call_Name_kw (Rj I hg hm ?_ hdb)
  refine PySem.W.callWith_K (h₀ := X.base) I.ok.mod.kin hk (thn (ha pos pins s σ H _ I h) fun us s1 ⟨vs, H1, I1, r, q⟩ => ⟨I1.kIn, ?_⟩) he hpl
  exact U6 F hr hb hd hx I1 r q
structure Mk (K : PySem.W.Frag) (C f : Addr) : Prop where
  makes : PySem.W.makesIn K C = true
  init : PySem.W.findIn K (.ref C) "__init__" = some (some (.ref f))
  fn : PySem.W.isFn K (.ref f) = true
  kp : PySem.W.keepIn K (.ref C) = true
theorem YS {pins : List (Addr × Obj)} {σ : St} {H : Hp} {s : Shared} {Q : VK} {us : List Value} {vs : List V} (M : Mk X.K C f) (F : GP X.prog X.w X.K X.mg X.base CX k f fd ps sp) (hr : DP (k + 1) X.A) (hb : Binds X.K fd ps ds) (hd : Vals dvs ds)
    (hx : Passes CX X E) (I : Inv X pins σ H s) (r : Vals vs us)
    (h : ∀ x dx, H x = none → H dx = none → dx ≠ x → sp (.ref x :: (vs ++ dvs)) (upd (upd H dx (.own x)) x (.ins C dx [])) (fun v H2 => v = .non ∧ Q (.ref x) H2) E) :
    wpAny (model X.prog X.w) X.A (call (.ref C) us) (EP X pins σ Q) X.xe s := by
  have hq := h (s.heap.objs.size + 1) s.heap.objs.size (I.hok.fresh (Nat.le_succ _)) (I.hok.fresh (Nat.le_refl _)) (Nat.ne_of_lt (Nat.lt_succ_self _))
  have I2 := Inv.made (C := C) I
  have r2 : Vals (V.ref (s.heap.objs.size + 1) :: (vs ++ dvs)) (Value.ref (s.heap.objs.size + 1) :: (us ++ ds)) := .cons rfl (r.append hd)
  have hl : (Value.ref (s.heap.objs.size + 1) :: us ++ ds).length = ps.length := by
    have e := r2.length
    rw [F.len _ _ _ _ hq] at e
    exact e.symm
  refine wpAny_call (Yi (f := f) I.kIn M.makes M.init (beq_iff_eq.mp M.fn) (codeAny_mono (F.run _ X.stack _ _ ⟨Value.ref (s.heap.objs.size + 1) :: us, []⟩ (Value.ref (s.heap.objs.size + 1) :: (us ++ ds)) _ _ E (hr.make C us [])
    (I2.env0.make C us []) (hb _ (Value.ref (s.heap.objs.size + 1) :: us) I2.kIn hl) r2 hq) fun r s' hq' => ?_))
  cases r with
  | error e => exact hx pins σ _ _ e s' I2 hq'
  | ok fl =>
    cases fl with
    | ret u =>
      obtain ⟨v, H', I3, rv, ev, q3⟩ := I2.after hq'
      subst ev
      exact ⟨rv, ⟨V.ref (s.heap.objs.size + 1), H', I3, rfl, q3⟩⟩
    | next => exact False.elim hq'
    | brk => exact False.elim hq'
    | cont => exact False.elim hq'
theorem AbU (M : Mk X.K C f) (F : GP X.prog X.w X.K X.mg X.base CX k f fd ps sp) (hr : DP (k + 1) X.A) (hg : Gl X x) (hm : X.mg x = some (.ref C)) (hb : Binds X.K fd ps ds) (hd : Vals dvs ds) (hx : Passes CX X E)
    (ha : PA X (e :: es) t) (hdb : (x == ("__debug__" : Str)) = false := by decide) (he : starEach (e :: es) X.env = (false, eval e X.env) :: starEach es X.env := by rfl) (hpl : (backTo pos (starEach es X.env)).any (·.1) = false := by rfl) :
    PE X (.Call (.Name x p) (e :: es) [] pos) (AhG C sp dvs E t) := by
  intro pins s σ H Q I h
  refine wpAny_Call_Name_kw (Rj I hg hm ?_ hdb)
  refine PySem.W.callWith_K (h₀ := X.base) I.ok.mod.kin M.kp (thn (ha pos pins s σ H _ I h) fun us s1 ⟨vs, H1, I1, r, q⟩ => ⟨I1.kIn, ?_⟩) he hpl
  exact YS M F hr hb hd hx I1 r q
end
section
variable {X : Cx} {CX : CXT} {k : Nat} {f C : Addr} {fd : FuncData} {ps ks : List Str} {sp : Sp} {E : XK} {x m : Str} {p pos apos kpos : Pos} {e o : Expr} {es : List Expr} {kws : List Keyword} {te ta : TE} {t tk : TA} {nm : Option Str}
variable {g : List Value → List Value → List Value} {gV : List V → List V → List V}
end
structure Am (N P : List Str) (sc : Scope) : Prop where
  kind : sc.kind = .function
  co : sc.isCoroutine = false
  gen : sc.isGenerator = false
  nd : N.Nodup
  pre : N.take P.length = P
  par : ∀ x ∈ P, sc.names.lookup x = some .local ∨ sc.names.lookup x = some .cell
  nofree : ∀ y ∈ sc.names, y.2 ≠ .free
theorem QJ {kindOf : Str → Option NameKind} {x : Str} : ∀ {binds : List (Str × Value)} {m : Str → Option Value}, (∀ v, (x, v) ∉ binds) → bindL kindOf binds m x = m x
  | [], _, _ => rfl
  | (n, v) :: r, m, h => by
    unfold bindL
    rw [QJ fun w hw => h w (List.mem_cons_of_mem _ hw)]
    split
    · have : x ≠ n := by rintro rfl; exact h v List.mem_cons_self
      simp [this]
    · rfl
theorem Qk {kindOf : Str → Option NameKind} {x : Str} : ∀ {binds : List (Str × Value)} {m : Str → Option Value}, (∀ v, (x, v) ∉ binds) → bindC kindOf binds m x = m x
  | [], _, _ => rfl
  | (n, v) :: r, m, h => by
    unfold bindC
    rw [Qk fun w hw => h w (List.mem_cons_of_mem _ hw)]
    split
    · rfl
    · have : x ≠ n := by rintro rfl; exact h v List.mem_cons_self
      simp [this]
theorem Qy {kindOf : Str → Option NameKind} {x : Str} {v : Value} : ∀ {P : List Str} {vs : List Value} {i : Nat} {m : Str → Option Value}, P.Nodup → P[i]? = some x → vs[i]? = some v → kindOf x = some .local →
    bindL kindOf (P.zip vs) m x = some v
  | [], _, _, _, _, h, _, _ => by simp at h
  | _ :: _, [], _, _, _, _, h, _ => by simp at h
  | p :: P, w :: vs, 0, m, nd, h1, h2, hk => by
    simp at h1 h2; subst h1; subst h2
    show bindL kindOf ((p, w) :: P.zip vs) m p = _
    unfold bindL
    rw [QJ fun v hv => (List.nodup_cons.mp nd).1 (List.of_mem_zip hv).1, if_pos hk]
    simp
  | p :: P, w :: vs, i + 1, m, nd, h1, h2, hk => by
    show bindL kindOf ((p, w) :: P.zip vs) m x = _
    unfold bindL
    exact Qy (i := i) (List.nodup_cons.mp nd).2 (by simpa using h1) (by simpa using h2) hk
theorem Qh {kindOf : Str → Option NameKind} {x : Str} {v : Value} : ∀ {P : List Str} {vs : List Value} {i : Nat} {m : Str → Option Value}, P.Nodup → P[i]? = some x → vs[i]? = some v → kindOf x ≠ some .local →
    bindC kindOf (P.zip vs) m x = some v
  | [], _, _, _, _, h, _, _ => by simp at h
  | _ :: _, [], _, _, _, _, h, _ => by simp at h
  | p :: P, w :: vs, 0, m, nd, h1, h2, hk => by
    simp at h1 h2; subst h1; subst h2
    show bindC kindOf ((p, w) :: P.zip vs) m p = _
    unfold bindC
    rw [Qk fun v hv => (List.nodup_cons.mp nd).1 (List.of_mem_zip hv).1, if_neg hk]
    simp
  | p :: P, w :: vs, i + 1, m, nd, h1, h2, hk => by
    show bindC kindOf ((p, w) :: P.zip vs) m x = _
    unfold bindC
    exact Qh (i := i) (List.nodup_cons.mp nd).2 (by simpa using h1) (by simpa using h2) hk
def start (N : List Str) (vs : List V) : St := vs.map some ++ List.replicate (N.length - vs.length) none
def Vv (CX : CXT) (P : Program) (w : World) (K : PySem.W.Frag) (mg : Str → Option Value) (base : Heap) (N : List Str) (qual : Str) (scope : Scope) (f : Addr) (cd : Value) (A : Around) (outer : List Env) (s : Shared) (H : Hp) (E : XK) : Cx where
  prog := P
  w := w
  K := K
  mg := mg
  base := base
  A := A.deeper (envOfC qual scope s.heap.objs.size f cd)
  N := N
  s₀ := s
  H₀ := H
  env := envOfC qual scope s.heap.objs.size f cd
  outer := outer
  stack := envOfC qual scope s.heap.objs.size f cd :: outer
  ex := []
  calm := true
  fn := fun _ => true
  pn := []
  xe := fun e s' => wpAny (model P w) (A.deeper (envOfC qual scope s.heap.objs.size f cd)) (leaving (envOfC qual scope s.heap.objs.size f cd) e) (fun _ s'' => CX outer H s E e s'') (fun e' s'' => CX outer H s E e' s'') s'
theorem Tg {sc : Scope} {n : Nat} {x : Str} (h : sc.names.lookup x = some .cell) : ∃ c, (cellsFrom n sc.names []).lookup x = some c := by
  have q := PySem.W.cellsFrom_some sc.names n [] (.inl h)
  exact Option.isSome_iff_exists.mp q
theorem XH {CX : CXT} {P : Program} {w : World} {K : PySem.W.Frag} {mg : Str → Option Value} {base : Heap} {N ps : List Str} {qual : Str} {scope : Scope} {f : Addr} {cd : Value} {A : Around} {outer : List Env} {s s1 : Shared} {H : Hp} {E : XK} {us : List Value} {vs : List V}
    (S : Am N ps scope) (hd : A.handled = none) (e0 : Ut P w K mg base A outer s H) (hl : vs.length = ps.length) (r : Vals vs us)
    (x : InCallC s s.heap.objs.size (bindL (envOfC qual scope s.heap.objs.size f cd).kindOf (ps.zip us) fun _ => none) (cellsFrom (s.heap.objs.size + 1) scope.names []) (bindC (envOfC qual scope s.heap.objs.size f cd).kindOf (ps.zip us) fun _ => none) s1) :
    Inv (Vv CX P w K mg base N qual scope f cd A outer s H E) [] (start N vs) H s1 := by
  have hpl : ps.length ≤ N.length := by have := congrArg List.length S.pre; rw [List.length_take] at this; omega
  obtain ⟨h1, tk, rfl, hk⟩ := x.done
  have noA : ∀ b : Addr, b ∉ (Vv CX P w K mg base N qual scope f cd A outer s H E).ex := fun b z => absurd (show b ∈ ([] : List Addr) from z) (by simp)
  refine ⟨⟨e0.mod, S.kind, rfl, rfl, Nat.le_refl _, fun y z c h1 h2 => ?_, fun y hy => ?_, fun y c _ h => ?_, fun _ => hd, Around.frames_deeper e0.frames, .inr ⟨rfl, rfl⟩, fun b z => absurd z (noA b), e0.bs, e0.bsz, fun b _ _ => noA b, fun b z => absurd z (noA b), e0.funs, e0.frf⟩,
    rfl, e0.bare, Un.kept hk, ⟨_, x.toInCall.ns, fun i y v h1 h2 h3 => ?_⟩, fun y c h => ⟨_, x.cell y c h⟩, e0.hok.fresh (Nat.le_refl _), fun y c h => ?_, fun p hp => absurd (show p ∈ ([] : List (Addr × Obj)) from hp) (by simp), e0.hok.kept hk, ?_⟩
  · exact name_of_addr x.apart (PySem.mem_of_lookup h1) (PySem.mem_of_lookup h2)
  · have hy : scope.names.lookup y = some .cell ∨ scope.names.lookup y = some .free := hy
    rcases hy with hy | hy
    · exact Tg hy
    · exact absurd rfl (S.nofree _ (PySem.mem_of_lookup hy))
  · exact Nat.le_of_lt (x.above y c (PySem.mem_of_lookup h))
  · have hi : i < vs.length := by
      unfold start at h2
      by_cases hi : i < vs.length
      · exact hi
      · rw [List.getElem?_append_right (by simpa using hi)] at h2
        rw [List.getElem?_replicate] at h2
        split at h2 <;> cases h2
    have ha : vs[i]? = some v := by
      unfold start at h2
      rw [List.getElem?_append_left (by simpa using hi), List.getElem?_map] at h2
      cases e : vs[i]? with
      | none => rw [e] at h2; cases h2
      | some a => rw [e] at h2; cases h2; rfl
    obtain ⟨u, hu, rv⟩ := r.get ha
    have hp : ps[i]? = some y := by
      rw [← S.pre, List.getElem?_take_of_lt (by omega)]; exact h1
    have ndP : ps.Nodup := by rw [← S.pre]; exact S.nd.sublist (List.take_sublist _ _)
    refine ⟨u, rv, ?_⟩
    rcases S.par y (List.mem_of_getElem? hp) with k | k
    · exact .inl ⟨k, Qy ndP hp hu k⟩
    · obtain ⟨c, e⟩ := Tg (n := s.heap.objs.size + 1) k
      refine .inr ⟨.inl k, c, e, ?_⟩
      have q := x.cell y c e
      rw [Qh ndP hp hu (by show scope.names.lookup y ≠ _; rw [k]; decide)] at q
      exact q
  · exact e0.hok.fresh (Nat.le_of_lt (x.above y c (PySem.mem_of_lookup h)))
  · unfold start
    show _ = N.length
    rw [List.length_append, List.length_map, List.length_replicate]
    omega
theorem Agz {CX : CXT} {P : Program} {w : World} {K : PySem.W.Frag} {mg : Str → Option Value} {base : Heap} {k : Nat} {f : Addr} {name qual : Str} {params : Arguments} {body : List Stmt} {scope : Scope} {dV kV doc pm cdv ct oc : Value} {an od : Option Addr}
    {osl : Array (Option Value)} {N ps : List Str} {sp : Sp} (lk : K.lookup f = some ⟨oc, od, .func (PySem.W.fnOf name qual params body scope dV kV doc pm an cdv ct), osl⟩) (hcd : PySem.W.codeIn K cdv qual = true) (S : Am N ps scope)
    (len : ∀ vs H Q E, sp vs H Q E → vs.length = ps.length)
    (hbody : ∀ (A : Around) (outer : List Env) (s : Shared) (H : Hp) (vs : List V) (Q : VK) (E : XK), DP k (A.deeper (envOfC qual scope s.heap.objs.size f cdv)) → sp vs H Q E →
      ∃ t, PSs (Vv CX P w K mg base N qual scope f cdv A outer s H E) body t ∧ t { nx := fun _ H' => Q .non H', rt := Q } (start N vs) H) :
    GP P w K mg base CX (k + 1) f (PySem.W.fnOf name qual params body scope dV kV doc pm an cdv ct) ps sp := by
  refine ⟨len, fun A outer s H args us vs Q E hr e0 hb r hsp => ?_⟩
  have hl := len _ _ _ _ hsp
  have KX : K.In s.heap := e0.mod.kin.keeps fun b o e => (e0.bs b o e).1
  have lim : s.heap.NoLimit := e0.mod.nolimit.keeps fun b o e => (e0.bs b o e).1
  have hkind : ∀ y ∈ ps.zip us, scope.names.lookup y.1 = some .local ∨ (scope.names.lookup y.1 = some .cell ∧ ((cellsFrom (s.heap.objs.size + 1) scope.names []).lookup y.1).isSome = true) := fun ⟨n, v⟩ hy => by
    rcases S.par n (List.of_mem_zip hy).1 with q | q
    · exact .inl q
    · exact .inr ⟨q, PySem.W.cellsFrom_some _ _ _ (.inl q)⟩
  refine codeAny_call_function hr.depth (KX _ _ lk) rfl S.co S.gen rfl (PySem.W.codeRec_of KX hcd) (hb _ _ _ _ ?_)
  refine wpAny_newFunctionEnv_cells S.kind hkind fun env he s1 x => ?_
  subst he
  refine ⟨lim.keeps x.toInCall.keep, codeAny_func ?_⟩
  obtain ⟨t, ht, hq⟩ := hbody A outer s H vs Q E (hr.deeper _) hsp
  have I : Inv (Vv CX P w K mg base N qual scope f cdv A outer s H E) [] (start N vs) H s1 := XH S hr.hd e0 hl r x
  refine wpAny_mono (ht [] s1 (start N vs) H _ I hq) (fun fl s' hs => ?_) fun e s' hs => hs
  have fin : ∀ {σ' : St} {H' : Hp} {v : V} {u : Value}, Inv (Vv CX P w K mg base N qual scope f cdv A outer s H E) [] σ' H' s' → RelV v u → Q v H' → CE outer P w H s Q u s' :=
    fun {σ' H' v u} J rv q => ⟨v, H', J.os, J.bare, J.base, J.hok, rv, q⟩
  cases fl with
  | ret u =>
    obtain ⟨v, σ', H', J, rv, q⟩ := hs
    exact fin J rv q
  | next =>
    obtain ⟨σ', H', J, q⟩ := hs
    exact fin (v := V.non) (u := Value.none) J rfl q
  | brk =>
    obtain ⟨_, _, _, q⟩ := hs
    exact False.elim q
  | cont =>
    obtain ⟨_, _, _, q⟩ := hs
    exact False.elim q
end L2
namespace L2
open PySem PySem.Spec PyProof.Rows
section
variable {X : Cx} {x : Str} {p pos : Pos} {e : Expr} {es : List Expr} {t : TA} {id T : String} {r : List V → Hp → VK → Prop}
def tCB (r : List V → Hp → VK → Prop) (t : TA) : TE := fun σ H Q => t σ H fun vs H1 => r vs H1 Q
theorem Sw (hc : Jz X (.builtin id) r) (hg : Gl X x) (hm : X.mg x = none) (hv : bootBuiltins x = some (.builtin id)) (ha : PA X (e :: es) t) (hn : x ≠ "__name__" := by decide) (hdb : (x == ("__debug__" : Str)) = false := by decide)
    (he : starEach (e :: es) X.env = (false, eval e X.env) :: starEach es X.env := by rfl) (hpl : (backTo pos (starEach es X.env)).any (·.1) = false := by rfl) : PE X (.Call (.Name x p) (e :: es) [] pos) (tCB r t) := by
  intro pins s σ H Q I h
  refine wpAny_Call_Name_kw (N5 I hg hm hv ?_ hn hdb)
  exact PyProof.Rows.callWith_builtin1 (thn (ha pos pins s σ H _ I h) fun us s1 ⟨vs, H1, I1, r1, q1⟩ => hc pins s1 σ H1 vs us Q I1 r1 q1) he hpl
theorem Xa (hc : Jz X (.type T) r) (hg : Gl X x) (hm : X.mg x = none) (hv : bootBuiltins x = some (.type T)) (ha : PA X (e :: es) t) (hn : x ≠ "__name__" := by decide) (hdb : (x == ("__debug__" : Str)) = false := by decide)
    (he : starEach (e :: es) X.env = (false, eval e X.env) :: starEach es X.env := by rfl) (hpl : (backTo pos (starEach es X.env)).any (·.1) = false := by rfl) : PE X (.Call (.Name x p) (e :: es) [] pos) (tCB r t) := by
  intro pins s σ H Q I h
  refine wpAny_Call_Name_kw (N5 I hg hm hv ?_ hn hdb)
  exact PyProof.Rows.callWith_type1 (thn (ha pos pins s σ H _ I h) fun us s1 ⟨vs, H1, I1, r1, q1⟩ => hc pins s1 σ H1 vs us Q I1 r1 q1) he hpl
end
end L2
namespace HT
open PySem PyProof.Rows
def lexLt : List Int → List Int → Bool
  | [], [] => false
  | [], _ :: _ => true
  | _ :: _, [] => false
  | x :: xs, y :: ys => if x = y then lexLt xs ys else decide (x < y)
theorem Ed (x y : Int) (xs ys : List Int) : lexLt (x :: xs) (y :: ys) = if x = y then lexLt xs ys else decide (x < y) := rfl
theorem Fv : lexLt [] [] = false := rfl
theorem Ou (y : Int) (ys : List Int) : lexLt [] (y :: ys) = true := rfl
theorem Ow (x : Int) (xs : List Int) : lexLt (x :: xs) [] = false := rfl
theorem Yh (A : Around) (s : Shared) (a : Int) (t : Tok) (c : Int) (u : Tok) : ∃ e, SeqAt.EqAt A s (.int a t) (.int c u) e ∧ (e = true ↔ a = c) :=
  ⟨(a == c), SeqAt.EqAt.int_int a t c u, by simp⟩
theorem YK (A : Around) (s : Shared) (a : Int) (t : Tok) (c : Int) (u : Tok) (prog : Program) (w : World) (E : Value → Shared → Prop) (Q : Value → Shared → Prop) (h : Q (.bool (decide (a < c))) s) :
    wpAny (model prog w) A (richCompare .Lt (.int a t) (.int c u)) Q E s :=
  (PyProof.Rows.lt_int h : wpAny (model prog w) A (compareOp .Lt (.int a t) (.int c u)) Q E s)
section
open PySem.SeqAt
open PySem.AutoSeq1 (wpAny_loadPart')
open PySem.MeetsSeq PySem.MeetsSeq2 PySem.MeetsSeq3
theorem Py (l b : Addr) (items items2 : Array Value) (n n2 : Nat) (dd dd2 : Option Addr) (sl sl2 : Array (Option Value)) (ns ms : List Int) (hi : IntsAre items.toList ns) (hj : IntsAre items2.toList ms) :
    Meets (Builtin.«tuple.__lt__» ⟨[.ref l, .ref b], []⟩)
      (fun _ R s => s.heap.get? l = some { cls := .type "tuple", dict := dd, data := .seq items n, slots := sl } ∧ s.heap.get? b = some { cls := .type "tuple", dict := dd2, data := .seq items2 n2, slots := sl2 } ∧
        R (.ok (.ret (.bool (lexLt ns ms)))) s) :=
  .of_wp fun prog w A R s h => by
    obtain ⟨hp, g, d, tk, os⟩ := s; obtain ⟨hl, hb, h⟩ := h
    have f2 := AutoSeq1.sub_tuple_tuple
    have z1 : items.size = ns.length := by rw [← hi.length]; simp
    have z2 : items2.size = ms.length := by rw [← hj.length]; simp
    wp_walk using wpAny_loadPart' hl, wpAny_loadPart' hb, wpAny_forIn_list _ (fun rest b s' => b.1 = none ∧ s' = ⟨hp, g, d, tk, os⟩ ∧ ∃ (vs ws : List Value) (ns' ms' : List Int), rest = vs.zip ws ∧
      IntsAre vs ns' ∧ IntsAre ws ms' ∧ ns'.length + items2.size = ms'.length + items.size ∧ R (.ok (.ret (.bool (lexLt ns' ms')))) ⟨hp, g, d, tk, os⟩) _
    case turn =>
      rintro ⟨y, x⟩ rest b s' ⟨hb', rfl, vs, ws, ns', ms', hz, hvi, hwi, hlen, hR⟩
      cases hvi with
      | nil => rw [List.zip_nil_left] at hz; cases hz
      | cons a t hvi' =>
        cases hwi with
        | nil => rw [List.zip_nil_right] at hz; cases hz
        | cons c u hwi' =>
          rw [List.zip_cons_cons] at hz
          injection hz with hyx hrest
          injection hyx with hy hx
          subst hy hx
          rw [Ed] at hR
          simp only [List.length_cons] at hlen
          obtain ⟨e, he, hiff⟩ := Yh A.in1 ⟨hp, g, d, tk, os⟩ a t c u
          refine wpAny_bind (he prog w _ _ ?_)
          cases e with
          | true =>
            rw [if_pos (hiff.mp rfl)] at hR
            wp_walk
            exact ⟨rfl, rfl, _, _, _, _, hrest, hvi', hwi', by omega, hR⟩
          | false =>
            rw [if_neg (fun q => absurd (hiff.mpr q) Bool.false_ne_true)] at hR
            have hri := YK A.in1 ⟨hp, g, d, tk, os⟩ a t c u prog w
            wp_walk using hri
            exact ⟨_, rfl, by simpa using hR⟩
    case fin =>
      rintro ⟨b1, b2⟩ s' ⟨hb', rfl, vs, ws, ns', ms', hz, hvi, hwi, hlen, hR⟩
      simp only at hb'
      subst hb'
      have hv : lexLt ns' ms' = decide (items.size < items2.size) := by
        cases hvi with
        | nil =>
          cases hwi with
          | nil =>
            simp only [List.length_nil] at hlen
            rw [Fv]
            exact (decide_eq_false (by omega)).symm
          | cons c u hw =>
            simp only [List.length_nil, List.length_cons] at hlen
            rw [Ou]
            exact (decide_eq_true (by omega)).symm
        | cons a t hv =>
          cases hwi with
          | nil =>
            simp only [List.length_nil, List.length_cons] at hlen
            rw [Ow]
            exact (decide_eq_false (by omega)).symm
          | cons c u hw =>
            rw [List.zip_cons_cons] at hz
            cases hz
      rw [hv] at hR
      wp_walk
      exact ⟨_, rfl, by simpa [Builtin.Tuple.tupleCompareSizes] using hR⟩
    case h =>
      exact ⟨rfl, rfl, items.toList, items2.toList, ns, ms, rfl, hi, hj, by omega, h⟩
end
section
variable {prog : Program} {w : World} {A : Around} {E : Value → Shared → Prop} {s : Shared}
theorem JL {l b : Addr} {items items2 : Array Value} {ns ms : List Int} {Q : Value → Shared → Prop} (hl : IsTup s.heap l items) (hb : IsTup s.heap b items2) (hi : IntsAre items.toList ns) (hj : IntsAre items2.toList ms)
    (hu : A.units < cLine) (h : Q (.bool (lexLt ns ms)) s) : wpAny (model prog w) A (compareOp .Lt (.ref l) (.ref b)) Q E s := by
  obtain ⟨⟨cls, dd, data, sl⟩, ho, hc, n, hd⟩ := id hl
  obtain ⟨⟨cls2, dd2, data2, sl2⟩, ho2, hc2, n2, hd2⟩ := id hb
  simp only at hc hd hc2 hd2
  subst hc hd hc2 hd2
  exact richCompare_meets_room (op := .Lt) ⟨_, ho, rfl⟩ ⟨_, ho2, rfl⟩ PySem.F.slot_tuple_lt PySem.F.entry_tuple_lt (PySem.F.args_tuple_lt_2 _ _) (Py l b items items2 n n2 dd dd2 sl sl2 ns ms hi hj)
    ⟨ho, ho2, show Value.bool (lexLt ns ms) ≠ Value.notImplemented ∧ Q (.bool (lexLt ns ms)) s from ⟨(fun x => nomatch x), h⟩⟩ hu
def sIx (n d : Nat) : Option Int → Nat
  | none => d
  | some v => if v < 0 then (v + (n : Int)).toNat else min v.toNat n
theorem Afq (n d : Nat) : sIx n d none = d := rfl
theorem AiJ (n d k : Nat) : sIx n d (some (k : Int)) = min k n := by
  show (if (k : Int) < 0 then ((k : Int) + (n : Int)).toNat else min (k : Int).toNat n) = min k n
  rw [if_neg (by omega), Int.toNat_natCast]
end
end HT
namespace L2
open PySem PySem.Spec PyProof.Rows
abbrev TO := St → Hp → (Option Int → Hp → Prop) → Prop
def PO (X : Cx) (e : Option Expr) (t : TO) : Prop :=
  ∀ (pins : List (Addr × Obj)) (s : Shared) (σ : St) (H : Hp) (Q : Option Int → Hp → Prop), Inv X pins σ H s → t σ H Q →
    wpAny (model X.prog X.w) X.A (evalPart e X.env) (fun u s' => ∃ o H', Inv X pins σ H' s' ∧ IsPart u o ∧ Q o H') X.xe s
def AhX (t : TE) : TO := fun σ H Q => t σ H fun x H1 => ∃ i, x = .int i ∧ Q (some i) H1
theorem intsAre_of {ns : List Int} : ∀ {us : List Value}, Vals (ns.map V.int) us → IntsAre us ns := by
  induction ns with
  | nil => intro us r; rw [List.map_nil] at r; cases r; exact .nil
  | cons n ns ih =>
    intro us r
    rw [List.map_cons] at r
    cases r with
    | cons r1 r2 =>
      obtain ⟨t, e⟩ := r1
      subst e
      exact .cons n t (ih r2)
section
variable {X : Cx} {e : Expr} {te : TE} {lo hi : Option Expr} {tl th : TO} {pos p2 : Pos}
theorem AaF (h : PE X e te) : PO X (some e) (AhX te) := by
  intro pins s σ H Q I hw
  rw [evalPart_some]
  refine thn (h pins s σ H _ I hw) fun u s1 ⟨x, H1, I1, r1, q1⟩ => ?_
  obtain ⟨i, rfl, q⟩ := q1
  obtain ⟨t, rfl⟩ := r1
  exact ⟨some i, H1, I1, .int i t, q⟩
def SlR (X : Cx) (r : V → Option Int → Option Int → Hp → VK → Prop) : Prop :=
  ∀ (pins : List (Addr × Obj)) (s : Shared) (σ : St) (H : Hp) (x : V) (v vl vu : Value) (lo hi : Option Int) (sl : Addr) (Q : VK), Inv X pins σ H s → RelV x v → s.heap.IsSliceOf sl vl vu .none → IsPart vl lo → IsPart vu hi → r x lo hi H Q →
    ∃ T id, typeLookup (.type T) "__getitem__" = pure (some (.builtin id)) ∧ s.TypeIs v T ∧ wpAny (model X.prog X.w) X.A (getItem v (.ref sl)) (EP X pins σ Q) X.xe s
def tSl (r : V → Option Int → Option Int → Hp → VK → Prop) (te : TE) (tl th : TO) : TE := fun σ H Q => te σ H fun x H1 => tl σ H1 fun l H2 => th σ H2 fun u H3 => r x l u H3 Q
theorem Zv {r : V → Option Int → Option Int → Hp → VK → Prop} (hr : SlR X r) (he : PE X e te) (hl : PO X lo tl) (hu : PO X hi th) : PE X (.Subscript e (.Slice lo hi none p2) pos) (tSl r te tl th) := by
  intro pins s σ H Q I h
  refine Subscript_ (thn (he pins s σ H _ I h) fun v s1 ⟨x, H1, I1, r1, q1⟩ => ?_)
  refine wpAny_Slice (thn (hl pins s1 σ H1 _ I1 q1) fun vl s2 ⟨l, H2, I2, pl, q2⟩ => thn (hu pins s2 σ H2 _ I2 q2) fun vu s3 ⟨u, H3, I3, pu, q3⟩ => ?_)
  rw [evalPart_none]
  refine wpAny_pure ?_
  have I4 : Inv X pins σ H3 { s3 with heap := s3.heap.push { cls := .type "slice", data := .fields #[vl, vu, .none] } } := I3.kept (t' := s3.toks) fun b ob q => Heap.get?_push_of_some _ q
  obtain ⟨T, id, hT, ht, hg⟩ := hr pins { s3 with heap := s3.heap.push { cls := .type "slice", data := .fields #[vl, vu, .none] } } σ H3 x v vl vu l u s3.heap.objs.size Q I4 r1 (Heap.IsSliceOf.new ..) pl pu q3
  show wpAny (model X.prog X.w) X.A (subscriptTail e (.Slice lo hi none p2) v (.ref s3.heap.objs.size)) (EP X pins σ Q) X.xe { s3 with heap := s3.heap.push { cls := .type "slice", data := .fields #[vl, vu, .none] } }
  exact tail_any (ops := [.ref s3.heap.objs.size, v]) ht hT hg (by with_unfolding_all rfl)
def Xg (xs : List V) (lo hi : Option Int) : List V := (xs.drop (HT.sIx xs.length 0 lo)).take (HT.sIx xs.length xs.length hi - HT.sIx xs.length 0 lo)
theorem SM (xs : List V) (lo hi : Option Int) : (Xg xs lo hi).length ≤ xs.length := by
  unfold Xg
  rw [List.length_take, List.length_drop]
  omega
end
end L2
namespace L2
open PySem PySem.Spec PyProof.Rows
def ixN (n : Nat) (i : Int) : Option Nat := if 0 ≤ i then (if i < n then some i.toNat else none) else if -(n : Int) ≤ i then some (i + n).toNat else none
def atI {α : Type} (xs : List α) (i : Int) : Option α := (ixN xs.length i).bind fun j => xs[j]?
theorem Ab7 {n : Nat} {i : Int} {j : Nat} (h : ixN n i = some j) : seqIndex? i n = some j ∧ j < n ∧ -(n : Int) ≤ i ∧ i < n := by
  unfold ixN at h
  by_cases h0 : 0 ≤ i
  · rw [if_pos h0] at h
    by_cases h1 : i < n
    · rw [if_pos h1] at h
      have e : i.toNat = j := Option.some.inj h
      exact ⟨by rw [seqIndex_of h0 h1, e], by omega, by omega, h1⟩
    · rw [if_neg h1] at h; cases h
  · rw [if_neg h0] at h
    by_cases h1 : -(n : Int) ≤ i
    · rw [if_pos h1] at h
      have e : (i + n).toNat = j := Option.some.inj h
      exact ⟨by rw [seqIndex_neg (by omega) h1, e], by omega, h1, by omega⟩
    · rw [if_neg h1] at h; cases h
theorem R7 {α : Type} {xs : List α} {i : Int} {v : α} (h : atI xs i = some v) : ∃ j, seqIndex? i xs.length = some j ∧ xs[j]? = some v ∧ j < xs.length ∧ -(xs.length : Int) ≤ i ∧ i < xs.length := by
  unfold atI at h
  cases e : ixN xs.length i with
  | none => rw [e] at h; cases h
  | some j =>
    rw [e] at h
    obtain ⟨h1, h2, h3, h4⟩ := Ab7 e
    exact ⟨j, h1, h, h2, h3, h4⟩
theorem AaM {α : Type} {xs : List α} {j : Nat} {v : α} (h : xs[j]? = some v) : atI xs (j : Int) = some v := by
  have hj : j < xs.length := (List.getElem?_eq_some_iff.mp h).1
  have e : ixN xs.length (j : Int) = some j := by
    unfold ixN
    rw [if_pos (by omega), if_pos (by omega)]; simp
  unfold atI; rw [e]; exact h
def Q7 (b : Expr) : Prop := ∀ o i, subscripted b false o i = operate [o, i] (getItem o i)
def IxR (X : Cx) (r : R2) : Prop :=
  ∀ (value slice : Expr) (pins : List (Addr × Obj)) (s : Shared) (σ : St) (H : Hp) (x y : V) (v u : Value) (Q : VK), Inv X pins σ H s → RelV x v → RelV y u → r x y H Q →
    subscripted slice false v u = operate [v, u] (getItem v u) → wpAny (model X.prog X.w) X.A (subscriptTail value slice v u) (EP X pins σ Q) X.xe s
def MtR (X : Cx) (id : String) (r : V → List V → Hp → VK → Prop) : Prop :=
  ∀ (pins : List (Addr × Obj)) (s : Shared) (σ : St) (H : Hp) (x : V) (xs : List V) (v : Value) (us : List Value) (Q : VK), Inv X pins σ H s → RelV x v → Vals xs us → r x xs H Q →
    wpAny (model X.prog X.w) X.A (call (.builtin id) (v :: us)) (EP X pins σ Q) X.xe s
section
variable {X : Cx} {a b : Expr} {ta tb : TE} {pos : Pos}
theorem IxR.or {r r' : R2} (h : IxR X r) (h' : IxR X r') : IxR X (fun x y H Q => r x y H Q ∨ r' x y H Q) := by
  intro value slice pins s σ H x y v u Q I rx ry q hs
  rcases q with q | q
  · exact h value slice pins s σ H x y v u Q I rx ry q hs
  · exact h' value slice pins s σ H x y v u Q I rx ry q hs
theorem Ahf {r : R2} (hr : IxR X r) (ha : PE X a ta) (hb : PE X b tb) (hs : Q7 b) : PE X (.Subscript a b pos) (tOp r ta tb) := by
  intro pins s σ H Q I h
  exact Subscript_ (Adt ha hb I h fun v u s2 x y H2 I2 rx ry q => hr a b pins s2 σ H2 x y v u Q I2 rx ry q (hs _ _))
def Ae8 (K : PySem.W.Frag) : R2 := fun x y H Q => ∃ p xs i v, x = .ref p ∧ y = .int i ∧ SqL K H p xs ∧ atI xs i = some v ∧ Q v H
def Ahq (K : PySem.W.Frag) : R2 := fun x y H Q => ∃ p xs i v, x = .ref p ∧ y = .int i ∧ SqT K H p xs ∧ atI xs i = some v ∧ Q v H
def Aid : R2 := fun x y H Q => ∃ z i c, x = .str z ∧ y = .int i ∧ z.length ≤ sizeLine ∧ atI z.cps.toList i = some c ∧ Q (.str ⟨#[c]⟩) H
theorem AbD : IxR X (Ae8 X.K) := by
  intro value slice pins s σ H x y v u Q I rx ry h hs
  obtain ⟨p, xs, i, z, rfl, rfl, hq, he, q⟩ := h
  cases rx
  obtain ⟨t, rfl⟩ := ry
  obtain ⟨its, r, pl, hz⟩ := I.list hq
  obtain ⟨j, h1, h2, h3, h4, h5⟩ := R7 he
  obtain ⟨w, ew, rw'⟩ := r.get h2
  have hl := r.length
  have hn := Q5
  have fin : EP X pins σ Q w s := ⟨z, H, I, rw', q⟩
  by_cases h0 : 0 ≤ i
  · have hj : i.toNat = j := by
      rw [seqIndex_of h0 h5] at h1
      exact Option.some.inj h1
    exact item_listR pl.isList h0 (by omega) (by rw [hj]; simpa using ew) fin hs
  · have hj : (i + (its.toArray.size : Int)).toNat = j := by
      rw [seqIndex_neg (by omega) h4] at h1
      rw [List.size_toArray, ← hl]
      exact Option.some.inj h1
    exact subscriptTail_builtinR (x := w) pl.isList.typeIs slot_list_getitem.lookup
      (wpAny_getItem_list_neg (Q := fun r s' => r = w ∧ EP X pins σ Q r s') pl.isList (by omega) (by rw [List.size_toArray] <;> omega) (by omega) (by rw [hj]; simpa using ew) ⟨rfl, fin⟩) hs
theorem Adq : IxR X (Ahq X.K) := by
  intro value slice pins s σ H x y v u Q I rx ry h hs
  obtain ⟨p, xs, i, z, rfl, rfl, hq, he, q⟩ := h
  cases rx
  obtain ⟨t, rfl⟩ := ry
  obtain ⟨its, r, pl, hz⟩ := I.tuple hq
  obtain ⟨j, h1, h2, h3, h4, h5⟩ := R7 he
  obtain ⟨w, ew, rw'⟩ := r.get h2
  have hl := r.length
  have hn := Q5
  have fin : EP X pins σ Q w s := ⟨z, H, I, rw', q⟩
  exact subscriptTail_builtinR (x := w) pl.typeIs slot_tuple_getitem.lookup
    (getItem_tuple (j := j) (Q := fun r s' => r = w ∧ EP X pins σ Q r s') pl (by omega) (by omega) (by rw [List.size_toArray, ← hl]; exact h1) (by simpa using ew) ⟨rfl, fin⟩) hs
theorem AdM : IxR X Aid := by
  intro value slice pins s σ H x y v u Q I rx ry h hs
  obtain ⟨z, i, c, rfl, rfl, hz, he, q⟩ := h
  obtain ⟨t, rfl⟩ := rx
  obtain ⟨t', rfl⟩ := ry
  obtain ⟨j, h1, h2, h3, h4, h5⟩ := R7 he
  have hl : z.cps.toList.length = z.length := by simp [Str.length]
  rw [hl] at h1 h4 h5
  have hn := Q5
  exact tail_any (typeIs_str s z t) slot_str_getitem.lookup (getItem_str (c := c) (by
    have e1 : decide (i < -(2 ^ 63 : Int)) = false := decide_eq_false (by omega)
    have e2 : decide (i ≥ 2 ^ 63) = false := decide_eq_false (by omega)
    rw [e1, e2, Bool.or_false]) (by rw [h1]; simpa using h2) ⟨.str ⟨#[c]⟩, H, I.tok _, ⟨_, rfl⟩, q⟩) hs
def rIx (K : PySem.W.Frag) : R2 := fun x y H Q => Ae8 K x y H Q ∨ Ahq K x y H Q ∨ Aid x y H Q
theorem AeG : IxR X (rIx X.K) := AbD.or (Adq.or AdM)
theorem RV (lo hi : Option Int) (n : Nat) : (sliceBounds lo hi none n).1 = ((HT.sIx n 0 lo : Nat) : Int) ∧ (sliceBounds lo hi none n).2.1 = ((HT.sIx n n hi : Nat) : Int) ∧ (sliceBounds lo hi none n).2.2 = 1 := by
  refine ⟨?_, ?_, rfl⟩
  · cases lo with
    | none => simp [sliceBounds, HT.sIx]
    | some i =>
      simp only [sliceBounds, HT.sIx, Option.getD_none, show (1 : Int) > 0 by decide, if_true]
      by_cases h : i < 0
      · simp only [h, if_true] <;> omega
      · simp only [h, if_false] <;> omega
  · cases hi with
    | none => simp [sliceBounds, HT.sIx]
    | some i =>
      simp only [sliceBounds, HT.sIx, Option.getD_none, show (1 : Int) > 0 by decide, if_true]
      by_cases h : i < 0
      · simp only [h, if_true] <;> omega
      · simp only [h, if_false] <;> omega
theorem Pq (its : List Value) (lo hi : Option Int) : slicePick its.toArray lo hi none = ((its.drop (HT.sIx its.length 0 lo)).take (HT.sIx its.length its.length hi - HT.sIx its.length 0 lo)).toArray := by
  obtain ⟨h1, h2, h3⟩ := RV lo hi its.toArray.size
  unfold slicePick
  rw [h1, h2, h3]
  simp only [sliceRange_one, pick_run, List.size_toArray] <;> rfl
def AkY (K : PySem.W.Frag) : V → Option Int → Option Int → Hp → VK → Prop := fun x lo hi H Q => ∃ a xs, x = .ref a ∧ SqL K H a xs ∧ ∀ p, H p = none → Q (.ref p) (upd H p (.lst (Xg xs lo hi)))
theorem Abb : SlR X (AkY X.K) := by
  intro pins s σ H x v vl vu lo hi sl Q I rx hs pl pu h
  obtain ⟨a, xs, rfl, hx, q⟩ := h
  cases rx
  obtain ⟨its, r, ht, hz⟩ := I.list hx
  have hlen := r.length
  refine ⟨"list", _, slot_list_getitem.lookup, ht.isList.typeIs, ?_⟩
  refine wpAny_getItem_list_slice ht.isList hs pl pu .none (by simp) ?_ (by rw [List.size_toArray] <;> omega)
  rw [Pq, ← hlen]
  refine ⟨.ref s.heap.objs.size, _, I.laid (t' := s.toks) (o := .lst (Xg xs lo hi)) (fun b ob q => Heap.get?_push_of_some _ q) (Nat.le_refl _) ?_, rfl, q _ (I.hok.fresh (Nat.le_refl _))⟩
  exact ⟨Nat.le_trans (SM xs lo hi) hz, _, 0, (r.drop (HT.sIx xs.length 0 lo)).take (HT.sIx xs.length xs.length hi - HT.sIx xs.length 0 lo), Heap.get?_push_size _ rfl⟩
theorem Q6 : Jz X (.builtin "len") (fun xs H Q => ∃ p ys, xs = [.ref p] ∧ (SqL X.K H p ys ∨ SqT X.K H p ys) ∧ Q (.int ys.length) H) := by
  intro pins s σ H xs us Q I r h
  obtain ⟨p, ys, rfl, hq, q⟩ := h
  obtain ⟨u, rfl, rx⟩ := vals1 r
  cases rx
  have hn := Q5
  rcases hq with hq | hq
  · obtain ⟨its, r', pl, hz⟩ := I.list hq
    have hlen := r'.length
    exact Calls.call_len_list pl.isList (by simp only [List.size_toArray] <;> omega) ⟨.int ys.length, H, I.tok _, ⟨s.toks + 1, by rw [List.size_toArray, hlen]⟩, q⟩
  · obtain ⟨its, r', pl, hz⟩ := I.tuple hq
    have hlen := r'.length
    exact len_tuple pl (by simp only [List.size_toArray] <;> omega) ⟨.int ys.length, H, I.tok _, ⟨s.toks + 1, by rw [List.size_toArray, hlen]⟩, q⟩
theorem Qa : Jz X (.type "tuple") (fun xs H Q => ∃ p ys, xs = [.ref p] ∧ ((SqL X.K H p ys ∧ ∀ l, H l = none → Q (.ref l) (upd H l (.tup ys))) ∨ (SqT X.K H p ys ∧ Q (.ref p) H))) := by
  intro pins s σ H xs us Q I r h
  obtain ⟨p, ys, rfl, h⟩ := h
  obtain ⟨u, rfl, rx⟩ := vals1 r
  cases rx
  rcases h with ⟨hq, q⟩ | ⟨hq, q⟩
  · obtain ⟨its, r', pl, hz⟩ := I.list hq
    have hlen := r'.length
    refine call_tuple_list pl.isList (fun h' kp => ?_) (by simp only [List.size_toArray] <;> omega)
    have I1 : Inv X pins σ H { s with heap := h' } := I.kept (t' := s.toks) kp
    have I2 : Inv X pins σ (upd H h'.objs.size (.tup ys)) { s with heap := h'.push { cls := .type "tuple", data := .seq its.toArray } } :=
      I1.laid (t' := s.toks) (fun b o e => Heap.get?_push_of_some _ e) (Nat.le_refl _) (show Gu X.prog X.w _ _ _ (.tup ys) from ⟨hz, its, r', IsTup.new _ _⟩)
    exact ⟨.ref h'.objs.size, _, I2, rfl, q _ (I1.hok.fresh (Nat.le_refl _))⟩
  · obtain ⟨its, r', pl, hz⟩ := I.tuple hq
    exact call_tuple_same pl ⟨.ref p, H, I, rfl, q⟩
def tyV (K : PySem.W.Frag) (T : String) (x : V) (H : Hp) : Prop := match x with
  | .str _ => T = "str"
  | .int _ => T = "int"
  | .ref p => (T = "list" ∧ ∃ xs, SqL K H p xs) ∨ (T = "tuple" ∧ ∃ o, K.lookup p = some o ∧ o.cls = .type "tuple" ∧ o.dict = none) ∨
      (T = "dict" ∧ ((∃ kvs, H p = some (.dK kvs)) ∨ ∃ kvs, H p = some (.dT kvs))) ∨ (T = "set" ∧ ∃ S n, H p = some (.set S n))
  | _ => False
theorem YF {pins : List (Addr × Obj)} {σ : St} {H : Hp} {s : Shared} {T : String} {x : V} {v : Value} (I : Inv X pins σ H s) (r : RelV x v) (ty : tyV X.K T x H) :
    s.TypeIs v T ∧ ∀ a, v = .ref a → ∃ ob, s.heap.get? a = some ob ∧ ob.dict = none := by
  cases x with
  | str z =>
    obtain ⟨t, rfl⟩ := r
    cases (show T = "str" from ty)
    exact ⟨typeIs_str s z t, fun _ e => nomatch e⟩
  | int i =>
    obtain ⟨t, rfl⟩ := r
    cases (show T = "int" from ty)
    exact ⟨typeIs_int s i t, fun _ e => nomatch e⟩
  | ref p =>
    cases r
    rcases ty with ⟨rfl, xs, hq⟩ | ⟨rfl, o, hk, hc, hd⟩ | ⟨rfl, hk⟩ | ⟨rfl, S, n, hk⟩
    · obtain ⟨its, _, pl, _⟩ := I.list hq
      refine ⟨pl.isList.typeIs, fun a e => ?_⟩
      cases e
      obtain ⟨o, n, e, c, hd, _⟩ := pl
      exact ⟨o, e, hd⟩
    · refine ⟨⟨o, I.kIn p o hk, hc⟩, fun a e => ?_⟩
      cases e
      exact ⟨o, I.kIn _ o hk, hd⟩
    · have z : ∃ o, s.heap.get? p = some o ∧ o.ExactDict := by
        rcases hk with ⟨kvs, hk⟩ | ⟨kvs, hk⟩
        · obtain ⟨_, _, _, _, o, _, _, e, ex, _⟩ := I.hok p _ hk
          exact ⟨o, e, ex⟩
        · obtain ⟨_, _, _, _, o, _, _, e, ex, _⟩ := I.hok p _ hk
          exact ⟨o, e, ex⟩
      obtain ⟨o, e, ex⟩ := z
      refine ⟨⟨o, e, ex.1⟩, fun a e2 => ?_⟩
      cases e2
      exact ⟨o, e, ex.2.1⟩
    · obtain ⟨o, _, _, _, e, ex, _⟩ := I.hok p _ hk
      refine ⟨⟨o, e, ex.1⟩, fun a e2 => ?_⟩
      cases e2
      exact ⟨o, e, ex.2.1⟩
  | _ => exact False.elim ty
def AkP (K : PySem.W.Frag) (T : String) (r : V → List V → Hp → VK → Prop) (to : TE) : TE := fun σ H Q => to σ H fun x H1 => tyV K T x H1 ∧ r x [] H1 Q
def tBM (K : PySem.W.Frag) (T : String) (r : V → List V → Hp → VK → Prop) (to : TE) (t : TA) : TE := fun σ H Q => to σ H fun x H1 => tyV K T x H1 ∧ t σ H1 fun xs H2 => r x xs H2 Q
variable {o e : Expr} {es : List Expr} {to : TE} {t : TA} {name : Str} {apos cpos : Pos} {T id : String} {r : V → List V → Hp → VK → Prop}
theorem Ads (pa : PlainAttrs T) (slot : Slot T name id) (hty : typeOf (.builtin id) = pure (.type "method_descriptor")) (hm : MtR X id r) (ho : PE X o to)
    (hbase : attributeBase o name X.env (eval o X.env) = eval o X.env := by rfl) (hline : (apos.endLine == cpos.line) = true := by rfl) : PE X (.Call (.Attribute o name apos) [] [] cpos) (AkP X.K T r to) := by
  intro pins s σ H Q I h
  refine wpAny_Call_method0_late hbase hline (thn (ho pins s σ H _ I h) fun v s1 ⟨x, H1, I1, r1, ty, q1⟩ => ?_)
  obtain ⟨h1, h2⟩ := YF I1 r1 ty
  exact ⟨T, id, pa, slot, hty, h1, h2, Calls.callWith_builtin rfl (PySem.evalArgs_none (hm pins s1 σ H1 x [] v [] Q I1 r1 .nil q1))⟩
theorem Aho (pa : PlainAttrs T) (slot : Slot T name id) (hty : typeOf (.builtin id) = pure (.type "method_descriptor")) (hm : MtR X id r) (ho : PE X o to) (ha : PA X (e :: es) t)
    (hbase : attributeBase o name X.env (eval o X.env) = eval o X.env := by rfl)
    (hfew : ((backTo cpos (starEach (e :: es) X.env)).all (fun x => !x.1) && (backToKw cpos (keywordEach [] X.env)).all (fun x => x.1.isSome)
      && decide ((e :: es).length + ([] : List Keyword).length + (if ([] : List Keyword).isEmpty then 0 else 1) < 30)) = true := by rfl)
    (hline : (apos.endLine == cpos.line) = true := by rfl) (hs : starEach (e :: es) X.env = (false, eval e X.env) :: starEach es X.env := by rfl) (hplain : (backTo cpos (starEach es X.env)).any (·.1) = false := by rfl) :
    PE X (.Call (.Attribute o name apos) (e :: es) [] cpos) (tBM X.K T r to t) := by
  intro pins s σ H Q I h
  refine wpAny_Call_method_late hbase hfew hline rfl (thn (ho pins s σ H _ I h) fun v s1 ⟨x, H1, I1, r1, ty, q1⟩ => ?_)
  obtain ⟨h1, h2⟩ := YF I1 r1 ty
  refine ⟨T, id, pa, slot, hty, h1, h2, ?_⟩
  have hA := ha cpos pins s1 σ H1 _ I1 q1
  rw [hs] at hA ⊢
  refine Calls.callWith_builtin (by show (false || (backTo cpos (starEach es X.env)).any (·.1)) = false; rw [hplain] <;> rfl) (Calls.evalArgs_plain ?_)
  exact thn hA fun us s2 ⟨vs, H2, I2, r2, q2⟩ => hm pins s2 σ H2 x vs v us Q I2 r1 r2 q2
end
end L2
namespace L2
open PySem PySem.Spec PyProof.Rows
def MtM (X : Cx) (id : String) (r : V → List V → Hp → VK → Prop) : Prop :=
  ∀ (pins : List (Addr × Obj)) (s : Shared) (σ : St) (H : Hp) (x : V) (xs : List V) (v : Value) (us : List Value) (Q : VK), Inv X pins σ H s → RelV x v → Vals xs us → r x xs H Q →
    wpAny (model X.prog X.w) X.A (call (.builtin id) (v :: us)) (EP X pins σ Q) X.xe s
theorem Vals.one : ∀ {x : V} {us : List Value}, Vals [x] us → ∃ u, us = [u] ∧ RelV x u
  | _, _, .cons r .nil => ⟨_, rfl, r⟩
section
variable {X : Cx} {pins : List (Addr × Obj)} {σ : St} {H : Hp} {s : Shared} {l b : Addr} {xs ys zs : List V}
theorem Inv.lset {its its' : List Value} {n : Nat} {f : Array Value → Array Value} {t' : Nat} (I : Inv X pins σ H s) (hH : H l = some (.lst xs))
    (e : s.heap.get? l = some { cls := .type "list", data := .seq its.toArray n }) (hf : f its.toArray = its'.toArray) (hv : Vals ys its') (hz : ys.length ≤ sizeLine) :
    Inv X pins σ (upd H l (.lst ys)) { s with heap := s.heap.update l (Obj.mapSeq f), toks := t' } := by
  have q := PySem.IsL.update e f
  rw [hf] at q
  refine I.write (x := l) (e := l) (by rw [hH]; exact trivial) (.inl rfl) (fun b' u hb hu => (Heap.get?_update_other s.heap (Obj.mapSeq f) (Ne.symm hb)).trans hu) ⟨_, q⟩ ?_
  exact ⟨hz, its', _, hv, q⟩
theorem Inv.lnew {its : List Value} {t' : Nat} (I : Inv X pins σ H s) (hv : Vals ys its) (hz : ys.length ≤ sizeLine) :
    Inv X pins σ (upd H s.heap.objs.size (.lst ys)) { s with heap := s.heap.push { cls := .type "list", data := .seq its.toArray }, toks := t' } :=
  I.laid (fun _ _ q => Heap.get?_push_of_some _ q) (Nat.le_refl _) ⟨hz, its, 0, hv, Heap.get?_push_size _ rfl⟩
theorem Inv.fresh (I : Inv X pins σ H s) : H s.heap.objs.size = none := I.hok.fresh (Nat.le_refl _)
theorem Inv.lstM (I : Inv X pins σ H s) (hH : H l = some (.lst xs)) : xs.length ≤ sizeLine ∧ ∃ (its : List Value) (n : Nat), Vals xs its ∧ xs.length = its.length ∧ s.heap.get? l = some { cls := .type "list", data := .seq its.toArray n } := by
  obtain ⟨z, its, n, r, e⟩ := I.hok l _ hH
  exact ⟨z, its, n, r, r.length, e⟩
end
section
variable {X : Cx}
def Abk : V → List V → Hp → VK → Prop := fun x vs H Q => ∃ l xs y, x = .ref l ∧ vs = [y] ∧ H l = some (.lst xs) ∧ xs.length < sizeLine ∧ Q .non (upd H l (.lst (xs ++ [y])))
theorem Ld : MtM X "list.append" Abk := by
  intro pins s σ H x vs v us Q I rx rv h
  obtain ⟨l, xs, y, rfl, rfl, hH, hz, q⟩ := h
  cases rx
  obtain ⟨u, rfl, ru⟩ := rv.one
  obtain ⟨z, its, n, r, hl, e⟩ := I.lstM hH
  refine call_meets F.slot_list_append ⟨_, e, rfl⟩ F.entry_list_append (F.args_list_append_2 _ _) (PySem.list_append l its.toArray n u (by rw [List.size_toArray]; omega)) ⟨e, ?_⟩
  refine ⟨.non, _, I.lset (its' := its ++ [u]) hH e (by simp) (r.append (.cons ru .nil)) ?_, rfl, q⟩
  rw [List.length_append, List.length_singleton]
  omega
end
section
variable {prog : Program} {w : World} {A : Around} {E : Value → Shared → Prop} {s : Shared}
set_option maxRecDepth 100000 in
end
section
variable {X : Cx}
end
end L2
namespace Att
open PySem PySem.W PySem.Calls PyProof.Rows
theorem Mt {P : Params} {h : Heap} : ∀ (ns : List Int) (vs : List Value), WellAll P h vs (ns.map WData.int) → IntsAre vs ns := by
  intro ns
  induction ns with
  | nil =>
    intro vs w
    rw [List.map_nil] at w
    cases w
    exact .nil
  | cons n ns ih =>
    intro vs w
    rw [List.map_cons] at w
    cases w with
    | cons a b =>
      cases a
      exact .cons _ _ (ih _ b)
theorem WW {l : OpenLaw} {n : Nat} (hn : l.most = some n) {P : Params} {h : Heap} {args : List WData} {vals : List Value}
    (hpre : l.row.toRowW.claim.pre args = true) (hwl : WellAll P h vals args) :
    ∃ a vs ns, vals = [Value.ref a] ∧ args = [WData.list (ns.map WData.int)] ∧ h.get? a = some { cls := .type "list", data := .seq vs.toArray } ∧ IntsAre vs ns ∧ ns.length ≤ n := by
  have hsh : WShape.hasAll [] args [.list .int] = true := (pre_splitW hpre).1
  have hc : l.pre.holds [] { args := args } = true := (pre_splitW hpre).2
  obtain ⟨d, r, rfl, h1, h2⟩ := hasAllW_cons hsh
  obtain rfl := hasAllW_nil h2
  obtain ⟨xs, rfl, h3⟩ := hasW_list h1
  obtain ⟨ns, rfl⟩ := items_int h3
  have hlen : ns.length ≤ n := by
    unfold OpenLaw.pre at hc
    have h4 : (WTm.not (.lt (.lit (.int (n : Int))) (.len (.arg 0)))).holds [] { args := [.list (ns.map .int)] } = true := by
      have h4 := (holds_andW hc).1
      rw [hn] at h4
      exact h4
    have h5 := condW_of h4 (w_not (w_lt w_lit (w_len_list (w_arg rfl))))
    rw [List.length_map] at h5
    refine Nat.le_of_not_lt fun q => ?_
    have q' : (n : Int) < ((ns.length : Nat) : Int) := by omega
    first
      | (rw [decide_eq_true q'] at h5; exact absurd h5 (by decide))
      | (simp at h5; omega)
  cases hwl with
  | cons w1 w2 =>
    cases w2
    cases w1 with
    | list ho hall => exact ⟨_, _, ns, rfl, rfl, ho, Mt ns _ hall, hlen⟩
theorem Xz (l : OpenLaw) (args : List WData) : l.row.toRowW.claim.post args (.bool true) args = true :=
  postW_of (r := l.row.toRowW) (X := (true == true))
    (show WShape.has [] (.bool true) .bool = true by first | rfl | decide | simp [WShape.has, WShape.arms, WShape.armsAll])
    (show (WTm.eq .res (.lit (.bool true))).value [] { args := args, res := some (.bool true), after := args } = some (.bool (true == true)) from w_eq_bool (w_res rfl) w_lit) rfl
theorem Ui {l : OpenLaw} {n : Nat} {q : Program} {loose : List Str} {XP : (Str → Option Value) → Heap → Prop} {YP : World → Heap → Prop} {d : DefRec}
    (hn : l.most = some n) (hdf : d.params.defaults = [])
    (call : ∀ (w : World) (s₀ s₁ : Shared) (mg mb : Str → Option Value) (fa : Addr) (o : Obj) (pm cd doc : Value) (a : Addr) (vs : List Value) (ns : List Int),
      Ground q loose [] XP w s₀ mg mb s₁.heap → YP w s₁.heap →
      s₁.heap.get? fa = some o → o.data = .func (docDef d.name d.params d.body d.scope pm cd doc) → s₁.heap.CodeRec cd d.name → mg d.name = some (.ref fa) →
      s₁.heap.get? a = some { cls := .type "list", data := .seq vs.toArray } → IntsAre vs ns → ns.length ≤ n → s₁.gens = #[] →
      codeAny (model l.prog w) callerA (.call (.ref fa) ⟨[.ref a], []⟩) (fun r s' => r = .ok (.ret (.bool true)) ∧ OldK s₁.heap s'.heap ∧ s'.os = s₁.os ∧ AllBare s'.gens) s₁) :
    WalkO q loose XP YP l.row.toRowW d [] (fun f vs => PySem.call f vs) := by
  intro w s₀ s₁ mg mb G Y fa o pm cd doc dV kV ho hd hcd hD hmg hg args vals as hpre hlay hrd hwl hlo
  obtain rfl : dV = .none := Dflts.none hD hdf
  obtain rfl : kV = .none := Dflts.noKw hD
  obtain ⟨a, vs, ns, rfl, rfl, hobj, hints, hlen⟩ := WW hn hpre hwl
  refine enter_call (codeAny_mono (call w s₀ s₁ mg mb fa o pm cd doc a vs ns G Y ho (fd_plain hd) hcd hmg hobj hints hlen hg) fun r s' hq => ?_)
  obtain ⟨rfl, h2, h3, h4⟩ := hq
  exact ⟨.inl ⟨.bool true, .bool true, [], rfl, fun _ => rfl, .bool true, Xz l _, fun _ => ⟨List.Pairwise.nil, fun _ hm => (nomatch hm)⟩⟩, h2, h3, h4⟩
section
variable {prog : Program} {w : World} {A : Around} {E : Value → Shared → Prop} {s : Shared} {K : Frag}
def ledger (h : Heap) (L d : Addr) : List (Addr × Obj) := (List.range h.objs.size).filterMap fun a => if a = L ∨ a = d then none else (h.get? a).map fun o => (a, o)
end
end Att
namespace L2
open PySem PySem.Spec PyProof.Rows
theorem Qs : ∀ {vs : List Value} {ns : List Int}, IntsAre vs ns → Vals (ns.map V.int) vs
  | _, _, .nil => .nil
  | _, _, .cons n t h => .cons ⟨t, rfl⟩ (Qs h)
def Only (H : Hp) : Prop := ∀ b, H b = none ∨ ∃ o xs, H b = some (.frz o (.lst xs))
theorem Z8 {P : Program} {w : World} {K : PySem.W.Frag} {mg mb : Str → Option Value} {CX : CXT} {k : Nat} {fa a : Addr} {fd : FuncData} {x : Str} {sp : Sp} {s₁ : Shared} {vs : List Value} {ns : List Int}
    (KX : K.In s₁.heap) (hns : s₁.heap.Ns mainGlobals mg) (hb : s₁.heap.Ns builtinsNs mb) (hbb : ∀ x : Str, x ≠ "__name__" → mb x = bootBuiltins x) (hlim : s₁.heap.NoLimit) (hg : s₁.gens = #[])
    (ha : s₁.heap.get? a = some { cls := .type "list", data := .seq vs.toArray }) (hi : IntsAre vs ns) (hl : ns.length ≤ sizeLine) (hr : DP k callerA)
    (F : ∀ base : Heap, K.In base → base.Ns mainGlobals mg → GP P w K mg base CX k fa fd [x] sp) (hbind : ∀ (s : Shared) (u : Value), BindsTo s fd ⟨[u], []⟩ [(x, u)])
    (hsp : ∀ H : Hp, Only H → SqL K H a (ns.map V.int) → sp [.ref a] H (fun v _ => v = .bl true) fun _ _ _ => False)
    (hCX : ∀ H e s', CX [] H s₁ (fun _ _ _ => False) e s' → False) :
    codeAny (model P w) callerA (.call (.ref fa) ⟨[.ref a], []⟩) (fun r s' => r = .ok (.ret (.bool true)) ∧ OldK s₁.heap s'.heap ∧ s'.os = s₁.os ∧ AllBare s'.gens) s₁ := by
  have rv := Qs hi
  have lenV := hi.length
  have core : ∀ H : Hp, Only H → SqL K H a (ns.map V.int) → HOk P w H s₁.heap → (∀ b, H b ≠ none → b = a) → (H a ≠ none → K.lookup a = none) →
      codeAny (model P w) callerA (.call (.ref fa) ⟨[.ref a], []⟩) (fun r s' => r = .ok (.ret (.bool true)) ∧ OldK s₁.heap s'.heap ∧ s'.os = s₁.os ∧ AllBare s'.gens) s₁ := by
    intro H hO hS hok hA hK
    have base_of : ∀ {b : Addr} {o : Obj}, s₁.heap.get? b = some o → H b = none → (RD s₁.heap H).get? b = some o := fun e n => X5 e n
    have noA : ∀ {b : Addr} {o : Obj} {es : Array DictEntry} {ep : Nat}, s₁.heap.get? b = some o → o.data = .dict es ep → H b = none := fun {b o es ep} e d => by
      cases q : H b with
      | none => rfl
      | some u =>
        have e' : b = a := hA b (by rw [q]; simp)
        subst e'
        rw [ha] at e; cases e
        have d' : Data.seq vs.toArray _ = Data.dict es ep := d
        cases d'
    have nsK : ∀ {b : Addr} {m : Str → Option Value}, s₁.heap.Ns b m → (RD s₁.heap H).Ns b m := fun {b m} ⟨o, es, ep, e, d, r⟩ => ⟨o, es, ep, base_of e (noA e d), d, r⟩
    have hKb : K.In (RD s₁.heap H) := fun b o e => base_of (KX b o e) (by
      cases q : H b with
      | none => rfl
      | some u =>
        have e' : b = a := hA b (by rw [q]; simp)
        subst e'
        rw [hK (by rw [q]; simp)] at e; cases e)
    have hM : Mod K mg (RD s₁.heap H) := ⟨hKb, nsK hns, ⟨mb, nsK hb, hbb⟩, let ⟨mc, h1, h2⟩ := hlim; ⟨mc, nsK h1, h2⟩⟩
    have e0 : Ut P w K mg (RD s₁.heap H) callerA [] s₁ H := ⟨rfl, hM, fun b o e => AaW e, Nat.le_of_eq (Xb _ _), trivial, fun b hb => absurd (show b ∈ ([] : List Addr) from hb) (by simp), hok, .of_eq hg⟩
    refine codeAny_mono ((F _ hKb (nsK hns)).run callerA [] s₁ H ⟨[.ref a], []⟩ [.ref a] [.ref a] _ _ hr e0 (hbind s₁ (.ref a)) (.cons rfl .nil) (hsp H hO hS)) fun r s' h => ?_
    cases r with
    | error e => exact (hCX H e s' h).elim
    | ok fl =>
      cases fl with
      | next => exact False.elim h
      | brk => exact False.elim h
      | cont => exact False.elim h
      | ret u =>
        obtain ⟨v, H', os, bare, un, hok', r', q⟩ := h
        have q' : v = .bl true := q
        subst q'
        obtain rfl : u = Value.bool true := r'
        refine ⟨rfl, OldK.of_keep fun b o e => ?_, os, bare⟩
        cases q : H b with
        | none => exact un.keep b o e q (by intro z; exact absurd (show b ∈ ([] : List Addr) from z) (by simp)) (by simp)
        | some u =>
          rcases hO b with z | ⟨ob, xs, z⟩
          · rw [q] at z; cases z
          · have z2 := un.frzs b ob _ z
            obtain ⟨e1, _⟩ := hok b _ z
            obtain ⟨e2, _⟩ := hok' b _ z2
            rw [e] at e1; cases e1
            exact e2
  cases hk : K.lookup a with
  | some o =>
    have e := KX a o hk
    rw [ha] at e
    cases e
    refine core (fun _ => none) (fun _ => .inl rfl) (.inr ⟨_, vs.toArray, _, hk, rfl, rfl, rfl, by rw [List.size_toArray, lenV]; exact hl, by simpa using rv⟩) (fun b u z => by have z' : (none : Option HO) = some u := z; cases z') (fun b z => absurd rfl z) fun z => absurd rfl z
  | none =>
    refine core (fun b => if b = a then some (.frz { cls := .type "list", data := .seq vs.toArray } (.lst (ns.map V.int))) else none) (fun b => ?_) (.inl (.inr ⟨{ cls := .type "list", data := .seq vs.toArray }, if_pos rfl⟩)) (fun b u z => ?_) (fun b z => ?_) fun _ => hk
    · by_cases hb : b = a
      · exact .inr ⟨_, _, if_pos hb⟩
      · exact .inl (if_neg hb)
    · by_cases hb : b = a
      · have z' := (if_pos hb).symm.trans z
        cases z'
        subst hb
        exact ⟨ha, by rw [List.length_map]; exact hl, vs, _, rv, ha⟩
      · have z' := (if_neg hb).symm.trans z
        cases z'
    · by_cases hb : b = a
      · exact hb
      · exact absurd (if_neg hb) z
end L2
namespace L2
open PySem PySem.Spec PyProof.Rows
abbrev KOf {K : PySem.W.Frag} {h : Heap} (_ : K.In h) : PySem.W.Frag := K
theorem AaZ {l : PySem.W.OpenLaw} {n k : Nat} {q : Program} {loose : List Str} {XP : (Str → Option Value) → Heap → Prop} {YP : World → Heap → Prop} {d : DefRec} {K : Params → PySem.W.Frag} {CX : World → CXT} {sp : World → Sp} {x : Str}
    (hn : l.most = some n) (hn2 : n ≤ sizeLine) (hdf : d.params.defaults = []) (hr : DP k callerA)
    (hY : ∀ (w : World) (h : Heap), YP w h → (K w.params).In h)
    (F : ∀ (w : World) (mg : Str → Option Value) (fa : Addr) (h : Heap), (K w.params).In h → h.Ns mainGlobals mg → mg d.name = some (.ref fa) →
      ∃ fd : FuncData, (∀ (s : Shared) (u : Value), BindsTo s fd ⟨[u], []⟩ [(x, u)]) ∧
        ∀ base : Heap, (K w.params).In base → base.Ns mainGlobals mg → GP l.prog w (K w.params) mg base (CX w) k fa fd [x] (sp w))
    (hsp : ∀ (w : World) (H : Hp) (a : Addr) (ns : List Int), ns.length ≤ n → Only H → SqL (K w.params) H a (ns.map V.int) → sp w [.ref a] H (fun v _ => v = .bl true) fun _ _ _ => False)
    (hCX : ∀ (w : World) (H : Hp) (s : Shared) (e : Value) (s' : Shared), CX w [] H s (fun _ _ _ => False) e s' → False) :
    PySem.W.WalkO q loose XP YP l.row.toRowW d [] (fun f vs => PySem.call f vs) := by
  refine Att.Ui hn hdf fun w s₀ s₁ mg mb fa o pm cd doc a vs ns G Y ho hd hcd hmg hobj hints hlen hg => ?_
  have KX := hY w _ Y
  obtain ⟨fd, hb, hF⟩ := F w mg fa _ KX G.T.g hmg
  exact Z8 KX G.T.g G.T.b G.T.builtins G.T.nolimit hg hobj hints (Nat.le_trans hlen hn2) hr hF hb (fun H hO hS => hsp w H a ns hlen hO hS) fun H e s' => hCX w H s₁ e s'
end L2
namespace L2
open PySem PySem.Spec PyProof.Rows
def inClass (s : Stmt) (j : Nat) : Stmt := match s with
  | .ClassDef _ _ _ body _ _ _ _ _ _ _ => body.getD j (.Pass ⟨0, 0, 0, 0⟩)
  | _ => .Pass ⟨0, 0, 0, 0⟩
def Eb (s : Stmt) : Arguments := match s with
  | .FunctionDef _ a _ _ _ _ _ _ _ _ => a
  | _ => { posonlyargs := [], args := [], vararg := none, kwonlyargs := [], kw_defaults := [], kwarg := none, defaults := [] }
def Dk (s : Stmt) : List Stmt := match s with
  | .FunctionDef _ _ b _ _ _ _ _ _ _ => b
  | _ => []
def Ai (s : Stmt) : Scope := match s with
  | .FunctionDef _ _ _ _ _ _ sc _ _ _ => sc
  | _ => { kind := .function, names := [], isGenerator := false, isCoroutine := false }
abbrev CX0 : CXT := fun _ _ _ _ _ _ => False
abbrev E0 : XK := fun _ _ _ => False
theorem V7 {X : Cx} : Passes CX0 X E0 := fun _ _ _ _ _ _ _ h => h.elim
structure Fun (K : PySem.W.Frag) (x qual : Str) (st : Stmt) (f : Addr) (fd : FuncData) : Prop where
  ex : ∃ (oc : Value) (od : Option Addr) (kV doc pm : Value) (an : Option Addr) (cdv ct : Value) (osl : Array (Option Value)),
    fd = PySem.W.fnOf x qual (Eb st) (Dk st) (Ai st) .none kV doc pm an cdv ct ∧ K.lookup f = some ⟨oc, od, .func fd, osl⟩ ∧ PySem.W.codeIn K cdv qual = true
  kp : PySem.W.keepIn K (.ref f) = true
section
variable {P : Program} {w : World} {K : PySem.W.Frag} {mg : Str → Option Value} {base : Heap}
theorem Fun.ok {x qual : Str} {st : Stmt} {f : Addr} {fd : FuncData} {N ps : List Str} {k : Nat} {sp : Sp} (F : Fun K x qual st f fd) (S : Am N ps (Ai st)) (len : ∀ vs H Q E, sp vs H Q E → vs.length = ps.length)
    (hbody : ∀ (cdv : Value) (A : Around) (outer : List Env) (s : Shared) (H : Hp) (vs : List V) (Q : VK) (E : XK), DP k (A.deeper (envOfC qual (Ai st) s.heap.objs.size f cdv)) → sp vs H Q E →
      ∃ t, PSs (Vv CX0 P w K mg base N qual (Ai st) f cdv A outer s H E).nox (Dk st) t ∧ t { nx := fun _ H' => Q .non H', rt := Q } (start N vs) H) : GP P w K mg base CX0 (k + 1) f fd ps sp := by
  obtain ⟨oc, od, kV, doc, pm, an, cdv, ct, osl, rfl, lk, hcd⟩ := F.ex
  refine Agz lk hcd S len fun A outer s H vs Q E hr hsp => ?_
  obtain ⟨t, h, q⟩ := hbody cdv A outer s H vs Q E hr hsp
  exact ⟨t, h.nox, q⟩
theorem Fun.binds {x qual : Str} {st : Stmt} {f : Addr} {fd : FuncData} {ps : List Str} (F : Fun K x qual st f fd)
    (h : ∀ (kV doc pm : Value) (an : Option Addr) (cdv ct : Value) (us : List Value), us.length = ps.length → bindArgs (PySem.W.fnOf x qual (Eb st) (Dk st) (Ai st) .none kV doc pm an cdv ct) ⟨us, []⟩ = pure (ps.zip us)) : Binds K fd ps [] := by
  obtain ⟨oc, od, kV, doc, pm, an, cdv, ct, osl, rfl, lk, hcd⟩ := F.ex
  exact .all (h kV doc pm an cdv ct)
theorem Lr {x qual : Str} {st : Stmt} {f : Addr} {oc : Value} {od an : Option Addr} {osl : Array (Option Value)} {kV doc pm cdv ct : Value} (l : K.lookup f = some ⟨oc, od, .func (PySem.W.fnOf x qual (Eb st) (Dk st) (Ai st) .none kV doc pm an cdv ct), osl⟩)
    (c : PySem.W.codeIn K cdv qual = true) (k : PySem.W.keepIn K (.ref f) = true) : Fun K x qual st f (PySem.W.fnOf x qual (Eb st) (Dk st) (Ai st) .none kV doc pm an cdv ct) := ⟨⟨oc, od, kV, doc, pm, an, cdv, ct, osl, rfl, l, c⟩, k⟩
end
theorem W6 {n : Nat} (h : n ≤ 1000) : n < sizeLine := Nat.lt_of_le_of_lt h (by decide)
section
variable {X : Cx}
end
theorem Ek {c A B : Prop} [Decidable c] (h1 : c → A) (h2 : ¬ c → B) : if c then A else B := by
  by_cases h : c
  · rw [if_pos h]
    exact h1 h
  · rw [if_neg h]
    exact h2 h
def Same (H H' : Hp) : Prop := ∀ b o, H b = some o → H' b = some o
theorem Same.refl (H : Hp) : Same H H := fun _ _ h => h
theorem Same.trans {H H1 H2 : Hp} (a : Same H H1) (b : Same H1 H2) : Same H H2 := fun c o h => b c o (a c o h)
theorem Same.seq {K : PySem.W.Frag} {H H' : Hp} {a : Addr} {xs : List V} (e : Same H H') (h : SqL K H a xs) : SqL K H' a xs := by
  rcases h with (h | ⟨o, h⟩) | h
  · exact .inl (.inl (e _ _ h))
  · exact .inl (.inr ⟨o, e _ _ h⟩)
  · exact .inr h
end L2
namespace L2
open PySem PySem.Spec PyProof.Rows
def exO (a C dx : Addr) (h : Heap) : Prop := ∃ o vs, h.get? a = some o ∧ o.cls = .ref C ∧ o.dict = some dx ∧ o.data = .fields vs ∧ dx ≠ a
section
variable {M : Model} {A : Around} {E : Value → Shared → Prop} {s : Shared} {base : Heap} {env : Env} {outer : List Env} {L e : Addr}
end
section
variable {P : Program} {w : World} {H : Hp} {h h' : Heap} {fs : List Addr} {e : Addr} {oe : Obj} {vs : Array Value} {old : Option Addr} {φ : Heap → Prop}
end
end L2
namespace L2
open PySem PySem.Spec PyProof.Rows
section
variable {X : Cx} {pins : List (Addr × Obj)} {σ : St} {H : Hp} {s : Shared} {a : Addr} {E : Value → Shared → Prop} {Q : Unit → Shared → Prop}
end
section
variable {X : Cx} {k : Nat} {f : Addr} {fd : FuncData} {ps : List Str} {sp : Sp} {x : Str} {p pos : Pos} {e : Expr} {es : List Expr} {t : TA}
end
end L2
namespace L2
open PySem PySem.Spec PyProof.Rows
abbrev bmV : List Value := [.type "ValueError", .type "Exception", .type "BaseException", .type "object"]
def AjY (es : Array DictEntry) : Bool := es.toList.all fun e => match e.key with | .str _ _ => true | _ => false
structure XC (K : PySem.W.Frag) (C F : Addr) : Prop where
  obj : ∃ nm q N bs sn sub ab col dd k0 k1 k2 k3 k5, K.lookup C = some (excClassObj nm q C N bs (.ref F :: bmV) true sn sub ab col dd k0 k1 k2 k3 k5 "ValueError.__new__")
  tail : ∃ c0 dd cd sl oc od es ep sl', K.lookup F = some ⟨c0, dd, .cls cd, sl⟩ ∧ K.lookup cd.ns = some ⟨oc, od, .dict es ep, sl'⟩ ∧ AjY es = true ∧ nsFind es "__init__" = none
  sa : PySem.W.findIn K (.ref C) "__setattr__" = some (some (.builtin "object.__setattr__"))
  ga : PySem.W.findIn K (.ref C) "__getattribute__" = some (some (.builtin "BaseException.__getattribute__"))
  gh : PySem.W.findIn K (.ref C) "__getattr__" = some none
  cl : PySem.W.findIn K (.ref C) "__class__" = some (some (.builtin "object.__class__"))
  gg : PySem.W.specialIn K (.builtin "object.__class__") "__get__" = some (some (.builtin "getset_descriptor.__get__"))
  gt : PySem.W.takesIn K (.builtin "object.__class__") = some true
section
variable {prog : Program} {w : World} {A : Around} {E : Value → Shared → Prop} {s : Shared} {K : PySem.W.Frag} {C U fI : Addr} {rest : List Value}
end
end L2
namespace L2
open PySem PySem.Spec PyProof.Rows PySem.W PySem.Builtin PySem.Builtin.ObjectAttr
section
variable {prog : Program} {w : World} {A : Around} {E : Value → Shared → Prop} {s : Shared} {K : PySem.W.Frag} {C U x : Addr} {name : Str} {v : Value}
end
end L2
namespace L2
open PySem PySem.Spec PyProof.Rows PySem.W PySem.Builtin PySem.Builtin.ObjectAttr
section
variable {prog : Program} {w : World} {A : Around} {E : Value → Shared → Prop} {s : Shared} {K : PySem.W.Frag} {C U x : Addr} {name : Str} {v : Value} {ox : Obj} {od : Option Obj}
end
end L2
namespace L2
open PySem PySem.Spec PyProof.Rows PySem.SeqAt
inductive Dt where
  | non | bl (b : Bool) | int (i : Int) | str (x : Str) | tup (ds : List Dt) | lst (ds : List Dt) | fn (a : Addr)
    | exc (c : Str) (ns : List Str) (ds : List Dt)
    | obj (c : Str) (ns : List Str) (ds : List Dt)
def LsD (K : PySem.W.Frag) (H : Hp) (a : Addr) (xs : List V) : Prop := H a = some (.lst xs) ∨ (SqL K H a xs ∧ ∀ x ∈ xs, ∃ i : Int, x = .int i)
theorem LsD.sq {K : PySem.W.Frag} {H : Hp} {a : Addr} {xs : List V} (h : LsD K H a xs) : SqL K H a xs := by
  rcases h with h | ⟨h, _⟩
  · exact SqL.of h
  · exact h
theorem LsD.mono {K : PySem.W.Frag} {H H' : Hp} {a : Addr} {xs : List V} (s : Same H H') (h : LsD K H a xs) : LsD K H' a xs := by
  rcases h with h | ⟨h, q⟩
  · exact .inl (s _ _ h)
  · exact .inr ⟨s.seq h, q⟩
mutual
def Rp (K : PySem.W.Frag) (H : Hp) : Dt → V → Prop
  | .non, v => v = .non
  | .bl b, v => v = .bl b
  | .int i, v => v = .int i
  | .str x, v => v = .str x
  | .fn a, v => v = .ref a
  | .exc c ns ds, v => ∃ a C U dx vs, v = .ref a ∧ PySem.W.nsIn K mainGlobals c = some (some (.ref C)) ∧ XC K C U ∧ H a = some (.ext (exO a C dx)) ∧ H dx = some (.xd (ns.zip vs)) ∧ ns.length = ds.length ∧ RpL K H ds vs
  | .obj c ns ds, v => ∃ a C dx vs, v = .ref a ∧ PySem.W.nsIn K mainGlobals c = some (some (.ref C)) ∧ Cls K C ∧ H a = some (.ins C dx (ns.zip vs)) ∧ ns.length = ds.length ∧ RpL K H ds vs
  | .tup ds, v => ∃ a xs, v = .ref a ∧ SqT K H a xs ∧ RpL K H ds xs
  | .lst ds, v => ∃ a xs, v = .ref a ∧ LsD K H a xs ∧ RpL K H ds xs
def RpL (K : PySem.W.Frag) (H : Hp) : List Dt → List V → Prop
  | [], xs => xs = []
  | d :: ds, xs => ∃ v r, xs = v :: r ∧ Rp K H d v ∧ RpL K H ds r
end
theorem Same.seqT {K : PySem.W.Frag} {H H' : Hp} {a : Addr} {xs : List V} (e : Same H H') (h : SqT K H a xs) : SqT K H' a xs := by
  rcases h with (h | ⟨o, h⟩) | h
  · exact .inl (.inl (e _ _ h))
  · exact .inl (.inr ⟨o, e _ _ h⟩)
  · exact .inr h
mutual
theorem Rp.mono {K : PySem.W.Frag} {H H' : Hp} (s : Same H H') : ∀ {d : Dt} {v : V}, Rp K H d v → Rp K H' d v
  | .non, _, h => by unfold Rp at h ⊢; exact h
  | .bl _, _, h => by unfold Rp at h ⊢; exact h
  | .int _, _, h => by unfold Rp at h ⊢; exact h
  | .str _, _, h => by unfold Rp at h ⊢; exact h
  | .fn _, _, h => by unfold Rp at h ⊢; exact h
  | .exc _ _ _, _, h => by
    unfold Rp at h ⊢
    obtain ⟨a, C, U, dx, vs, e, q, x, h1, h2, l, r⟩ := h
    exact ⟨a, C, U, dx, vs, e, q, x, s _ _ h1, s _ _ h2, l, RpL.mono s r⟩
  | .obj _ _ _, _, h => by
    unfold Rp at h ⊢
    obtain ⟨a, C, dx, vs, e, q, x, h1, l, r⟩ := h
    exact ⟨a, C, dx, vs, e, q, x, s _ _ h1, l, RpL.mono s r⟩
  | .tup ds, _, h => by
    unfold Rp at h ⊢
    obtain ⟨a, xs, e, q, r⟩ := h
    exact ⟨a, xs, e, s.seqT q, RpL.mono s r⟩
  | .lst ds, _, h => by
    unfold Rp at h ⊢
    obtain ⟨a, xs, e, q, r⟩ := h
    exact ⟨a, xs, e, q.mono s, RpL.mono s r⟩
theorem RpL.mono {K : PySem.W.Frag} {H H' : Hp} (s : Same H H') : ∀ {ds : List Dt} {vs : List V}, RpL K H ds vs → RpL K H' ds vs
  | [], _, h => by unfold RpL at h ⊢; exact h
  | d :: ds, _, h => by
    unfold RpL at h ⊢
    obtain ⟨v, r, e, q, p⟩ := h
    exact ⟨v, r, e, Rp.mono s q, RpL.mono s p⟩
end
section
variable {K : PySem.W.Frag} {H : Hp}
theorem Q0 {v : V} : Rp K H .non v ↔ v = .non := by unfold Rp; exact Iff.rfl
theorem Dz {b : Bool} {v : V} : Rp K H (.bl b) v ↔ v = .bl b := by unfold Rp; exact Iff.rfl
theorem Bm {i : Int} {v : V} : Rp K H (.int i) v ↔ v = .int i := by unfold Rp; exact Iff.rfl
theorem Rb {x : Str} {v : V} : Rp K H (.str x) v ↔ v = .str x := by unfold Rp; exact Iff.rfl
theorem Vm {c : Str} {ns : List Str} {ds : List Dt} {v : V} : Rp K H (.obj c ns ds) v ↔ ∃ a C dx vs, v = .ref a ∧ PySem.W.nsIn K mainGlobals c = some (some (.ref C)) ∧ Cls K C ∧ H a = some (.ins C dx (ns.zip vs)) ∧ ns.length = ds.length ∧ RpL K H ds vs := by rw [Rp]
theorem CP {ds : List Dt} {v : V} : Rp K H (.tup ds) v ↔ ∃ a xs, v = .ref a ∧ SqT K H a xs ∧ RpL K H ds xs := by rw [Rp]
theorem RX {ds : List Dt} {v : V} : Rp K H (.lst ds) v ↔ ∃ a xs, v = .ref a ∧ LsD K H a xs ∧ RpL K H ds xs := by rw [Rp]
theorem Kg {ds : List Dt} {v : V} (h : ∃ a xs, v = .ref a ∧ H a = some (.lst xs) ∧ RpL K H ds xs) : Rp K H (.lst ds) v := let ⟨a, xs, e, h1, h2⟩ := h; RX.mpr ⟨a, xs, e, .inl h1, h2⟩
theorem Gj {ds : List Dt} {v : V} (h : Rp K H (.lst ds) v) : ∃ a xs, v = .ref a ∧ SqL K H a xs ∧ RpL K H ds xs := let ⟨a, xs, e, h1, h2⟩ := RX.mp h; ⟨a, xs, e, h1.sq, h2⟩
theorem Aao {ns : List Int} {a : Addr} (h : SqL K H a (ns.map V.int)) (r : RpL K H (ns.map Dt.int) (ns.map V.int)) : Rp K H (.lst (ns.map Dt.int)) (.ref a) := RX.mpr ⟨a, _, rfl, .inr ⟨h, fun x hx => by obtain ⟨i, _, rfl⟩ := List.mem_map.mp hx; exact ⟨i, rfl⟩⟩, r⟩
theorem BZ {vs : List V} : RpL K H [] vs ↔ vs = [] := by rw [RpL]
theorem Ax {d : Dt} {ds : List Dt} {vs : List V} : RpL K H (d :: ds) vs ↔ ∃ v r, vs = v :: r ∧ Rp K H d v ∧ RpL K H ds r := by rw [RpL]
theorem RpL.nil : RpL K H [] [] := BZ.mpr rfl
theorem RpL.cons {d : Dt} {ds : List Dt} {v : V} {vs : List V} (h : Rp K H d v) (r : RpL K H ds vs) : RpL K H (d :: ds) (v :: vs) := Ax.mpr ⟨v, vs, rfl, h, r⟩
theorem RpL.len : ∀ {ds : List Dt} {vs : List V}, RpL K H ds vs → vs.length = ds.length
  | [], _, h => by rw [BZ.mp h]; rfl
  | d :: ds, _, h => by
    obtain ⟨v, r, rfl, _, p⟩ := Ax.mp h
    simp [RpL.len p]
theorem RpL.get : ∀ {ds : List Dt} {vs : List V} {i : Nat} {d : Dt}, RpL K H ds vs → ds[i]? = some d → ∃ v, vs[i]? = some v ∧ Rp K H d v
  | [], _, _, _, _, e => by simp at e
  | d :: ds, _, 0, _, h, e => by
    obtain ⟨v, r, rfl, q, p⟩ := Ax.mp h
    simp at e; subst e
    exact ⟨v, rfl, q⟩
  | d :: ds, _, i + 1, _, h, e => by
    obtain ⟨v, r, rfl, q, p⟩ := Ax.mp h
    obtain ⟨u, e1, e2⟩ := RpL.get (i := i) p (by simpa using e)
    exact ⟨u, by simpa using e1, e2⟩
theorem RpL.get' : ∀ {ds : List Dt} {vs : List V} {i : Nat} {v : V}, RpL K H ds vs → vs[i]? = some v → ∃ d, ds[i]? = some d ∧ Rp K H d v
  | [], _, _, _, h, e => by rw [BZ.mp h] at e; simp at e
  | d :: ds, _, 0, _, h, e => by
    obtain ⟨v, r, rfl, q, p⟩ := Ax.mp h
    simp at e; subst e
    exact ⟨d, rfl, q⟩
  | d :: ds, _, i + 1, _, h, e => by
    obtain ⟨v, r, rfl, q, p⟩ := Ax.mp h
    obtain ⟨u, e1, e2⟩ := RpL.get' (i := i) p (by simpa using e)
    exact ⟨u, by simpa using e1, e2⟩
theorem RpL.append : ∀ {ds es : List Dt} {vs ws : List V}, RpL K H ds vs → RpL K H es ws → RpL K H (ds ++ es) (vs ++ ws)
  | [], _, _, _, h, q => by rw [BZ.mp h]; exact q
  | d :: ds, _, _, _, h, q => by
    obtain ⟨v, r, rfl, a, p⟩ := Ax.mp h
    exact .cons a (RpL.append p q)
theorem RpL.drop : ∀ {ds : List Dt} {vs : List V} (n : Nat), RpL K H ds vs → RpL K H (ds.drop n) (vs.drop n)
  | _, _, 0, h => by simpa using h
  | [], _, n + 1, h => by rw [BZ.mp h]; simpa using RpL.nil
  | d :: ds, _, n + 1, h => by
    obtain ⟨v, r, rfl, a, p⟩ := Ax.mp h
    simpa using RpL.drop n p
theorem RpL.take : ∀ {ds : List Dt} {vs : List V} (n : Nat), RpL K H ds vs → RpL K H (ds.take n) (vs.take n)
  | _, _, 0, h => by simpa using RpL.nil
  | [], _, n + 1, h => by rw [BZ.mp h]; simpa using RpL.nil
  | d :: ds, _, n + 1, h => by
    obtain ⟨v, r, rfl, a, p⟩ := Ax.mp h
    simpa using RpL.cons a (RpL.take n p)
theorem RpL.ints : ∀ (ns : List Int), RpL K H (ns.map Dt.int) (ns.map V.int)
  | [] => RpL.nil
  | _ :: ns => RpL.cons (Bm.mpr rfl) (RpL.ints ns)
end
def mask (O : List Addr) (H : Hp) : Hp := fun a => if a ∈ O then none else H a
theorem CW {O : List Addr} {H : Hp} {a : Addr} (h : a ∈ O) : mask O H a = none := if_pos h
theorem Az {O : List Addr} {H : Hp} {a : Addr} (h : a ∉ O) : mask O H a = H a := if_neg h
theorem Cp {O : List Addr} {H : Hp} {a : Addr} {o : HO} (h : mask O H a = some o) : a ∉ O ∧ H a = some o := by
  by_cases q : a ∈ O
  · rw [CW q] at h; cases h
  · rw [Az q] at h; exact ⟨q, h⟩
theorem Bs {O : List Addr} {H : Hp} : Same (mask O H) H := fun _ _ h => (Cp h).2
theorem Same.mask {O : List Addr} {H H' : Hp} (s : Same H H') : Same (mask O H) (L2.mask O H') := fun a o h => by
  obtain ⟨q, e⟩ := Cp h
  rw [Az q]; exact s a o e
theorem Gs {O O' : List Addr} {H : Hp} (h : ∀ a ∈ O', a ∈ O) : Same (mask O H) (mask O' H) := fun a o e => by
  obtain ⟨q, e⟩ := Cp e
  rw [Az fun z => q (h a z)]; exact e
theorem Same.upd {H : Hp} {p : Addr} {o : HO} (h : H p = none) : Same H (L2.upd H p o) := fun a u e => by
  rw [Bc (Bu e h)]; exact e
inductive En where
  | is (d : Dt) | own (ds : List Dt)
abbrev Cd := List (Option En)
abbrev DTE := Cd → (Dt → Prop) → Prop
abbrev DTT := Cd → (Bool → Prop) → Prop
abbrev DTA := Cd → (List Dt → Prop) → Prop
structure Gx where
  nx : Cd → Prop
  rt : Dt → Prop
  bk : Cd → Prop := fun _ => False
  ct : Cd → Prop := fun _ => False
abbrev DTS := Gx → Cd → Prop
structure Rep (K : PySem.W.Frag) (B : Hp) (F O : List Addr) (H : Hp) (σ : St) (ρ : Cd) : Prop where
  len : σ.length = ρ.length
  base : Same B H
  fr : ∀ a ∈ O, B a = none
  th : ∀ a ∈ F ++ O, H a ≠ none
  is : ∀ (i : Nat) (d : Dt), ρ[i]? = some (some (.is d)) → ∃ v, σ[i]? = some (some v) ∧ Rp K (mask (F ++ O) H) d v
  own : ∀ (i : Nat) (ds : List Dt), ρ[i]? = some (some (.own ds)) → ∃ a xs, σ[i]? = some (some (.ref a)) ∧ a ∈ O ∧ a ∉ F ∧ H a = some (.lst xs) ∧ RpL K (mask (F ++ O) H) ds xs
  inj : ∀ (i j : Nat) (ds es : List Dt) (a : Addr), ρ[i]? = some (some (.own ds)) → ρ[j]? = some (some (.own es)) → σ[i]? = some (some (.ref a)) → σ[j]? = some (some (.ref a)) → i = j
section
variable {K : PySem.W.Frag} {B : Hp} {F O : List Addr} {H H' : Hp} {σ : St} {ρ : Cd}
theorem Rep.same (r : Rep K B F O H σ ρ) (s : Same H H') : Rep K B F O H' σ ρ where
  len := r.len
  base := r.base.trans s
  fr := r.fr
  th := fun a h e => by
    have := r.th a h
    cases q : H a with
    | none => exact this q
    | some o => rw [s a o q] at e; cases e
  is := fun i d e => let ⟨v, h1, h2⟩ := r.is i d e; ⟨v, h1, h2.mono s.mask⟩
  own := fun i ds e => let ⟨a, xs, h1, h2, h3, h4, h5⟩ := r.own i ds e; ⟨a, xs, h1, h2, h3, s _ _ h4, h5.mono s.mask⟩
  inj := r.inj
theorem Rep.below (r : Rep K B F O H σ ρ) : Same (mask F B) (mask (F ++ O) H) := fun a o e => by
  obtain ⟨q, e⟩ := Cp e
  rw [Az]
  · exact r.base a o e
  · intro z
    rcases List.mem_append.mp z with z | z
    · exact q z
    · rw [r.fr a z] at e; cases e
theorem Rep.set (r : Rep K B F O H σ ρ) (i : Nat) {d : Dt} {v : V} (h : Rp K (mask (F ++ O) H) d v) : Rep K B F O H (σ.set i (some v)) (ρ.set i (some (.is d))) := by
  have hl := r.len
  have back : ∀ (j : Nat) (ds : List Dt), (ρ.set i (some (.is d)))[j]? = some (some (.own ds)) → j ≠ i ∧ ρ[j]? = some (some (.own ds)) := fun j ds e => by
    by_cases hj : j = i
    · subst hj
      by_cases hk : j < ρ.length
      · rw [List.getElem?_set_self hk] at e; cases e
      · rw [List.getElem?_eq_none (by simpa using hk)] at e; cases e
    · rw [List.getElem?_set_ne (Ne.symm hj)] at e; exact ⟨hj, e⟩
  refine ⟨by simpa using hl, r.base, r.fr, r.th, fun j e q => ?_, fun j ds q => ?_, fun j k ds es a h1 h2 h3 h4 => ?_⟩
  · by_cases hj : j = i
    · subst hj
      by_cases hk : j < ρ.length
      · rw [List.getElem?_set_self hk] at q
        cases q
        exact ⟨v, List.getElem?_set_self (by omega), h⟩
      · rw [List.getElem?_eq_none (by simpa using hk)] at q; cases q
    · rw [List.getElem?_set_ne (Ne.symm hj)] at q ⊢
      exact r.is j e q
  · obtain ⟨hj, q⟩ := back j ds q
    rw [List.getElem?_set_ne (Ne.symm hj)]
    exact r.own j ds q
  · obtain ⟨hj, q1⟩ := back j ds h1
    obtain ⟨hk, q2⟩ := back k es h2
    rw [List.getElem?_set_ne (Ne.symm hj)] at h3
    rw [List.getElem?_set_ne (Ne.symm hk)] at h4
    exact r.inj j k ds es a q1 q2 h3 h4
end
def lE (K : PySem.W.Frag) (t : DTE) : TE := fun σ H Q => ∃ B F O ρ, Rep K B F O H σ ρ ∧ t ρ fun d => ∀ v H', Same H H' → Rp K (mask (F ++ O) H') d v → Q v H'
def lT (K : PySem.W.Frag) (t : DTT) : TT := fun σ H Q => ∃ B F O ρ, Rep K B F O H σ ρ ∧ t ρ fun b => ∀ H', Same H H' → Q b H'
def lA (K : PySem.W.Frag) (t : DTA) : TA := fun σ H Q => ∃ B F O ρ, Rep K B F O H σ ρ ∧ t ρ fun ds => ∀ vs H', Same H H' → RpL K (mask (F ++ O) H') ds vs → Q vs H'
def lD (K : PySem.W.Frag) (B : Hp) (F : List Addr) (D : Ends) : Gx where
  nx := fun ρ' => ∀ O' σ' H', Rep K B F O' H' σ' ρ' → D.nx σ' H'
  rt := fun d => ∀ v H', Same B H' → Rp K (mask F H') d v → D.rt v H'
  bk := fun ρ' => ∀ O' σ' H', Rep K B F O' H' σ' ρ' → D.bk σ' H'
  ct := fun ρ' => ∀ O' σ' H', Rep K B F O' H' σ' ρ' → D.ct σ' H'
def lS (K : PySem.W.Frag) (t : DTS) : TS := fun D σ H => ∃ B F O ρ, Rep K B F O H σ ρ ∧ t (lD K B F D) ρ
structure Gx.le (D D' : Gx) : Prop where
  nx : ∀ ρ, D.nx ρ → D'.nx ρ
  rt : ∀ d, D.rt d → D'.rt d
  bk : ∀ ρ, D.bk ρ → D'.bk ρ
  ct : ∀ ρ, D.ct ρ → D'.ct ρ
structure DE (X : Cx) (e : Expr) (t : DTE) : Prop where
  mono : ∀ {ρ Q Q'}, (∀ d, Q d → Q' d) → t ρ Q → t ρ Q'
  pe : PE X e (lE X.K t)
structure DT (X : Cx) (e : Expr) (t : DTT) : Prop where
  mono : ∀ {ρ Q Q'}, (∀ d, Q d → Q' d) → t ρ Q → t ρ Q'
  pt : PT X e (lT X.K t)
structure DA (X : Cx) (es : List Expr) (t : DTA) : Prop where
  mono : ∀ {ρ Q Q'}, (∀ d, Q d → Q' d) → t ρ Q → t ρ Q'
  pa : PA X es (lA X.K t)
structure DS (X : Cx) (st : Stmt) (t : DTS) : Prop where
  mono : ∀ {ρ D D'}, Gx.le D D' → t D ρ → t D' ρ
  ps : PS X st (lS X.K t)
structure DSs (X : Cx) (st : List Stmt) (t : DTS) : Prop where
  mono : ∀ {ρ D D'}, Gx.le D D' → t D ρ → t D' ρ
  ps : PSs X st (lS X.K t)
theorem PE.imp {X : Cx} {e : Expr} {t t' : TE} (h : PE X e t) (i : ∀ σ H Q, t' σ H Q → t σ H Q) : PE X e t' := fun pins s σ H Q I q => h pins s σ H Q I (i _ _ _ q)
theorem PT.imp {X : Cx} {e : Expr} {t t' : TT} (h : PT X e t) (i : ∀ σ H Q, t' σ H Q → t σ H Q) : PT X e t' := fun pins s σ H Q I q => h pins s σ H Q I (i _ _ _ q)
theorem PA.imp {X : Cx} {e : List Expr} {t t' : TA} (h : PA X e t) (i : ∀ σ H Q, t' σ H Q → t σ H Q) : PA X e t' := fun pos pins s σ H Q I q => h pos pins s σ H Q I (i _ _ _ q)
theorem PS.imp {X : Cx} {e : Stmt} {t t' : TS} (h : PS X e t) (i : ∀ D σ H, t' D σ H → t D σ H) : PS X e t' := fun pins s σ H D I q => h pins s σ H D I (i _ _ _ q)
theorem PSs.imp {X : Cx} {e : List Stmt} {t t' : TS} (h : PSs X e t) (i : ∀ D σ H, t' D σ H → t D σ H) : PSs X e t' := fun pins s σ H D I q => h pins s σ H D I (i _ _ _ q)
section
variable {X : Cx} {a b c e : Expr} {es : List Expr} {ta tb tc te : DTE} {tA tB : DTT} {tl : DTA} {pos : Pos}
def Aa8 (i : Nat) : DTE := fun ρ Q => match ρ[i]? with
  | some (some (.is d)) => Q d
  | _ => False
def dC (d : Dt) : DTE := fun _ Q => Q d
theorem dv (i : Nat) {x : Str} {pos : Pos} (hN : X.N[i]? = some x := by rfl) (hv : Vis X.env.scope x := by first | exact Or.inl rfl | exact Or.inr (Or.inl rfl) | exact Or.inr (Or.inr rfl)) (hd : (x == ("__debug__" : Str)) = false := by decide)
    (hcd : (x == ("__classdict__" : Str)) = false := by decide) : DE X (.Name x pos) (Aa8 i) where
  mono := fun {ρ Q Q'} hq h => by
    unfold Aa8 at h ⊢
    split at h
    · exact hq _ h
    · exact h.elim
  pe := (K7 hN hv hd hcd).imp fun σ H Q ⟨B, F, O, ρ, r, h⟩ => by
    unfold Aa8 at h
    split at h
    · rename_i d e
      obtain ⟨v, h1, h2⟩ := r.is i d e
      exact ⟨v, h1, h v H (Same.refl H) h2⟩
    · exact h.elim
theorem Aer {v : V} {d : Dt} (h : PE X e (tC v)) (hr : ∀ K H, Rp K H d v) : DE X e (dC d) where
  mono := fun hq h => hq _ h
  pe := h.imp fun σ H Q ⟨B, F, O, ρ, r, h⟩ => h v H (Same.refl H) (hr _ _)
theorem Ab {i j pos} : DE X (.Constant (.int i) j pos) (dC (.int i)) := Aer Aed fun _ _ => Bm.mpr rfl
theorem Oh {i j pos} : DE X (.Constant (.bool i) j pos) (dC (.bl i)) := Aer AgP fun _ _ => Dz.mpr rfl
theorem J4 {x j pos} : DE X (.Constant (.str x) j pos) (dC (.str x)) := Aer Ad9 fun _ _ => Rb.mpr rfl
theorem MN {x : Str} {v : V} {u : Value} {d : Dt} {pos : Pos} (hg : Gl X x) (hm : X.mg x = some u) (r : RelV v u) (hr : ∀ H, Rp X.K H d v) (hd : (x == ("__debug__" : Str)) = false := by decide) : DE X (.Name x pos) (dC d) where
  mono := fun hq h => hq _ h
  pe := (Wf hg hm r hd).imp fun σ H Q ⟨B, F, O, ρ, _, h⟩ => h v H (Same.refl H) (hr _)
abbrev D2 := Dt → Dt → (Dt → Prop) → Prop
structure Ik (K : PySem.W.Frag) (r : R2) (t : D2) : Prop where
  mono : ∀ {a b Q Q'}, (∀ d, Q d → Q' d) → t a b Q → t a b Q'
  ok : ∀ (O : List Addr) (H : Hp) (a b : Dt) (x y : V) (Q : VK), (∀ p ∈ O, H p ≠ none) → Rp K (mask O H) a x → Rp K (mask O H) b y →
    t a b (fun d => ∀ v H', Same H H' → Rp K (mask O H') d v → Q v H') → r x y H Q
def dOp (t : D2) (ta tb : DTE) : DTE := fun ρ Q => ta ρ fun a => tb ρ fun b => t a b Q
theorem RQ {K : PySem.W.Frag} {r : R2} {t : D2} (S : Ik K r t) {ta tb : DTE} (ma : ∀ {ρ Q Q'}, (∀ d, Q d → Q' d) → ta ρ Q → ta ρ Q') (mb : ∀ {ρ Q Q'}, (∀ d, Q d → Q' d) → tb ρ Q → tb ρ Q')
    (σ : St) (H : Hp) (Q : VK) (h : lE K (dOp t ta tb) σ H Q) : tOp r (lE K ta) (lE K tb) σ H Q := by
  obtain ⟨B, F, O, ρ, R, h⟩ := h
  refine ⟨B, F, O, ρ, R, ma (fun a h v H1 s1 r1 => ?_) h⟩
  refine ⟨B, F, O, ρ, R.same s1, mb (fun b h u H2 s2 r2 => ?_) h⟩
  exact S.ok _ H2 a b v u Q ((R.same s1).same s2).th (r1.mono s2.mask) r2 (S.mono (fun d q w H3 s3 r3 => q w H3 ((s1.trans s2).trans s3) r3) h)
theorem Il {t : D2} (m : ∀ {a b Q Q'}, (∀ d, Q d → Q' d) → t a b Q → t a b Q') (ma : ∀ {ρ Q Q'}, (∀ d, Q d → Q' d) → ta ρ Q → ta ρ Q') (mb : ∀ {ρ Q Q'}, (∀ d, Q d → Q' d) → tb ρ Q → tb ρ Q') :
    ∀ {ρ Q Q'}, (∀ d, Q d → Q' d) → dOp t ta tb ρ Q → dOp t ta tb ρ Q' := fun hq h => ma (fun _ h => mb (fun _ h => m hq h) h) h
theorem Oe {op : Operator} {r : R2} {t : D2} (ho : OpR X (binaryOp op) r) (S : Ik X.K r t) (ha : DE X a ta) (hb : DE X b tb) : DE X (.BinOp a op b pos) (dOp t ta tb) where
  mono := Il (t := t) (ta := ta) (tb := tb) S.mono ha.mono hb.mono
  pe := (Ah7 ho ha.pe hb.pe).imp (RQ (ta := ta) (tb := tb) S ha.mono hb.mono)
theorem Uw {op : CmpOp} {r : R2} {t : D2} (ho : OpR X (compareOp op) r) (S : Ik X.K r t) (ha : DE X a ta) (hb : DE X b tb) (hm : behindInMarks op b = false) : DE X (.Compare a [op] [b] pos) (dOp t ta tb) where
  mono := Il (t := t) (ta := ta) (tb := tb) S.mono ha.mono hb.mono
  pe := (Abg ho ha.pe hb.pe hm).imp (RQ (ta := ta) (tb := tb) S ha.mono hb.mono)
theorem Agf {r : R2} {t : D2} (ho : IxR X r) (S : Ik X.K r t) (ha : DE X a ta) (hb : DE X b tb) (hs : Q7 b) : DE X (.Subscript a b pos) (dOp t ta tb) where
  mono := Il (t := t) (ta := ta) (tb := tb) S.mono ha.mono hb.mono
  pe := (Ahf ho ha.pe hb.pe hs).imp (RQ (ta := ta) (tb := tb) S ha.mono hb.mono)
def dI (C : Int → Int → Prop) (g : Int → Int → Int) : D2 := fun a b Q => match a, b with
  | .int i, .int j => C i j ∧ Q (.int (g i j))
  | _, _ => False
def dI0 (g : Int → Int → Int) : D2 := fun a b Q => match a, b with
  | .int i, .int j => Q (.int (g i j))
  | _, _ => False
def dB0 (g : Int → Int → Bool) : D2 := fun a b Q => match a, b with
  | .int i, .int j => Q (.bl (g i j))
  | _, _ => False
theorem Sy {K : PySem.W.Frag} {C : Int → Int → Prop} {g : Int → Int → Int} : Ik K (rI C fun i j => .int (g i j)) (dI C g) where
  mono := fun {a b Q Q'} hq h => by
    unfold dI at h ⊢
    split at h
    · exact ⟨h.1, hq _ h.2⟩
    · exact h.elim
  ok := fun O H a b x y Q _ ra rb h => by
    unfold dI at h
    split at h
    · exact ⟨_, _, Bm.mp ra, Bm.mp rb, h.1, h.2 _ H (Same.refl H) (Bm.mpr rfl)⟩
    · exact h.elim
theorem Zu {K : PySem.W.Frag} {g : Int → Int → Int} : Ik K (rI0 fun i j => .int (g i j)) (dI0 g) where
  mono := fun {a b Q Q'} hq h => by
    unfold dI0 at h ⊢
    split at h
    · exact hq _ h
    · exact h.elim
  ok := fun O H a b x y Q _ ra rb h => by
    unfold dI0 at h
    split at h
    · exact ⟨_, _, Bm.mp ra, Bm.mp rb, h _ H (Same.refl H) (Bm.mpr rfl)⟩
    · exact h.elim
theorem Cw {K : PySem.W.Frag} {g : Int → Int → Bool} : Ik K (rI0 fun i j => .bl (g i j)) (dB0 g) where
  mono := fun {a b Q Q'} hq h => by
    unfold dB0 at h ⊢
    split at h
    · exact hq _ h
    · exact h.elim
  ok := fun O H a b x y Q _ ra rb h => by
    unfold dB0 at h
    split at h
    · exact ⟨_, _, Bm.mp ra, Bm.mp rb, h _ H (Same.refl H) (Dz.mpr rfl)⟩
    · exact h.elim
theorem Abi : OpR X (binaryOp .Mult) (rI IntMulOk fun i j => .int (i * j)) := opI fun _ _ _ _ _ _ _ hc q => mul_int q hc
def CDv (_ j : Int) : Prop := j ≠ 0 ∧ j.natAbs < 2 ^ 9000
theorem log2_small {n : Nat} (h : n < 2 ^ 9000) : n.log2 < 9000 := by
  by_cases h0 : n = 0
  · subst h0; decide +kernel
  · exact (Nat.log2_lt h0).mpr h
theorem Za : OpR X (binaryOp .FloorDiv) (rI CDv fun i j => .int (i.fdiv j)) := opI fun _ _ _ _ _ _ _ hc q => floordiv_int hc.1 q (.inl (PyProof.noPylong_of_log2 (log2_small hc.2)))
def AhK : D2 := dI0 fun i j => i + j
def Ahg : D2 := dI0 fun i j => i - j
def AgV : D2 := dI IntMulOk fun i j => i * j
def AfQ : D2 := dI (fun _ j => j ≠ 0) fun i j => i.fmod j
def Aiz : D2 := dI CDv fun i j => i.fdiv j
def Ahw : D2 := dI Xp fun i j => i ^ j.toNat
def Ago : D2 := dI Xp fun i j => i * 2 ^ j.toNat
def Akp : D2 := dI (fun _ j => 0 ≤ j) fun i j => i / 2 ^ j.toNat
theorem Bj (ha : DE X a ta) (hb : DE X b tb) : DE X (.BinOp a .Add b pos) (dOp AhK ta tb) := Oe AdE Zu ha hb
theorem Bk (ha : DE X a ta) (hb : DE X b tb) : DE X (.BinOp a .Sub b pos) (dOp Ahg ta tb) := Oe AeC Zu ha hb
theorem Ak (ha : DE X a ta) (hb : DE X b tb) : DE X (.BinOp a .Mult b pos) (dOp AgV ta tb) := Oe Abi Sy ha hb
theorem CV (ha : DE X a ta) (hb : DE X b tb) : DE X (.BinOp a .Mod b pos) (dOp AfQ ta tb) := Oe AbS Sy ha hb
theorem Br (ha : DE X a ta) (hb : DE X b tb) : DE X (.BinOp a .FloorDiv b pos) (dOp Aiz ta tb) := Oe Za Sy ha hb
theorem Aen (ha : DE X a ta) (hb : DE X b tb) : DE X (.BinOp a .Pow b pos) (dOp Ahw ta tb) := Oe AdO Sy ha hb
theorem Y5 (ha : DE X a ta) (hb : DE X b tb) : DE X (.BinOp a .LShift b pos) (dOp Ago ta tb) := Oe Adn Sy ha hb
def dLt : D2 := dB0 fun i j => decide (i < j)
def dLe : D2 := dB0 fun i j => decide (i ≤ j)
def dGt : D2 := dB0 fun i j => decide (j < i)
def dGe : D2 := dB0 fun i j => decide (j ≤ i)
theorem AhN (ha : DE X a ta) (hb : DE X b tb) : DE X (.Compare a [.GtE] [b] pos) (dOp dGe ta tb) := Uw AcM Cw ha hb (Im _)
def ixL : Int → List Dt → Option Dt
  | .ofNat n, ds => ds[n]?
  | .negSucc m, ds => if m < ds.length then ds[ds.length - 1 - m]? else none
def ixD (i : Int) : Dt → Option Dt
  | .tup ds => ixL i ds
  | .lst ds => ixL i ds
  | _ => none
theorem Yn {i : Int} {ds : List Dt} {d : Dt} (h : ixL i ds = some d) : atI ds i = some d := by
  cases i with
  | ofNat n => exact AaM h
  | negSucc m =>
    have h' : (if m < ds.length then ds[ds.length - 1 - m]? else none) = some d := h
    by_cases hm : m < ds.length
    · rw [if_pos hm] at h'
      unfold atI ixN
      have h1 : ¬ (0 : Int) ≤ Int.negSucc m := by omega
      have h2 : -(ds.length : Int) ≤ Int.negSucc m := by omega
      have h3 : (Int.negSucc m + (ds.length : Int)).toNat = ds.length - 1 - m := by omega
      rw [if_neg h1, if_pos h2, Option.bind_some, h3]
      exact h'
    · rw [if_neg hm] at h'; cases h'
def dIx : D2 := fun a b Q => match b with
  | .int i => match ixD i a with
    | some d => Q d
    | none => False
  | _ => False
theorem Aad {K : PySem.W.Frag} {H : Hp} {ds : List Dt} {xs : List V} {i : Int} {d : Dt} (r : RpL K H ds xs) (h : atI ds i = some d) : ∃ v, atI xs i = some v ∧ Rp K H d v := by
  unfold atI at h ⊢
  rw [r.len]
  cases e : ixN ds.length i with
  | none => rw [e] at h; cases h
  | some j =>
    rw [e] at h
    exact r.get h
theorem AeQ {K : PySem.W.Frag} : Ik K (rIx K) dIx where
  mono := fun {a b Q Q'} hq h => by
    unfold dIx at h ⊢
    split at h
    · split at h
      · rename_i e; exact hq _ h
      · exact h.elim
    · exact h.elim
  ok := fun O H a b x y Q _ ra rb h => by
    unfold dIx at h
    split at h
    · split at h
      · rename_i i _ d e
        have eb := Bm.mp rb
        subst eb
        cases a with
        | tup ds =>
          obtain ⟨p, xs, rfl, hs, hl⟩ := CP.mp ra
          obtain ⟨v, e1, e2⟩ := Aad hl (Yn e)
          exact .inr (.inl ⟨p, xs, i, v, rfl, rfl, Bs.seqT hs, e1, h v H (Same.refl H) e2⟩)
        | lst ds =>
          obtain ⟨p, xs, rfl, hs, hl⟩ := Gj ra
          obtain ⟨v, e1, e2⟩ := Aad hl (Yn e)
          exact .inl ⟨p, xs, i, v, rfl, rfl, Bs.seq hs, e1, h v H (Same.refl H) e2⟩
        | _ => cases e
      · exact h.elim
    · exact h.elim
theorem Ac (ha : DE X a ta) (hb : DE X b tb) (hs : Q7 b := by exact fun _ _ => rfl) : DE X (.Subscript a b pos) (dOp dIx ta tb) := Agf AeG AeQ ha hb hs
def AbN : Dt → (Dt → Prop) → Prop := fun a Q => match a with
  | .int i => Q (.int (-i))
  | _ => False
def dUn (t : Dt → (Dt → Prop) → Prop) (ta : DTE) : DTE := fun ρ Q => ta ρ fun a => t a Q
theorem HS (ha : DE X a ta) : DE X (.UnaryOp .USub a pos) (dUn AbN ta) where
  mono := fun hq h => ha.mono (fun d h => by
    unfold AbN at h ⊢
    split at h
    · exact hq _ h
    · exact h.elim) h
  pe := (Aif AdY ha.pe).imp fun σ H Q ⟨B, F, O, ρ, R, h⟩ => ⟨B, F, O, ρ, R, ha.mono (fun d h v H1 s1 r1 => by
    unfold AbN at h
    split at h
    · exact ⟨_, Bm.mp r1, h _ H1 s1 (Bm.mpr rfl)⟩
    · exact h.elim) h⟩
def Afo (ta : DTE) : DTE := fun ρ Q => ta ρ fun a => match a with
  | .bl k => Q (.bl (!k))
  | _ => False
def AgX (ta tb : DTE) : DTE := fun ρ Q => ta ρ fun a => match a with
  | .bl k => if k = true then tb ρ Q else Q (.bl false)
  | _ => False
def dOr (ta tb : DTE) : DTE := fun ρ Q => ta ρ fun a => match a with
  | .bl k => if k = true then Q (.bl true) else tb ρ Q
  | _ => False
theorem AeO (ha : DE X a ta) : DE X (.UnaryOp .Not a pos) (Afo ta) where
  mono := fun hq h => ha.mono (fun d h => by
    split at h
    · exact hq _ h
    · exact h.elim) h
  pe := (Ad3 ha.pe).imp fun σ H Q ⟨B, F, O, ρ, R, h⟩ => ⟨B, F, O, ρ, R, ha.mono (fun d h v H1 s1 r1 => by
    split at h
    · exact ⟨_, Dz.mp r1, h _ H1 s1 (Dz.mpr rfl)⟩
    · exact h.elim) h⟩
theorem LK {op} (h : DE X a ta) : DE X (.BoolOp op [a] pos) ta := ⟨h.mono, Aex h.pe⟩
theorem Om {rest : List Expr} (ha : DE X a ta) (hb : DE X (.BoolOp .And (b :: rest) pos) tb) : DE X (.BoolOp .And (a :: b :: rest) pos) (AgX ta tb) where
  mono := fun hq h => ha.mono (fun d h => by
    split at h
    · split at h
      · rename_i e; simp only [e, if_true]; exact hb.mono hq h
      · rename_i e; simp only [e]; exact hq _ h
    · exact h.elim) h
  pe := (Aey ha.pe hb.pe).imp fun σ H Q ⟨B, F, O, ρ, R, h⟩ => ⟨B, F, O, ρ, R, ha.mono (fun d h v H1 s1 r1 => by
    split at h
    · rename_i k
      refine ⟨k, Dz.mp r1, ?_⟩
      cases k with
      | true => exact ⟨B, F, O, ρ, R.same s1, hb.mono (fun d q v H2 s2 r2 => q v H2 (s1.trans s2) r2) h⟩
      | false => exact h _ H1 s1 (Dz.mpr rfl)
    · exact h.elim) h⟩
theorem AfP {rest : List Expr} (ha : DE X a ta) (hb : DE X (.BoolOp .Or (b :: rest) pos) tb) : DE X (.BoolOp .Or (a :: b :: rest) pos) (dOr ta tb) where
  mono := fun hq h => ha.mono (fun d h => by
    split at h
    · split at h
      · rename_i e; simp only [e, if_true]; exact hq _ h
      · rename_i e; simp only [e]; exact hb.mono hq h
    · exact h.elim) h
  pe := (AgA ha.pe hb.pe).imp fun σ H Q ⟨B, F, O, ρ, R, h⟩ => ⟨B, F, O, ρ, R, ha.mono (fun d h v H1 s1 r1 => by
    split at h
    · rename_i k
      refine ⟨k, Dz.mp r1, ?_⟩
      cases k with
      | false => exact ⟨B, F, O, ρ, R.same s1, hb.mono (fun d q v H2 s2 r2 => q v H2 (s1.trans s2) r2) h⟩
      | true => exact h _ H1 s1 (Dz.mpr rfl)
    · exact h.elim) h⟩
def PN (t : DTE) : DTT := fun ρ Q => t ρ fun a => match a with
  | .bl k => Q k
  | _ => False
theorem Qp {t : DTE} (m : ∀ {ρ Q Q'}, (∀ d, Q d → Q' d) → t ρ Q → t ρ Q') : ∀ {ρ Q Q'}, (∀ d, Q d → Q' d) → PN t ρ Q → PN t ρ Q' := fun hq h => m (fun d h => by
    split at h
    · exact hq _ h
    · exact h.elim) h
theorem G9 (h : DE X e te) (he : ∀ whole, isTrue e X.env whole = (do let v ← whole; standAt e.pos; holding [v] (truthy v)) := by intro _; rfl) : DT X e (PN te) where
  mono := Qp (t := te) h.mono
  pt := (AdG h.pe he).imp fun σ H Q ⟨B, F, O, ρ, R, q⟩ => ⟨B, F, O, ρ, R, h.mono (fun d q v H1 s1 r1 => by
    split at q
    · exact ⟨_, Dz.mp r1, q H1 s1⟩
    · exact q.elim) q⟩
theorem M8 {op : CmpOp} {r : R2} {t : D2} (ho : OpR X (compareOp op) r) (S : Ik X.K r t) (ha : DE X a ta) (hb : DE X b tb) (hm : behindInMarks op b = false) : DT X (.Compare a [op] [b] pos) (PN (dOp t ta tb)) where
  mono := Qp (t := dOp t ta tb) (Il (t := t) (ta := ta) (tb := tb) S.mono ha.mono hb.mono)
  pt := (Aav ho ha.pe hb.pe hm).imp fun σ H Q ⟨B, F, O, ρ, R, q⟩ => RQ (ta := ta) (tb := tb) S ha.mono hb.mono σ H _ ⟨B, F, O, ρ, R, Il (t := t) (ta := ta) (tb := tb) S.mono ha.mono hb.mono (fun d q v H1 s1 r1 => by
    split at q
    · exact ⟨_, Dz.mp r1, q H1 s1⟩
    · exact q.elim) q⟩
theorem J7 (ha : DE X a ta) (hb : DE X b tb) : DT X (.Compare a [.Lt] [b] pos) (PN (dOp dLt ta tb)) := M8 O7 Cw ha hb (Im _)
theorem Nq (ha : DE X a ta) (hb : DE X b tb) : DT X (.Compare a [.Gt] [b] pos) (PN (dOp dGt ta tb)) := M8 AgG Cw ha hb (Im _)
theorem Ah6 (ha : DE X a ta) (hb : DE X b tb) : DT X (.Compare a [.GtE] [b] pos) (PN (dOp dGe ta tb)) := M8 AcM Cw ha hb (Im _)
def Adh (t : DTT) : DTT := fun ρ Q => t ρ fun k => Q (!k)
def AcB (t u : DTT) : DTT := fun ρ Q => t ρ fun k => if k = true then u ρ Q else Q false
def AhH (t u : DTT) : DTT := fun ρ Q => t ρ fun k => if k = true then Q true else u ρ Q
theorem Iv (ha : DT X a tA) : DT X (.UnaryOp .Not a pos) (Adh tA) where
  mono := fun hq h => ha.mono (fun _ h => hq _ h) h
  pt := (AdA ha.pt).imp fun σ H Q ⟨B, F, O, ρ, R, q⟩ => ⟨B, F, O, ρ, R, q⟩
structure DW (X : Cx) (e : Expr) (t : DTT) : Prop where
  mono : ∀ {ρ Q Q'}, (∀ d, Q d → Q' d) → t ρ Q → t ρ Q'
  pw : PW X e (lT X.K t)
theorem DW.dt {t : DTT} (h : DW X e t) : DT X e t := ⟨h.mono, h.pw.pt⟩
theorem Rk (ha : DT X a tA) : DW X (.BoolOp .And [a] pos) tA := ⟨ha.mono, AbX ha.pt⟩
theorem Lx (ha : DT X a tA) : DW X (.BoolOp .Or [a] pos) tA := ⟨ha.mono, Aei ha.pt⟩
theorem PW.imp {t t' : TT} (h : PW X e t) (i : ∀ σ H Q, t' σ H Q → t σ H Q) : PW X e t' := fun wh pins s σ H Q I q => h wh pins s σ H Q I (i _ _ _ q)
theorem UJ {rest : List Expr} (ha : DT X a tA) (hb : DW X (.BoolOp .And (b :: rest) pos) tB) : DW X (.BoolOp .And (a :: b :: rest) pos) (AcB tA tB) where
  mono := fun hq h => ha.mono (fun k h => by
    cases k with
    | true => exact hb.mono hq h
    | false => exact hq _ h) h
  pw := (Aee ha.pt hb.pw).imp fun σ H Q ⟨B, F, O, ρ, R, q⟩ => ⟨B, F, O, ρ, R, ha.mono (fun k h H1 s1 => by
    cases k with
    | true => exact ⟨B, F, O, ρ, R.same s1, hb.mono (fun k q H2 s2 => q H2 (s1.trans s2)) h⟩
    | false => exact h H1 s1) q⟩
theorem QF {rest : List Expr} (ha : DT X a tA) (hb : DW X (.BoolOp .Or (b :: rest) pos) tB) : DW X (.BoolOp .Or (a :: b :: rest) pos) (AhH tA tB) where
  mono := fun hq h => ha.mono (fun k h => by
    cases k with
    | true => exact hq _ h
    | false => exact hb.mono hq h) h
  pw := (Agg ha.pt hb.pw).imp fun σ H Q ⟨B, F, O, ρ, R, q⟩ => ⟨B, F, O, ρ, R, ha.mono (fun k h H1 s1 => by
    cases k with
    | false => exact ⟨B, F, O, ρ, R.same s1, hb.mono (fun k q H2 s2 => q H2 (s1.trans s2)) h⟩
    | true => exact h H1 s1) q⟩
def Ajh (t : DTT) (ta tb : DTE) : DTE := fun ρ Q => t ρ fun k => if k = true then ta ρ Q else tb ρ Q
def Abr : DTA := fun _ Q => Q []
def AcC (te : DTE) (tl : DTA) : DTA := fun ρ Q => te ρ fun d => tl ρ fun ds => Q (d :: ds)
theorem Af : DA X [] Abr := ⟨fun hq h => hq _ h, Vq.imp fun σ H Q ⟨B, F, O, ρ, R, q⟩ => q [] H (Same.refl H) RpL.nil⟩
theorem Aa (ha : DE X e te) (hr : DA X es tl) (hs : starEach (e :: es) X.env = (false, eval e X.env) :: starEach es X.env := by rfl) : DA X (e :: es) (AcC te tl) where
  mono := fun hq h => ha.mono (fun d h => hr.mono (fun ds h => hq _ h) h) h
  pa := (KZ ha.pe hr.pa hs).imp fun σ H Q ⟨B, F, O, ρ, R, q⟩ => ⟨B, F, O, ρ, R, ha.mono (fun d h v H1 s1 r1 => ⟨B, F, O, ρ, R.same s1, hr.mono (fun ds h vs H2 s2 r2 =>
    h (v :: vs) H2 (s1.trans s2) (RpL.cons (r1.mono s2.mask) r2)) h⟩) q⟩
def dTup (tl : DTA) : DTE := fun ρ Q => tl ρ fun ds => ds.length ≤ sizeLine ∧ Q (.tup ds)
def AiA (tl : DTA) : DTE := fun ρ Q => tl ρ fun ds => ds.length ≤ sizeLine ∧ Q (.lst ds)
theorem J9 {O : List Addr} {H : Hp} {p : Addr} {o : HO} (hp : p ∉ O) : mask O (upd H p o) p = some o := by rw [Az hp, BJ]
theorem Bp {k} (h : DA X es tl) : DE X (.Tuple es k pos) (dTup tl) where
  mono := fun hq z => h.mono (fun ds q => ⟨q.1, hq _ q.2⟩) z
  pe := (Ado h.pa).imp fun σ H Q ⟨B, F, O, ρ, R, q⟩ => ⟨B, F, O, ρ, R, h.mono (fun ds z vs H1 s1 r1 => ⟨by rw [r1.len]; exact z.1, fun p hp => by
    have np : p ∉ F ++ O := fun m => (R.same s1).th p m hp
    exact z.2 (.ref p) _ (s1.trans (Same.upd hp)) (CP.mpr ⟨p, vs, rfl, SqT.of (J9 np), r1.mono (Same.upd hp).mask⟩)⟩) q⟩
theorem RL (h : DA X es tl) : DE X (.List es pos) (AiA tl) where
  mono := fun hq z => h.mono (fun ds q => ⟨q.1, hq _ q.2⟩) z
  pe := (ZP h.pa).imp fun σ H Q ⟨B, F, O, ρ, R, q⟩ => ⟨B, F, O, ρ, R, h.mono (fun ds z vs H1 s1 r1 => ⟨by rw [r1.len]; exact z.1, fun p hp => by
    have np : p ∉ F ++ O := fun m => (R.same s1).th p m hp
    exact z.2 (.ref p) _ (s1.trans (Same.upd hp)) (Kg ⟨p, vs, rfl, (J9 np), r1.mono (Same.upd hp).mask⟩)⟩) q⟩
abbrev DSp := List Dt → (Dt → Prop) → Prop
def lSp (K : PySem.W.Frag) (sp : DSp) : Sp := fun vs H Q _ => ∃ F ds, (∀ a ∈ F, H a ≠ none) ∧ RpL K (mask F H) ds vs ∧ sp ds fun d => ∀ v H', Same H H' → Rp K (mask F H') d v → Q v H'
def G3 (sp : DSp) : Prop := ∀ ds Q Q', (∀ d, Q d → Q' d) → sp ds Q → sp ds Q'
def dCall (sp : DSp) (tl : DTA) : DTE := fun ρ Q => tl ρ fun ds => sp ds Q
theorem Ace {CX : CXT} {k : Nat} {f : Addr} {fd : FuncData} {ps : List Str} {sp : DSp} {x : Str} {p : Pos} (m : G3 sp) (G : GP X.prog X.w X.K X.mg X.base CX0 k f fd ps (lSp X.K sp)) (hr : DP k X.A) (hg : Gl X x) (hm : X.mg x = some (.ref f))
    (hk : PySem.W.keepIn X.K (.ref f) = true) (hb : Binds X.K fd ps []) (ha : DA X (e :: es) tl) (hdb : (x == ("__debug__" : Str)) = false := by decide)
    (he : starEach (e :: es) X.env = (false, eval e X.env) :: starEach es X.env := by rfl) (hpl : (backTo pos (starEach es X.env)).any (·.1) = false := by rfl) : DE X (.Call (.Name x p) (e :: es) [] pos) (dCall sp tl) where
  mono := fun hq z => ha.mono (fun ds q => m _ _ _ hq q) z
  pe := (AbF G hr hg hm hk hb .nil V7 ha.pa hdb he hpl).imp fun σ H Q ⟨B, F, O, ρ, R, q⟩ => ⟨B, F, O, ρ, R, ha.mono (fun ds z vs H1 s1 r1 => by
    show lSp X.K sp (vs ++ []) H1 Q E0
    rw [List.append_nil]
    exact ⟨F ++ O, ds, (R.same s1).th, r1, m _ _ _ (fun d q v H2 s2 r2 => q v H2 (s1.trans s2) r2) z⟩) q⟩
variable {st : Stmt} {sts : List Stmt} {t u : DTS}
def Adb : DTS := fun D ρ => D.nx ρ
def AgH (t u : DTS) : DTS := fun D ρ => t { D with nx := u D } ρ
theorem Aip {D D' : Gx} {P P' : Cd → Prop} (h : Gx.le D D') (hp : ∀ ρ, P ρ → P' ρ) : Gx.le { D with nx := P } { D' with nx := P' } := ⟨hp, h.rt, h.bk, h.ct⟩
theorem le_refl {D : Gx} : Gx.le D D := ⟨fun _ h => h, fun _ h => h, fun _ h => h, fun _ h => h⟩
theorem Bl : DSs X [] Adb := ⟨fun hd h => hd.nx _ h, Aan.imp fun D σ H ⟨B, F, O, ρ, R, h⟩ => h O σ H R⟩
theorem Ad (h1 : DS X st t) (h2 : DSs X sts u) : DSs X (st :: sts) (AgH t u) where
  mono := fun hd h => h1.mono (Aip hd fun ρ q => h2.mono hd q) h
  ps := (O2 h1.ps h2.ps).imp fun D σ H ⟨B, F, O, ρ, R, h⟩ => ⟨B, F, O, ρ, R, h1.mono (D := { lD X.K B F D with nx := u (lD X.K B F D) }) ⟨fun ρ' q O' σ' H' R' => ⟨B, F, O', ρ', R', q⟩, fun _ q => q, fun _ q => q, fun _ q => q⟩ h⟩
theorem Ah (h1 : DS X st t) : DSs X [st] t := ⟨h1.mono, RP h1.ps⟩
def ZS : DTS := fun _ _ => False
theorem Fz : DS X st ZS := ⟨fun _ h => h.elim, ZD.imp fun D σ H ⟨B, F, O, ρ, R, h⟩ => h.elim⟩
def Acu (te : DTE) : DTS := fun D ρ => te ρ fun _ => D.nx ρ
theorem DY (he : DE X e te) (hs : swapsWith e none pos.line X.env = pure false := by rfl) : DS X (.Expr e pos) (Acu te) where
  mono := fun hd h => he.mono (fun _ h => hd.nx _ h) h
  ps := (Rx he.pe hs).imp fun D σ H ⟨B, F, O, ρ, R, h⟩ => ⟨B, F, O, ρ, R, he.mono (fun d q v H1 s1 _ => q O σ H1 (R.same s1)) h⟩
def AiB (te : DTE) : DTS := fun D ρ => te ρ D.rt
theorem Ys {F O : List Addr} {H : Hp} : Same (mask (F ++ O) H) (mask F H) := Gs fun _ h => List.mem_append_left _ h
theorem Aq (he : DE X e te) : DS X (.Return (some e) pos) (AiB te) where
  mono := fun hd h => he.mono (fun _ h => hd.rt _ h) h
  ps := (AeU he.pe).imp fun D σ H ⟨B, F, O, ρ, R, h⟩ => ⟨B, F, O, ρ, R, he.mono (fun d q v H1 s1 r1 => q v H1 (R.base.trans s1) (r1.mono Ys)) h⟩
def Afy : DTS := fun D _ => D.rt .non
def dIf (c : DTT) (t u : DTS) : DTS := fun D ρ => c ρ fun k => if k = true then t D ρ else u D ρ
theorem Cr {sa sb : List Stmt} (hc : DT X c tA) (ha : DSs X sa t) (hb : DSs X sb u) : DS X (.If c sa sb pos) (dIf tA t u) where
  mono := fun hd h => hc.mono (fun k h => by
    cases k with
    | true => exact ha.mono hd h
    | false => exact hb.mono hd h) h
  ps := (AgB hc.pt ha.ps hb.ps).imp fun D σ H ⟨B, F, O, ρ, R, h⟩ => ⟨B, F, O, ρ, R, hc.mono (fun k h H1 s1 => by
    cases k with
    | true => exact ⟨B, F, O, ρ, R.same s1, h⟩
    | false => exact ⟨B, F, O, ρ, R.same s1, h⟩) h⟩
abbrev DTG := Dt → Cd → (Cd → Prop) → Prop
abbrev Qg := List Dt → Cd → (Cd → Prop) → Prop
def lG (K : PySem.W.Frag) (g : DTG) : TG := fun v σ H Q => ∃ B F O ρ d, Rep K B F O H σ ρ ∧ Rp K (mask (F ++ O) H) d v ∧ g d ρ fun ρ' => ∀ σ', Rep K B F O H σ' ρ' → Q σ' H
def lGs (K : PySem.W.Frag) (g : Qg) : TGs := fun vs σ H Q => ∃ B F O ρ ds, Rep K B F O H σ ρ ∧ RpL K (mask (F ++ O) H) ds vs ∧ g ds ρ fun ρ' => ∀ σ', Rep K B F O H σ' ρ' → Q σ' H
structure DG (X : Cx) (tg : Expr) (g : DTG) : Prop where
  mono : ∀ {d ρ Q Q'}, (∀ ρ', Q ρ' → Q' ρ') → g d ρ Q → g d ρ Q'
  pg : PG X tg (lG X.K g)
structure DGs (X : Cx) (tgs : List Expr) (g : Qg) : Prop where
  mono : ∀ {d ρ Q Q'}, (∀ ρ', Q ρ' → Q' ρ') → g d ρ Q → g d ρ Q'
  pg : PGs X tgs (lGs X.K g)
theorem PG.imp {e : Expr} {t t' : TG} (h : PG X e t) (i : ∀ v σ H Q, t' v σ H Q → t v σ H Q) : PG X e t' := fun pins s σ H v u Q I r q => h pins s σ H v u Q I r (i _ _ _ _ q)
theorem PGs.imp {e : List Expr} {t t' : TGs} (h : PGs X e t) (i : ∀ v σ H Q, t' v σ H Q → t v σ H Q) : PGs X e t' := fun pins s σ H v u Q I r q => h pins s σ H v u Q I r (i _ _ _ _ q)
def Ur (i : Nat) : DTG := fun d ρ Q => Q (ρ.set i (some (.is d)))
theorem BP (i : Nat) {x : Str} (hN : X.N.Nodup) (hi : X.N[i]? = some x := by rfl) (hx : Loc X.env.scope x := by first | exact Or.inl rfl | exact Or.inr rfl)
    (hf : X.fn x = true ∨ X.env.scope.names.lookup x = some .local := by first | exact .inl rfl | exact .inr rfl | assumption) : DG X (.Name x pos) (Ur i) where
  mono := fun hq h => hq _ h
  pg := (Rf hN hi hx hf).imp fun v σ H Q ⟨B, F, O, ρ, d, R, r, h⟩ => h _ (R.set i r)
def VL : Qg := fun ds ρ Q => match ds with
  | [] => Q ρ
  | _ => False
def Ru (g : DTG) (gs : Qg) : Qg := fun ds ρ Q => match ds with
  | d :: r => g d ρ fun ρ' => gs r ρ' Q
  | [] => False
theorem Jm : DGs X [] VL where
  mono := fun hq h => by
    unfold VL at h ⊢
    split at h
    · exact hq _ h
    · exact h.elim
  pg := Acf.imp fun vs σ H Q ⟨B, F, O, ρ, ds, R, r, h⟩ => by
    unfold VL at h
    split at h
    · exact ⟨BZ.mp r, h σ R⟩
    · exact h.elim
theorem BK {g : DTG} {gs : Qg} (h1 : DG X e g) (h2 : DGs X es gs) (hs : (assignEach (e :: es) X.env).map (·.2) = assign e X.env :: (assignEach es X.env).map (·.2) := by rfl) : DGs X (e :: es) (Ru g gs) where
  mono := fun hq h => by
    unfold Ru at h ⊢
    split at h
    · exact h1.mono (fun ρ' q => h2.mono hq q) h
    · exact h.elim
  pg := (YW h1.pg h2.pg hs).imp fun vs σ H Q ⟨B, F, O, ρ, ds, R, r, h⟩ => by
    unfold Ru at h
    split at h
    · obtain ⟨v, vr, rfl, r1, r2⟩ := Ax.mp r
      exact ⟨v, vr, rfl, B, F, O, ρ, _, R, r1, h1.mono (fun ρ' q σ' R' => ⟨B, F, O, ρ', _, R', r2, q⟩) h⟩
    · exact h.elim
def Wm (n : Nat) (gs : Qg) : DTG := fun d ρ Q => match d with
  | .tup ds => ds.length = n ∧ gs ds ρ Q
  | _ => False
theorem M7 {k : Nat} {gs : Qg} {n : Nat} (hc : X.calm = true) (h : DGs X es gs) (hn : (assignEach es X.env).length = n := by rfl) (hst : (assignEach es X.env).findIdx? (·.1) = none := by rfl) : DG X (.Tuple es k pos) (Wm n gs) where
  mono := fun hq z => by
    unfold Wm at z ⊢
    split at z
    · exact ⟨z.1, h.mono hq z.2⟩
    · exact z.elim
  pg := (AeB hc h.pg hn hst).imp fun v σ H Q ⟨B, F, O, ρ, d, R, r, z⟩ => by
    unfold Wm at z
    split at z
    · obtain ⟨a, xs, rfl, hs, hl⟩ := CP.mp r
      exact ⟨a, xs, rfl, Bs.seqT hs, by rw [hl.len]; exact z.1, B, F, O, ρ, _, R, hl, z.2⟩
    · exact z.elim
def AeV (te : DTE) (g : DTG) : DTS := fun D ρ => te ρ fun d => g d ρ D.nx
theorem K5 {tg : Expr} {g : DTG} (he : DE X e te) (hg : DG X tg g) (hs : swapsWithSole [tg] e pos.line X.env = pure false := by rfl) (hw : swappedStores [tg] e X.env = pure none := by rfl)
    (h1 : (assignEach [tg] X.env).map (·.2) = [assign tg X.env] := by rfl) : DS X (.Assign [tg] e pos) (AeV te g) where
  mono := fun hd h => he.mono (fun _ h => hg.mono (fun _ h => hd.nx _ h) h) h
  ps := (Ae0 he.pe hg.pg hs hw h1).imp fun D σ H ⟨B, F, O, ρ, R, h⟩ => ⟨B, F, O, ρ, R, he.mono (fun d q v H1 s1 r1 => ⟨B, F, O, ρ, d, R.same s1, r1, hg.mono (fun ρ' q σ' R' => q O σ' H1 R') q⟩) h⟩
def Y6 (c : DTT) (tb : DTS) : DTS := fun D ρ => ∃ W : Nat → Cd → Prop, (∃ m, W m ρ) ∧ ∀ m ρ, W m ρ →
  c ρ fun k => if k = true then tb { D with nx := fun ρ' => ∃ m', m' < m ∧ W m' ρ', ct := fun ρ' => ∃ m', m' < m ∧ W m' ρ', bk := D.nx } ρ else D.nx ρ
theorem Dl {body : List Stmt} (hp : PassesOwn (model X.prog X.w) X.A X.env X.xe) (hc : DT X c tA) (hb : DSs X body t) : DS X (.While c body [] pos) (Y6 tA t) where
  mono := fun {ρ D D'} hd ⟨W, h0, h⟩ => ⟨W, h0, fun m ρ w => hc.mono (fun k h => by
    cases k with
    | true => exact hb.mono (D := { D with nx := fun ρ' => ∃ m', m' < m ∧ W m' ρ', ct := fun ρ' => ∃ m', m' < m ∧ W m' ρ', bk := D.nx }) ⟨fun _ q => q, hd.rt, hd.nx, fun _ q => q⟩ h
    | false => exact hd.nx _ h) (h m ρ w)⟩
  ps := (Aae hp hc.pt hb.ps).imp fun D σ H ⟨B, F, O, ρ, R, W, ⟨m0, w0⟩, h⟩ => by
    refine ⟨fun m σ H => ∃ O ρ, Rep X.K B F O H σ ρ ∧ W m ρ, ⟨m0, O, ρ, R, w0⟩, ?_⟩
    rintro m σ H ⟨O, ρ, R, w⟩
    refine ⟨B, F, O, ρ, R, hc.mono (fun k h H1 s1 => ?_) (h m ρ w)⟩
    cases k with
    | true =>
      refine ⟨fun σ' H' => ∃ m', m' < m ∧ ∃ O ρ, Rep X.K B F O H' σ' ρ ∧ W m' ρ, fun σ' H' ⟨m', l, q⟩ => ⟨m', l, q⟩, B, F, O, ρ, R.same s1, hb.mono (D := { lD X.K B F D with nx := fun ρ' => ∃ m', m' < m ∧ W m' ρ', ct := fun ρ' => ∃ m', m' < m ∧ W m' ρ', bk := (lD X.K B F D).nx }) ⟨?_, fun _ q => q, fun _ q => q, ?_⟩ h⟩
      · rintro ρ' ⟨m', l, w'⟩ O' σ' H' R'
        exact ⟨m', l, O', ρ', R', w'⟩
      · rintro ρ' ⟨m', l, w'⟩ O' σ' H' R'
        exact ⟨m', l, O', ρ', R', w'⟩
    | false => exact h O σ H1 (R.same s1)
def ItD (K : PySem.W.Frag) (M : Hp) (J : It) (items : List Dt) : Prop := ∀ H, Same M H →
  (∀ (k : Nat) d, items[k]? = some d → J.go k H ∧ ∀ x H', J.yld k H x H' → H' = H ∧ Rp K M d x) ∧ J.stop items.length H
abbrev DTI := Cd → (List Dt → Prop) → Prop
def lI (K : PySem.W.Frag) (ti : DTI) : TI := fun σ H R => ∃ B F O ρ, Rep K B F O H σ ρ ∧ ti ρ fun items => ∀ J H', Same H H' → ItD K (mask (F ++ O) H') J items → R J H'
structure DI (X : Cx) (tg iter : Expr) (ti : DTI) : Prop where
  mono : ∀ {ρ Q Q'}, (∀ d, Q d → Q' d) → ti ρ Q → ti ρ Q'
  pi : PI X tg iter (lI X.K ti)
theorem PI.imp {tg e : Expr} {t t' : TI} (h : PI X tg e t) (i : ∀ σ H Q, t' σ H Q → t σ H Q) : PI X tg e t' := fun pins s σ H R I q => h pins s σ H R I (i _ _ _ q)
def Ah4 (ti : DTI) (g : DTG) (tb : DTS) : DTS := fun D ρ => ti ρ fun items => ∃ W : Nat → Cd → Prop, W 0 ρ ∧
  (∀ (k : Nat) d ρ', items[k]? = some d → W k ρ' → g d ρ' fun ρ2 => tb { D with nx := W (k + 1), ct := W (k + 1), bk := D.nx } ρ2) ∧ ∀ ρ', W items.length ρ' → D.nx ρ'
theorem Rep.rebase {K : PySem.W.Frag} {B : Hp} {F O : List Addr} {H : Hp} {σ : St} {ρ : Cd} (r : Rep K B F O H σ ρ) : Rep K (mask O H) F O H σ ρ :=
  ⟨r.len, Bs, fun _ h => CW h, r.th, r.is, r.own, r.inj⟩
theorem Rep.unbase {K : PySem.W.Frag} {B B' : Hp} {F O O' : List Addr} {H H' : Hp} {σ σ' : St} {ρ ρ' : Cd} (r : Rep K B F O H σ ρ) (r' : Rep K (mask O H) F O' H' σ' ρ') : Rep K B F O' H' σ' ρ' := by
  have s : Same B (mask O H) := fun a o e => by
    rw [Az]
    · exact r.base a o e
    · intro z; rw [r.fr a z] at e; cases e
  refine ⟨r'.len, s.trans r'.base, fun a h => ?_, r'.th, r'.is, r'.own, r'.inj⟩
  cases q : B a with
  | none => rfl
  | some o => have := s a o q; rw [r'.fr a h] at this; cases this
theorem Rep.sub {K : PySem.W.Frag} {B : Hp} {F O : List Addr} {H : Hp} {σ : St} {ρ : Cd} (r : Rep K B F O H σ ρ) : Same B (mask O H) := fun a o e => by
  rw [Az]
  · exact r.base a o e
  · intro z; rw [r.fr a z] at e; cases e
theorem Xu {F O : List Addr} {H : Hp} : mask F (mask O H) = mask (F ++ O) H := by
  funext a
  by_cases h1 : a ∈ F
  · rw [CW h1, CW (List.mem_append_left _ h1)]
  · rw [Az h1]
    by_cases h2 : a ∈ O
    · rw [CW h2, CW (List.mem_append_right _ h2)]
    · rw [Az h2, Az fun z => (List.mem_append.mp z).elim h1 h2]
theorem Uu {tg iter : Expr} {body : List Stmt} {ti : DTI} {g : DTG} (hp : PassesOwn (model X.prog X.w) X.A X.env X.xe) (hc : X.calm = true) (hi : DI X tg iter ti) (hg : DG X tg g) (hb : DSs X body t)
    (hs : ∀ x, foldedSetIterable iter X.env x = pure x := by intro _; rfl) : DS X (.For tg iter body [] pos) (Ah4 ti g t) where
  mono := fun {ρ D D'} hd h => hi.mono (fun items ⟨W, h0, h, he⟩ => ⟨W, h0, fun k d ρ' e w => hg.mono (fun ρ2 q => hb.mono (D := { D with nx := W (k + 1), ct := W (k + 1), bk := D.nx }) ⟨fun _ q => q, hd.rt, hd.nx, fun _ q => q⟩ q) (h k d ρ' e w), fun ρ' w => hd.nx _ (he ρ' w)⟩) h
  ps := (AeJ hp hc hi.pi hg.pg hb.ps hs).imp fun D σ H ⟨B, F, O, ρ, R, h⟩ => by
    refine ⟨B, F, O, ρ, R, hi.mono (fun items z J H1 s1 it => ?_) h⟩
    obtain ⟨W, h0, h, he⟩ := z
    have R1 := R.same s1
    refine ⟨fun i m σ H => m + i = items.length ∧ ∃ O' ρ', Rep X.K (mask O H1) F O' H σ ρ' ∧ W i ρ', ⟨items.length, by omega, O, ρ, R1.rebase, h0⟩, ?_⟩
    rintro i m σ2 H2 ⟨hm, O', ρ', R2, w⟩
    have sb : Same (mask (F ++ O) H1) H2 := fun a o e => R2.base a o (by
      obtain ⟨q, e⟩ := Cp e
      rw [Az fun z => q (List.mem_append_right _ z)]; exact e)
    obtain ⟨go, stop⟩ := it H2 sb
    by_cases hlt : i < items.length
    · refine .inr ⟨(go i items[i] (by simp [hlt])).1, fun σ' H' => ∃ O' ρ', Rep X.K (mask O H1) F O' H' σ' ρ' ∧ W (i + 1) ρ', fun σ' H' q => ⟨m - 1, by omega, by omega, q⟩, fun x H3 y => ?_⟩
      obtain ⟨e, r⟩ := (go i items[i] (by simp [hlt])).2 x H3 y
      subst e
      have r' : Rp X.K (mask (F ++ O') H3) items[i] x := r.mono (by rw [← Xu]; exact R2.below)
      refine ⟨_, F, O', ρ', _, R2, r', hg.mono (fun ρ2 q σ3 R3 => ⟨_, F, O', ρ2, R3, hb.mono (D := { lD X.K B F D with nx := W (i + 1), ct := W (i + 1), bk := (lD X.K B F D).nx }) ⟨?_, ?_, ?_, ?_⟩ q⟩) (h i _ ρ' (by simp [hlt]) w)⟩
      · exact fun ρ4 w4 O4 σ4 H4 R4 => ⟨O4, ρ4, R4, w4⟩
      · exact fun d q v H4 s4 r4 => q v H4 (R1.sub.trans s4) r4
      · exact fun ρ4 q O4 σ4 H4 R4 => q O4 σ4 H4 (R1.unbase (B' := B) R4)
      · exact fun ρ4 w4 O4 σ4 H4 R4 => ⟨O4, ρ4, R4, w4⟩
    · have e : i = items.length := by omega
      subst e
      exact .inl ⟨stop, he ρ' w O' σ2 H2 (R1.unbase (B' := B) R2)⟩
def AcS (te : DTE) : DTI := fun ρ Q => te ρ fun d => match d with
  | .lst ds => Q ds
  | _ => False
def Acq (te : DTE) : DTI := fun ρ Q => te ρ fun d => match d with
  | .tup ds => Q ds
  | _ => False
theorem Rt {tg : Expr} (h : DE X e te) : DI X tg e (AcS te) where
  mono := fun hq z => h.mono (fun d z => by
    split at z
    · exact hq _ z
    · exact z.elim) z
  pi := (Aa5 h.pe).imp fun σ H Q ⟨B, F, O, ρ, R, z⟩ => ⟨B, F, O, ρ, R, h.mono (fun d z v H1 s1 r1 => by
    split at z
    · obtain ⟨a, xs, rfl, hs, hl⟩ := Gj r1
      refine ⟨a, rfl, ⟨xs, Bs.seq hs⟩, z _ H1 s1 fun H2 s2 => ⟨fun k d e => ?_, xs, s2.seq hs, by rw [hl.len]; exact Nat.le_refl _⟩⟩
      obtain ⟨x, e1, e2⟩ := hl.get e
      refine ⟨⟨xs, x, s2.seq hs, e1⟩, fun y H3 ⟨e3, e4⟩ => ⟨e3, ?_⟩⟩
      have e5 := e4 xs (s2.seq hs)
      rw [e1] at e5; cases e5; exact e2
    · exact z.elim) z⟩
theorem AeR {tg : Expr} (h : DE X e te) : DI X tg e (Acq te) where
  mono := fun hq z => h.mono (fun d z => by
    split at z
    · exact hq _ z
    · exact z.elim) z
  pi := (AdJ h.pe).imp fun σ H Q ⟨B, F, O, ρ, R, z⟩ => ⟨B, F, O, ρ, R, h.mono (fun d z v H1 s1 r1 => by
    split at z
    · obtain ⟨a, xs, rfl, hs, hl⟩ := CP.mp r1
      refine ⟨a, rfl, ⟨xs, Bs.seqT hs⟩, z _ H1 s1 fun H2 s2 => ⟨fun k d e => ?_, xs, s2.seqT hs, by rw [hl.len]; exact Nat.le_refl _⟩⟩
      obtain ⟨x, e1, e2⟩ := hl.get e
      refine ⟨⟨xs, x, s2.seqT hs, e1⟩, fun y H3 ⟨e3, e4⟩ => ⟨e3, ?_⟩⟩
      have e5 := e4 xs (s2.seqT hs)
      rw [e1] at e5; cases e5; exact e2
    · exact z.elim) z⟩
def ups (lo : Int) (n : Nat) : List Dt := (List.range n).map fun i => .int (lo + (i : Nat))
theorem Ro {lo : Int} {n : Nat} : (ups lo n).length = n := by simp [ups]
theorem Rm {lo : Int} {n k : Nat} {d : Dt} (h : (ups lo n)[k]? = some d) : k < n ∧ d = .int (lo + (k : Nat)) := by
  unfold ups at h
  rw [List.getElem?_map] at h
  by_cases hk : k < n
  · rw [List.getElem?_range hk] at h
    exact ⟨hk, (Option.some.inj h).symm⟩
  · rw [List.getElem?_eq_none (by simpa using hk)] at h; cases h
theorem XM {K : PySem.W.Frag} {M : Hp} {lo : Int} {n : Nat} : ItD K M (Itr lo n) (ups lo n) := fun H _ => by
  refine ⟨fun k d e => ?_, ?_⟩
  · obtain ⟨hk, rfl⟩ := Rm e
    exact ⟨hk, fun x H' y => ⟨y.1, Bm.mpr y.2⟩⟩
  · rw [Ro]; exact Nat.le_refl n
def ZV (tl : DTA) : DTI := fun ρ Q => tl ρ fun ds => match ds with
  | [.int j] => (-(2 ^ 62) ≤ j ∧ j < 2 ^ 62) ∧ Q (ups 0 j.toNat)
  | _ => False
def Adz (tl : DTA) : DTI := fun ρ Q => tl ρ fun ds => match ds with
  | [.int i, .int j] => (-(2 ^ 62) ≤ i ∧ i < 2 ^ 62 ∧ -(2 ^ 62) ≤ j ∧ j < 2 ^ 62) ∧ Q (ups i (j - i).toNat)
  | _ => False
theorem Wu {tg : Expr} {p : Pos} (hg : Gl X "range") (hm : X.mg "range" = none) (ha : DA X [a] tl) (hs : starEach [a] X.env = [(false, eval a X.env)] := by rfl) : DI X tg (.Call (.Name "range" p) [a] [] pos) (ZV tl) where
  mono := fun hq z => ha.mono (fun d z => by
    split at z
    · exact ⟨z.1, hq _ z.2⟩
    · exact z.elim) z
  pi := (Xj hg hm ha.pa hs).imp fun σ H Q ⟨B, F, O, ρ, R, z⟩ => ⟨B, F, O, ρ, R, ha.mono (fun d z vs H1 s1 r1 => by
    split at z
    · obtain ⟨v, r, rfl, r2, r3⟩ := Ax.mp r1
      rw [BZ.mp r3, Bm.mp r2]
      exact ⟨_, rfl, z.1.1, z.1.2, z.2 _ H1 s1 XM⟩
    · exact z.elim) z⟩
end
def Fj (N : List Str) (ds : List Dt) : Cd := ds.map (fun d => some (.is d)) ++ List.replicate (N.length - ds.length) none
theorem Xr {K : PySem.W.Frag} {F : List Addr} {H : Hp} {N : List Str} {ds : List Dt} {vs : List V} (hF : ∀ a ∈ F, H a ≠ none) (r : RpL K (mask F H) ds vs) : Rep K H F [] H (start N vs) (Fj N ds) := by
  have hl := r.len
  have noown : ∀ (i : Nat) es, (Fj N ds)[i]? = some (some (.own es)) → False := fun i es e => by
    unfold Fj at e
    by_cases hi : i < ds.length
    · rw [List.getElem?_append_left (by simpa using hi), List.getElem?_map] at e
      cases q : ds[i]? with
      | none => rw [q] at e; cases e
      | some d => rw [q] at e; cases e
    · rw [List.getElem?_append_right (by simpa using hi), List.getElem?_replicate] at e
      split at e <;> cases e
  refine ⟨?_, Same.refl H, fun a h => (nomatch h), fun a h => hF a (by simpa using h), fun i d e => ?_, fun i es e => (noown i es e).elim, fun i j es es' a h1 => (noown i es h1).elim⟩
  · unfold start Fj; simp [hl]
  · unfold Fj at e
    by_cases hi : i < ds.length
    · rw [List.getElem?_append_left (by simpa using hi), List.getElem?_map] at e
      cases q : ds[i]? with
      | none => rw [q] at e; cases e
      | some d' =>
        rw [q] at e; cases e
        obtain ⟨v, e1, e2⟩ := r.get q
        refine ⟨v, ?_, by rw [List.append_nil]; exact e2⟩
        unfold start
        rw [List.getElem?_append_left (by simp; omega), List.getElem?_map, e1]; rfl
    · rw [List.getElem?_append_right (by simpa using hi), List.getElem?_replicate] at e
      split at e <;> cases e
section
variable {P : Program} {w : World} {K : PySem.W.Frag} {mg : Str → Option Value} {base : Heap}
theorem Fun.okD {x qual : Str} {st : Stmt} {f : Addr} {fd : FuncData} {N ps : List Str} {k : Nat} {sp : DSp} (F : Fun K x qual st f fd) (S : Am N ps (Ai st)) (len : ∀ ds Q, sp ds Q → ds.length = ps.length)
    (hbody : ∀ (cdv : Value) (A : Around) (outer : List Env) (s : Shared) (H : Hp) (E : XK), DP k (A.deeper (envOfC qual (Ai st) s.heap.objs.size f cdv)) →
      ∃ t, DSs (Vv CX0 P w K mg base N qual (Ai st) f cdv A outer s H E).nox (Dk st) t ∧ ∀ ds Q, sp ds Q → t { nx := fun _ => Q .non, rt := Q } (Fj N ds)) : GP P w K mg base CX0 (k + 1) f fd ps (lSp K sp) := by
  refine F.ok S (fun vs H Q E ⟨F, ds, _, r, h⟩ => by rw [r.len]; exact len _ _ h) fun cdv A outer s H vs Q E hr ⟨F', ds, hF, r, h⟩ => ?_
  obtain ⟨t, T, q⟩ := hbody cdv A outer s H E hr
  refine ⟨_, T.ps, H, F', [], Fj N ds, Xr hF r, T.mono (D := { nx := fun _ => ∀ v H', Same H H' → Rp K (mask F' H') .non v → Q v H', rt := fun d => ∀ v H', Same H H' → Rp K (mask F' H') d v → Q v H' }) ⟨?_, ?_, fun _ z => False.elim z, fun _ z => False.elim z⟩ (q ds _ h)⟩
  · exact fun ρ z O' σ' H' R' => z .non H' R'.base (Q0.mpr rfl)
  · exact fun d z v H' s' r' => z v H' s' r'
end
end L2
namespace L2
open PySem PySem.Spec PyProof.Rows PySem.SeqAt
structure FnT (K : PySem.W.Frag) (mg : Str → Option Value) (x : Str) (st : Stmt) (ps : List Str) (f : Addr) (fd : FuncData) : Prop where
  fn : Fun K x x st f fd
  mg : mg x = some (.ref f)
  bd : Binds K fd ps []
def Pm (P : Program) (w : World) (K : PySem.W.Frag) (mg : Str → Option Value) (base : Heap) (k : Nat) (x : Str) (st : Stmt) (ps : List Str) (sp : DSp) : Prop :=
  ∃ f fd, FnT K mg x st ps f fd ∧ GP P w K mg base CX0 k f fd ps (lSp K sp)
theorem Fun.uniq {K : PySem.W.Frag} {x q : Str} {st : Stmt} {f : Addr} {fd fd' : FuncData} (a : Fun K x q st f fd) (b : Fun K x q st f fd') : fd = fd' := by
  obtain ⟨oc, od, kV, doc, pm, an, cdv, ct, osl, _, h1, _⟩ := a.ex
  obtain ⟨oc', od', kV', doc', pm', an', cdv', ct', osl', _, h2, _⟩ := b.ex
  rw [h1] at h2
  injection h2 with h2
  injection h2 with _ _ h2 _
  injection h2
def spec {τ : Type} (args : τ → List Dt) (pre : τ → Prop) (post : τ → Dt → Prop) : DSp := fun ds Q => ∃ p, ds = args p ∧ pre p ∧ ∀ d, post p d → Q d
theorem Ae {τ : Type} {args : τ → List Dt} {pre : τ → Prop} {post : τ → Dt → Prop} : G3 (spec args pre post) := fun _ _ _ hq ⟨p, e, h, q⟩ => ⟨p, e, h, fun d z => hq _ (q d z)⟩
abbrev BX {τ : Type} (args : τ → List Dt) (pre : τ → Prop) (val : τ → Dt) : DSp := spec args pre fun p d => d = val p
abbrev T2 (a b : Int) : Dt := .tup [.int a, .int b]
abbrev T3 (a b c : Int) : Dt := .tup [.int a, .int b, .int c]
abbrev T4 (a b c d : Int) : Dt := .tup [.int a, .int b, .int c, .int d]
def Ac2 : DSp := spec (fun ns : List Int => [.lst (ns.map Dt.int)]) (fun ns => ns.length ≤ 63) fun _ d => d = .bl true
theorem Zy {H : Hp} : mask [] H = H := by funext a; exact Az (by simp)
theorem Xy {K : PySem.W.Frag} {H : Hp} {a : Addr} {ns : List Int} {E : XK} (hl : ns.length ≤ 63) (hS : SqL K H a (ns.map V.int)) : lSp K Ac2 [.ref a] H (fun v _ => v = .bl true) E :=
  ⟨[], [.lst (ns.map Dt.int)], fun _ h => (nomatch h), RpL.cons (Aao (by rw [Zy]; exact hS) (RpL.ints ns)) RpL.nil, ns, rfl, hl, fun d e v H' s r => by subst e; exact Dz.mp r⟩
section
variable {X : Cx} {a b c e : Expr} {es : List Expr} {ta tb tc te : DTE} {tA tB : DTT} {tl : DTA} {pos : Pos}
theorem Ag {k : Nat} {ps : List Str} {sp : DSp} {x : Str} {stx : Stmt} {p : Pos} (m : G3 sp) (G : Pm X.prog X.w X.K X.mg X.base k x stx ps sp) (hr : DP k X.A) (hg : Gl X x)
    (ha : DA X (e :: es) tl) (hdb : (x == ("__debug__" : Str)) = false := by decide)
    (he : starEach (e :: es) X.env = (false, eval e X.env) :: starEach es X.env := by rfl) (hpl : (backTo pos (starEach es X.env)).any (·.1) = false := by rfl) : DE X (.Call (.Name x p) (e :: es) [] pos) (dCall sp tl) := by
  obtain ⟨f, fd, F, G⟩ := G
  exact Ace (CX := CX0) m G hr hg F.mg F.fn.kp F.bd ha hdb he hpl
theorem Al (i : Nat) {x : Str} {pos' : Pos} (hN : X.N.Nodup) (he : DE X e te) (hi : X.N[i]? = some x := by rfl) (hx : Loc X.env.scope x := by first | exact Or.inl rfl | exact Or.inr rfl) (hs : swapsWith e (some (.Name x pos')) pos.line X.env = pure false := by rfl)
    (hf : X.fn x = true ∨ X.env.scope.names.lookup x = some .local := by first | exact .inl rfl | exact .inr rfl | assumption) : DS X (.Assign [.Name x pos'] e pos) (AeV te (Ur i)) where
  mono := fun hd h => he.mono (fun _ h => hd.nx _ h) h
  ps := (YT hN hi hx he.pe hs hf).imp fun D σ H ⟨B, F, O, ρ, R, h⟩ => ⟨B, F, O, ρ, R, he.mono (fun d q v H1 s1 r1 => q O _ H1 ((R.same s1).set i r1)) h⟩
def Ada (i j : Nat) (tl : DTA) : DTS := fun D ρ => tl ρ fun ds => match ds with
  | [d, e] => D.nx ((ρ.set i (some (.is d))).set j (some (.is e)))
  | _ => False
theorem WL {x y : Str} {px py pt : Pos} {kt k2 pt2} (hc : X.calm = true) (hN : X.N.Nodup) (i j : Nat) (ha : DA X [a, b] tl) (hi : X.N[i]? = some x := by rfl) (hj : X.N[j]? = some y := by rfl) (hij : i ≠ j := by decide)
    (hx : X.env.scope.names.lookup x = some .local := by rfl) (hy : X.env.scope.names.lookup y = some .local := by rfl)
    (hw : swappedStores [.Tuple [.Name x px, .Name y py] kt pt] (.Tuple [a, b] k2 pt2) X.env = pure (some [x, y]) := by rfl)
    (hs : swapsWithSole [.Tuple [.Name x px, .Name y py] kt pt] (.Tuple [a, b] k2 pt2) pos.line X.env = pure false := by rfl) :
    DS X (.Assign [.Tuple [.Name x px, .Name y py] kt pt] (.Tuple [a, b] k2 pt2) pos) (Ada i j tl) where
  mono := fun hd h => ha.mono (fun ds h => by
    split at h
    · exact hd.nx _ h
    · exact h.elim) h
  ps := (AeL hc hN hi hj hij hx hy ha.pa hw hs).imp fun D σ H ⟨B, F, O, ρ, R, h⟩ => ⟨B, F, O, ρ, R, ha.mono (fun ds q vs H1 s1 r1 => by
    split at q
    · obtain ⟨v, r, rfl, r2, r3⟩ := Ax.mp r1
      obtain ⟨v', r', rfl, r4, r5⟩ := Ax.mp r3
      obtain rfl := BZ.mp r5
      exact ⟨v, v', rfl, q O _ H1 (((R.same s1).set i r2).set j r4)⟩
    · exact q.elim) h⟩
mutual
def Dt.py : Dt → PyData
  | .non => .none
  | .bl b => .bool b
  | .int i => .int i
  | .str x => .str x
  | .tup ds => .tuple (Dt.pys ds)
  | .lst ds => .list (Dt.pys ds)
  | .fn _ => .dict []
  | .exc _ _ _ => .dict []
  | .obj _ _ _ => .dict []
def Dt.pys : List Dt → List PyData
  | [] => []
  | d :: ds => d.py :: Dt.pys ds
end
mutual
theorem Jd {X : Cx} {pins : List (Addr × Obj)} {σ : St} {H : Hp} {s : Shared} (I : Inv X pins σ H s) : ∀ {d : Dt} {v : V} {u : Value}, d.py.canLay0 = true → Rp X.K H d v → RelV v u → ∃ as, Reads s.heap u d.py as
  | .non, v, u, _, h, r => by rw [Q0.mp h] at r; cases (show u = .none from r); exact ⟨_, by rw [Dt.py]; exact .none⟩
  | .bl b, v, u, _, h, r => by rw [Dz.mp h] at r; cases (show u = .bool b from r); exact ⟨_, by rw [Dt.py]; exact .bool b⟩
  | .int i, v, u, _, h, r => by rw [Bm.mp h] at r; obtain ⟨t, rfl⟩ := r; exact ⟨_, by rw [Dt.py]; exact .int i t⟩
  | .str x, v, u, _, h, r => by rw [Rb.mp h] at r; obtain ⟨t, rfl⟩ := r; exact ⟨_, by rw [Dt.py]; exact .str x t⟩
  | .fn a, v, u, c, h, r => by rw [Dt.py] at c; exact (nomatch c)
  | .exc _ _ _, v, u, c, h, r => by rw [Dt.py] at c; exact (nomatch c)
  | .obj _ _ _, v, u, c, h, r => by rw [Dt.py] at c; exact (nomatch c)
  | .tup ds, v, u, c, h, r => by
    obtain ⟨a, xs, rfl, hs, hl⟩ := CP.mp h
    cases (show u = .ref a from r)
    obtain ⟨its, rv, ⟨o, h1, h2, n, h3⟩, _⟩ := I.tuple hs
    rw [Dt.py] at c
    obtain ⟨as, ra⟩ := Lq I (ds := ds) (by simpa [PyData.canLay0] using c) hl rv
    exact ⟨_, by rw [Dt.py]; exact .tuple h1 h2 h3 (by simpa using ra)⟩
  | .lst ds, v, u, c, h, r => by
    obtain ⟨a, xs, rfl, hs, hl⟩ := Gj h
    cases (show u = .ref a from r)
    obtain ⟨its, rv, ⟨o, n, h1, h2, _, h3⟩, _⟩ := I.list hs
    rw [Dt.py] at c
    obtain ⟨as, ra⟩ := Lq I (ds := ds) (by simpa [PyData.canLay0] using c) hl rv
    exact ⟨_, by rw [Dt.py]; exact .list h1 h2 h3 (by simpa using ra)⟩
theorem Lq {X : Cx} {pins : List (Addr × Obj)} {σ : St} {H : Hp} {s : Shared} (I : Inv X pins σ H s) : ∀ {ds : List Dt} {vs : List V} {us : List Value}, PyData.canLayAll0 (Dt.pys ds) = true → RpL X.K H ds vs → Vals vs us → ∃ as, ReadsAll s.heap us (Dt.pys ds) as
  | [], vs, us, _, h, r => by rw [BZ.mp h] at r; cases r; exact ⟨_, by rw [Dt.pys]; exact .nil⟩
  | d :: ds, vs, us, c, h, r => by
    obtain ⟨v, vr, rfl, h1, h2⟩ := Ax.mp h
    rw [Dt.pys] at c
    have c' : d.py.canLay0 = true ∧ PyData.canLayAll0 (Dt.pys ds) = true := by simpa [PyData.canLayAll0] using c
    cases r with
    | cons r1 r2 =>
      obtain ⟨as, ra⟩ := Jd I c'.1 h1 r1
      obtain ⟨bs, rb⟩ := Lq I c'.2 h2 r2
      exact ⟨_, by rw [Dt.pys]; exact .cons ra rb⟩
end
mutual
def Dt.eq : Dt → Dt → Bool
  | .non, .non => true
  | .bl a, .bl b => a == b
  | .bl a, .int j => (if a then 1 else 0) == j
  | .int i, .bl b => i == (if b then 1 else 0)
  | .int i, .int j => decide (i = j)
  | .str x, .str y => x == y
  | .tup xs, .tup ys => Dt.eqs xs ys
  | .lst xs, .lst ys => Dt.eqs xs ys
  | _, _ => false
def Dt.eqs : List Dt → List Dt → Bool
  | [], [] => true
  | x :: xs, y :: ys => Dt.eq x y && Dt.eqs xs ys
  | _, _ => false
end
mutual
def Dt.flat : Nat → Dt → Bool
  | _, .fn _ => false
  | _, .exc _ _ _ => false
  | _, .obj _ _ _ => false
  | _, .str x => (PyData.str x).canLay0
  | 0, .tup _ => false
  | 0, .lst _ => false
  | n + 1, .tup ds => Dt.flats n ds
  | n + 1, .lst ds => Dt.flats n ds
  | _, _ => true
def Dt.flats : Nat → List Dt → Bool
  | _, [] => true
  | n, d :: ds => Dt.flat n d && Dt.flats n ds
end
mutual
theorem Gy : ∀ (d : Dt) (n : Nat), d.flat n = true → d.py.canLay0 = true ∧ d.py.depth ≤ n
  | .non, n, h => by rw [Dt.py]; exact ⟨rfl, Nat.zero_le _⟩
  | .bl _, n, h => by rw [Dt.py]; exact ⟨rfl, Nat.zero_le _⟩
  | .int _, n, h => by rw [Dt.py]; exact ⟨rfl, Nat.zero_le _⟩
  | .str _, n, h => by rw [Dt.py]; exact ⟨by simpa [Dt.flat] using h, Nat.zero_le _⟩
  | .fn _, n, h => by simp [Dt.flat] at h
  | .exc _ _ _, n, h => by simp [Dt.flat] at h
  | .obj _ _ _, n, h => by simp [Dt.flat] at h
  | .tup ds, 0, h => by simp [Dt.flat] at h
  | .lst ds, 0, h => by simp [Dt.flat] at h
  | .tup ds, n + 1, h => by
    have := Lp ds n (by simpa [Dt.flat] using h)
    rw [Dt.py]
    exact ⟨by simpa [PyData.canLay0] using this.1, by simpa [PyData.depth] using this.2⟩
  | .lst ds, n + 1, h => by
    have := Lp ds n (by simpa [Dt.flat] using h)
    rw [Dt.py]
    exact ⟨by simpa [PyData.canLay0] using this.1, by simpa [PyData.depth] using this.2⟩
theorem Lp : ∀ (ds : List Dt) (n : Nat), Dt.flats n ds = true → PyData.canLayAll0 (Dt.pys ds) = true ∧ PyData.depthAll (Dt.pys ds) ≤ n
  | [], n, h => by rw [Dt.pys]; exact ⟨rfl, Nat.zero_le _⟩
  | d :: ds, n, h => by
    have h' : d.flat n = true ∧ Dt.flats n ds = true := by simpa [Dt.flats] using h
    have h1 := Gy d n h'.1
    have h2 := Lp ds n h'.2
    rw [Dt.pys]
    exact ⟨by simp [PyData.canLayAll0, h1.1, h2.1], by simp only [PyData.depthAll]; omega⟩
end
mutual
theorem RB : ∀ (a b : Dt), a.py.canLay0 = true → b.py.canLay0 = true → PyData.eqv a.py b.py = a.eq b
  | .fn _, b, h, _ => by rw [Dt.py] at h; exact (nomatch h)
  | .exc _ _ _, b, h, _ => by rw [Dt.py] at h; exact (nomatch h)
  | .obj _ _ _, b, h, _ => by rw [Dt.py] at h; exact (nomatch h)
  | a, .fn _, _, h => by rw [Dt.py] at h; exact (nomatch h)
  | a, .exc _ _ _, _, h => by rw [Dt.py] at h; exact (nomatch h)
  | a, .obj _ _ _, _, h => by rw [Dt.py] at h; exact (nomatch h)
  | .non, .non, _, _ => by simp [Dt.py, Dt.eq, PyData.eqv]
  | .non, .bl _, _, _ => by simp [Dt.py, Dt.eq, PyData.eqv]
  | .non, .int _, _, _ => by simp [Dt.py, Dt.eq, PyData.eqv]
  | .non, .str _, _, _ => by simp [Dt.py, Dt.eq, PyData.eqv]
  | .non, .tup _, _, _ => by simp [Dt.py, Dt.eq, PyData.eqv]
  | .non, .lst _, _, _ => by simp [Dt.py, Dt.eq, PyData.eqv]
  | .bl _, .non, _, _ => by simp [Dt.py, Dt.eq, PyData.eqv]
  | .bl _, .bl _, _, _ => by simp [Dt.py, Dt.eq, PyData.eqv]
  | .bl _, .int _, _, _ => by simp [Dt.py, Dt.eq, PyData.eqv]
  | .bl _, .str _, _, _ => by simp [Dt.py, Dt.eq, PyData.eqv]
  | .bl _, .tup _, _, _ => by simp [Dt.py, Dt.eq, PyData.eqv]
  | .bl _, .lst _, _, _ => by simp [Dt.py, Dt.eq, PyData.eqv]
  | .int _, .non, _, _ => by simp [Dt.py, Dt.eq, PyData.eqv]
  | .int _, .bl _, _, _ => by simp [Dt.py, Dt.eq, PyData.eqv]
  | .int i, .int j, _, _ => by
    simp only [Dt.py, Dt.eq, PyData.eqv]
    exact Bool.beq_eq_decide_eq i j
  | .int _, .str _, _, _ => by simp [Dt.py, Dt.eq, PyData.eqv]
  | .int _, .tup _, _, _ => by simp [Dt.py, Dt.eq, PyData.eqv]
  | .int _, .lst _, _, _ => by simp [Dt.py, Dt.eq, PyData.eqv]
  | .str _, .non, _, _ => by simp [Dt.py, Dt.eq, PyData.eqv]
  | .str _, .bl _, _, _ => by simp [Dt.py, Dt.eq, PyData.eqv]
  | .str _, .int _, _, _ => by simp [Dt.py, Dt.eq, PyData.eqv]
  | .str _, .str _, _, _ => by simp [Dt.py, Dt.eq, PyData.eqv]
  | .str _, .tup _, _, _ => by simp [Dt.py, Dt.eq, PyData.eqv]
  | .str _, .lst _, _, _ => by simp [Dt.py, Dt.eq, PyData.eqv]
  | .tup _, .non, _, _ => by simp [Dt.py, Dt.eq, PyData.eqv]
  | .tup _, .bl _, _, _ => by simp [Dt.py, Dt.eq, PyData.eqv]
  | .tup _, .int _, _, _ => by simp [Dt.py, Dt.eq, PyData.eqv]
  | .tup _, .str _, _, _ => by simp [Dt.py, Dt.eq, PyData.eqv]
  | .tup xs, .tup ys, h1, h2 => by
    rw [Dt.py] at h1 h2
    rw [Dt.py, Dt.py, Dt.eq, PyData.eqv]
    exact RW xs ys (by simpa [PyData.canLay0] using h1) (by simpa [PyData.canLay0] using h2)
  | .tup _, .lst _, _, _ => by simp [Dt.py, Dt.eq, PyData.eqv]
  | .lst _, .non, _, _ => by simp [Dt.py, Dt.eq, PyData.eqv]
  | .lst _, .bl _, _, _ => by simp [Dt.py, Dt.eq, PyData.eqv]
  | .lst _, .int _, _, _ => by simp [Dt.py, Dt.eq, PyData.eqv]
  | .lst _, .str _, _, _ => by simp [Dt.py, Dt.eq, PyData.eqv]
  | .lst _, .tup _, _, _ => by simp [Dt.py, Dt.eq, PyData.eqv]
  | .lst xs, .lst ys, h1, h2 => by
    rw [Dt.py] at h1 h2
    rw [Dt.py, Dt.py, Dt.eq, PyData.eqv]
    exact RW xs ys (by simpa [PyData.canLay0] using h1) (by simpa [PyData.canLay0] using h2)
theorem RW : ∀ (xs ys : List Dt), PyData.canLayAll0 (Dt.pys xs) = true → PyData.canLayAll0 (Dt.pys ys) = true → PyData.eqvAll (Dt.pys xs) (Dt.pys ys) = Dt.eqs xs ys
  | [], [], _, _ => by simp [Dt.pys, Dt.eqs, PyData.eqvAll]
  | [], _ :: _, _, _ => by simp [Dt.pys, Dt.eqs, PyData.eqvAll]
  | _ :: _, [], _, _ => by simp [Dt.pys, Dt.eqs, PyData.eqvAll]
  | x :: xs, y :: ys, h1, h2 => by
    rw [Dt.pys] at h1 h2
    have h1' : x.py.canLay0 = true ∧ PyData.canLayAll0 (Dt.pys xs) = true := by simpa [PyData.canLayAll0] using h1
    have h2' : y.py.canLay0 = true ∧ PyData.canLayAll0 (Dt.pys ys) = true := by simpa [PyData.canLayAll0] using h2
    rw [Dt.pys, Dt.pys, Dt.eqs, PyData.eqvAll, RB x y h1'.1 h2'.1, RW xs ys h1'.2 h2'.2]
end
def Abq (K : PySem.W.Frag) (neg : Bool) : R2 := fun x y H Q => ∃ a b, Rp K H a x ∧ Rp K H b y ∧ a.flat 8 = true ∧ b.flat 8 = true ∧ Q (.bl (if neg then !a.eq b else a.eq b)) H
theorem VF (hu : X.A.units + 64 < cLine) : OpR X (compareOp .Eq) (Abq X.K false) := by
  intro pins s σ H x y v u Q I rx ry ⟨a, b, ra, rb, fa, fb, q⟩
  obtain ⟨ca, da⟩ := Gy a 8 fa
  obtain ⟨cb, db⟩ := Gy b 8 fb
  obtain ⟨as, r1⟩ := Jd I ca ra rx
  obtain ⟨bs, r2⟩ := Jd I cb rb ry
  refine rcAt_reads r1 r2 ca cb (by omega) _ _ _ _ ?_
  rw [RB a b ca cb]
  exact ⟨.bl _, H, I, rfl, q⟩
theorem Zo (hu : X.A.units + 64 < cLine) : OpR X (compareOp .NotEq) (Abq X.K true) := by
  intro pins s σ H x y v u Q I rx ry ⟨a, b, ra, rb, fa, fb, q⟩
  obtain ⟨ca, da⟩ := Gy a 8 fa
  obtain ⟨cb, db⟩ := Gy b 8 fb
  obtain ⟨as, r1⟩ := Jd I ca ra rx
  obtain ⟨bs, r2⟩ := Jd I cb rb ry
  refine compareNe_reads r1 r2 ca cb (by omega) ?_
  rw [RB a b ca cb]
  exact ⟨.bl _, H, I, rfl, q⟩
def dEq : D2 := fun a b Q => (a.flat 8 = true ∧ b.flat 8 = true) ∧ Q (.bl (a.eq b))
def dNe : D2 := fun a b Q => (a.flat 8 = true ∧ b.flat 8 = true) ∧ Q (.bl (!a.eq b))
theorem VD {K : PySem.W.Frag} : Ik K (Abq K false) dEq := ⟨fun hq h => ⟨h.1, hq _ h.2⟩, fun O H a b x y Q _ ra rb h => ⟨a, b, ra.mono Bs, rb.mono Bs, h.1.1, h.1.2, h.2 _ H (Same.refl H) (Dz.mpr rfl)⟩⟩
theorem YZ {K : PySem.W.Frag} : Ik K (Abq K true) dNe := ⟨fun hq h => ⟨h.1, hq _ h.2⟩, fun O H a b x y Q _ ra rb h => ⟨a, b, ra.mono Bs, rb.mono Bs, h.1.1, h.1.2, h.2 _ H (Same.refl H) (Dz.mpr rfl)⟩⟩
theorem Qq (hu : X.A.units + 64 < cLine) (ha : DE X a ta) (hb : DE X b tb) : DE X (.Compare a [.Eq] [b] pos) (dOp dEq ta tb) := Uw (VF hu) VD ha hb (Im _)
theorem AcG (hu : X.A.units + 64 < cLine) (ha : DE X a ta) (hb : DE X b tb) : DE X (.Compare a [.NotEq] [b] pos) (dOp dNe ta tb) := Uw (Zo hu) YZ ha hb (Im _)
theorem SN (hu : X.A.units + 64 < cLine) (ha : DE X a ta) (hb : DE X b tb) : DT X (.Compare a [.Eq] [b] pos) (PN (dOp dEq ta tb)) := M8 (VF hu) VD ha hb (Im _)
theorem GF (hu : X.A.units + 64 < cLine) (ha : DE X a ta) (hb : DE X b tb) : DT X (.Compare a [.NotEq] [b] pos) (PN (dOp dNe ta tb)) := M8 (Zo hu) YZ ha hb (Im _)
def isB (k : Bool) : Dt → Bool
  | .bl b => b == k
  | _ => false
def isN : Dt → Bool
  | .non => true
  | _ => false
def dIs (neg : Bool) : D2 := fun a b Q => match b with
  | .bl k => Q (.bl (if neg then !isB k a else isB k a))
  | .non => Q (.bl (if neg then !isN a else isN a))
  | _ => False
def Od (t t' : D2) (ta tb tc : DTE) : DTE := fun ρ Q => ta ρ fun a => tb ρ fun b => t a b fun z => match z with
  | .bl k => if k = true then tc ρ fun c => t' b c Q else Q (.bl false)
  | _ => False
theorem Vn {t t' : D2} {ta tb tc : DTE} (m : ∀ {a b Q Q'}, (∀ d, Q d → Q' d) → t a b Q → t a b Q') (m' : ∀ {a b Q Q'}, (∀ d, Q d → Q' d) → t' a b Q → t' a b Q')
    (ma : ∀ {ρ Q Q'}, (∀ d, Q d → Q' d) → ta ρ Q → ta ρ Q') (mb : ∀ {ρ Q Q'}, (∀ d, Q d → Q' d) → tb ρ Q → tb ρ Q') (mc : ∀ {ρ Q Q'}, (∀ d, Q d → Q' d) → tc ρ Q → tc ρ Q') :
    ∀ {ρ Q Q'}, (∀ d, Q d → Q' d) → Od t t' ta tb tc ρ Q → Od t t' ta tb tc ρ Q' := fun hq h => ma (fun _ h => mb (fun _ h => m (fun z h => by
      split at h
      · rename_i k
        cases k with
        | true => exact mc (fun _ h => m' hq h) h
        | false => exact hq _ h
      · exact h.elim) h) h) h
theorem Xi {K : PySem.W.Frag} {r r' : R2} {t t' : D2} (S : Ik K r t) (S' : Ik K r' t') {ta tb tc : DTE} (ma : ∀ {ρ Q Q'}, (∀ d, Q d → Q' d) → ta ρ Q → ta ρ Q') (mb : ∀ {ρ Q Q'}, (∀ d, Q d → Q' d) → tb ρ Q → tb ρ Q') (mc : ∀ {ρ Q Q'}, (∀ d, Q d → Q' d) → tc ρ Q → tc ρ Q')
    (σ : St) (H : Hp) (Q : VK) (h : lE K (Od t t' ta tb tc) σ H Q) : Y0 r r' (lE K ta) (lE K tb) (lE K tc) σ H Q := by
  obtain ⟨B, F, O, ρ, R, h⟩ := h
  refine ⟨B, F, O, ρ, R, ma (fun a h v H1 s1 r1 => ⟨B, F, O, ρ, R.same s1, mb (fun b h u H2 s2 r2 => ?_) h⟩) h⟩
  refine S.ok _ H2 a b v u _ ((R.same s1).same s2).th (r1.mono s2.mask) r2 (S.mono (fun z h w H3 s3 r3 => ?_) h)
  split at h
  · rename_i k
    refine ⟨k, Dz.mp r3, ?_⟩
    have s123 := (s1.trans s2).trans s3
    cases k with
    | true => exact ⟨B, F, O, ρ, R.same s123, mc (fun c h y H4 s4 r4 => S'.ok _ H4 b c u y Q ((R.same s123).same s4).th ((r2.mono s3.mask).mono s4.mask) r4 (S'.mono (fun d q w' H5 s5 r5 => q w' H5 ((s123.trans s4).trans s5) r5) h)) h⟩
    | false => exact h _ H3 s123 (Dz.mpr rfl)
  · exact h.elim
theorem Ks {op op' : CmpOp} {r r' : R2} {t t' : D2} (ho : OpR X (compareOp op) r) (ho' : OpR X (compareOp op') r') (S : Ik X.K r t) (S' : Ik X.K r' t') (ha : DE X a ta) (hb : DE X b tb) (hc : DE X c tc)
    (hm : lastMarks [op, op'] [b, c] = false := by with_unfolding_all rfl) : DE X (.Compare a [op, op'] [b, c] pos) (Od t t' ta tb tc) where
  mono := Vn (t := t) (t' := t') (ta := ta) (tb := tb) (tc := tc) S.mono S'.mono ha.mono hb.mono hc.mono
  pe := (Aag ho ho' ha.pe hb.pe hc.pe hm).imp (Xi (ta := ta) (tb := tb) (tc := tc) S S' ha.mono hb.mono hc.mono)
abbrev DL := List Dt → (Dt → Prop) → Prop
structure Uy (K : PySem.W.Frag) (r : List V → Hp → VK → Prop) (t : DL) : Prop where
  mono : ∀ {ds Q Q'}, (∀ d, Q d → Q' d) → t ds Q → t ds Q'
  ok : ∀ (O : List Addr) (H : Hp) (ds : List Dt) (xs : List V) (Q : VK), (∀ p ∈ O, H p ≠ none) → RpL K (mask O H) ds xs →
    t ds (fun d => ∀ v H', Same H H' → Rp K (mask O H') d v → Q v H') → r xs H Q
def dCB (t : DL) (tl : DTA) : DTE := fun ρ Q => tl ρ fun ds => t ds Q
theorem Ad1 {K : PySem.W.Frag} {r : List V → Hp → VK → Prop} {t : DL} (S : Uy K r t) {tl : DTA} (m : ∀ {ρ Q Q'}, (∀ d, Q d → Q' d) → tl ρ Q → tl ρ Q') (σ : St) (H : Hp) (Q : VK) (h : lE K (dCB t tl) σ H Q) : tCB r (lA K tl) σ H Q := by
  obtain ⟨B, F, O, ρ, R, h⟩ := h
  exact ⟨B, F, O, ρ, R, m (fun ds h vs H1 s1 r1 => S.ok _ H1 ds vs Q (R.same s1).th r1 (S.mono (fun d q v H2 s2 r2 => q v H2 (s1.trans s2) r2) h)) h⟩
theorem Ub {id : String} {x : Str} {p : Pos} {r : List V → Hp → VK → Prop} {t : DL} (hc : Jz X (.builtin id) r) (S : Uy X.K r t) (hg : Gl X x) (hm : X.mg x = none) (hv : bootBuiltins x = some (.builtin id)) (ha : DA X (e :: es) tl) (hn : x ≠ "__name__" := by decide)
    (hdb : (x == ("__debug__" : Str)) = false := by decide) (he : starEach (e :: es) X.env = (false, eval e X.env) :: starEach es X.env := by rfl) (hpl : (backTo pos (starEach es X.env)).any (·.1) = false := by rfl) : DE X (.Call (.Name x p) (e :: es) [] pos) (dCB t tl) where
  mono := fun hq h => ha.mono (fun _ h => S.mono hq h) h
  pe := (Sw hc hg hm hv ha.pa hn hdb he hpl).imp (Ad1 (tl := tl) S ha.mono)
def Yx : DL := fun ds Q => match ds with
  | [.lst xs] => Q (.int xs.length)
  | [.tup xs] => Q (.int xs.length)
  | _ => False
def ZF : DL := fun ds Q => match ds with
  | [.int i] => Q (.int (if i < 0 then -i else i))
  | _ => False
def Z2 : DL := fun ds Q => match ds with
  | [.int i, .int j] => Q (.int (if j > i then j else i))
  | _ => False
def Ai3 : DL := fun ds Q => match ds with
  | [.int i, .int j] => Q (.int (if j < i then j else i))
  | _ => False
def Ait : DL := fun ds Q => match ds with
  | [.int i] => Q (.int i)
  | [.bl k] => Q (.int (if k then 1 else 0))
  | _ => False
theorem Ack {K : PySem.W.Frag} : Uy K (fun xs H Q => ∃ p ys, xs = [.ref p] ∧ (SqL K H p ys ∨ SqT K H p ys) ∧ Q (.int ys.length) H) Yx where
  mono := fun hq h => by
    unfold Yx at h ⊢
    split at h
    · exact hq _ h
    · exact hq _ h
    · exact h.elim
  ok := fun O H ds xs Q _ r h => by
    unfold Yx at h
    split at h
    · obtain ⟨v, r', rfl, r2, r3⟩ := Ax.mp r
      obtain rfl := BZ.mp r3
      obtain ⟨a, ys, rfl, hs, hl⟩ := Gj r2
      exact ⟨a, ys, rfl, .inl (Bs.seq hs), by rw [hl.len]; exact h _ H (Same.refl H) (Bm.mpr rfl)⟩
    · obtain ⟨v, r', rfl, r2, r3⟩ := Ax.mp r
      obtain rfl := BZ.mp r3
      obtain ⟨a, ys, rfl, hs, hl⟩ := CP.mp r2
      exact ⟨a, ys, rfl, .inr (Bs.seqT hs), by rw [hl.len]; exact h _ H (Same.refl H) (Bm.mpr rfl)⟩
    · exact h.elim
theorem AhT {K : PySem.W.Frag} {H : Hp} {i : Int} {xs : List V} (h : RpL K H [.int i] xs) : xs = [.int i] := by
  obtain ⟨v, r, rfl, r2, r3⟩ := Ax.mp h
  rw [BZ.mp r3, Bm.mp r2]
theorem AkX {K : PySem.W.Frag} {H : Hp} {i j : Int} {xs : List V} (h : RpL K H [.int i, .int j] xs) : xs = [.int i, .int j] := by
  obtain ⟨v, r, rfl, r2, r3⟩ := Ax.mp h
  rw [AhT r3, Bm.mp r2]
theorem Ab9 {K : PySem.W.Frag} : Uy K (fun xs H Q => ∃ i, xs = [.int i] ∧ Q (.int (if i < 0 then -i else i)) H) ZF where
  mono := fun hq h => by
    unfold ZF at h ⊢
    split at h
    · exact hq _ h
    · exact h.elim
  ok := fun O H ds xs Q _ r h => by
    unfold ZF at h
    split at h
    · exact ⟨_, AhT r, h _ H (Same.refl H) (Bm.mpr rfl)⟩
    · exact h.elim
theorem Aay {K : PySem.W.Frag} : Uy K (fun xs H Q => ∃ i j, xs = [.int i, .int j] ∧ Q (.int (if j > i then j else i)) H) Z2 where
  mono := fun hq h => by
    unfold Z2 at h ⊢
    split at h
    · exact hq _ h
    · exact h.elim
  ok := fun O H ds xs Q _ r h => by
    unfold Z2 at h
    split at h
    · exact ⟨_, _, AkX r, h _ H (Same.refl H) (Bm.mpr rfl)⟩
    · exact h.elim
theorem Vy {p : Pos} (hm : X.mg "len" = none) (ha : DA X [a] tl) (hg : Gl X "len" := by rfl) (he : starEach [a] X.env = (false, eval a X.env) :: starEach [] X.env := by rfl) (hpl : (backTo pos (starEach [] X.env)).any (·.1) = false := by rfl) :
    DE X (.Call (.Name "len" p) [a] [] pos) (dCB Yx tl) := Ub Q6 Ack hg hm PySem.boot_len ha (he := he) (hpl := hpl)
theorem IV {p : Pos} (hm : X.mg "abs" = none) (ha : DA X [a] tl) (hg : Gl X "abs" := by rfl) (hv : bootBuiltins "abs" = some (.builtin "abs") := by rfl) (he : starEach [a] X.env = (false, eval a X.env) :: starEach [] X.env := by rfl) (hpl : (backTo pos (starEach [] X.env)).any (·.1) = false := by rfl) :
    DE X (.Call (.Name "abs" p) [a] [] pos) (dCB ZF tl) := Ub Aaa Ab9 hg hm hv ha (he := he) (hpl := hpl)
theorem Zq {p : Pos} (hm : X.mg "max" = none) (ha : DA X [a, b] tl) (hc : X.calm = true := by rfl) (hg : Gl X "max" := by rfl) (hv : bootBuiltins "max" = some (.builtin "max") := by rfl) (he : starEach [a, b] X.env = (false, eval a X.env) :: starEach [b] X.env := by rfl)
    (hpl : (backTo pos (starEach [b] X.env)).any (·.1) = false := by rfl) : DE X (.Call (.Name "max" p) [a, b] [] pos) (dCB Z2 tl) := Ub (Xv hc) Aay hg hm hv ha (he := he) (hpl := hpl)
def tyOf : Dt → String
  | .non => "NoneType"
  | .bl _ => "bool"
  | .int _ => "int"
  | .str _ => "str"
  | .tup _ => "tuple"
  | .lst _ => "list"
  | .fn _ => "function"
  | .exc _ _ _ => "exception"
  | .obj _ _ _ => "instance"
def noFn : Dt → Bool
  | .fn _ => false
  | .exc _ _ _ => false
  | .obj _ _ _ => false
  | _ => true
def isT (T : String) (d : Dt) : Bool := tyOf d == T || (T == "int" && tyOf d == "bool")
def Tc (T : String) : Prop := ∀ (K : PySem.W.Frag) (d : Dt), noFn d = true → PySem.W.kitOne K (.type (tyOf d)) (.type T) = some (isT T d)
theorem YQ {T : String} (hT : Tc T) : Jz X (.builtin "isinstance") (fun xs H Q => ∃ d x, xs = [x, .ty T] ∧ Rp X.K H d x ∧ noFn d = true ∧ Q (.bl (isT T d)) H) := by
  intro pins s σ H xs us Q I r ⟨d, x, e, rp, nf, q⟩
  subst e
  obtain ⟨u, u2, rfl, r1, r2⟩ := vals2 r
  cases (show u2 = .type T from r2)
  have hk := hT X.K d nf
  have fin : ∀ tk, EP X pins σ Q (.bool (isT T d)) { s with toks := tk } := fun tk => ⟨.bl _, H, I.tok tk, rfl, q⟩
  cases d with
  | non => rw [Q0.mp rp] at r1; cases (show u = Value.none from r1); exact PySem.W.kia_one PySem.W.kitx_none I.kIn True.intro hk (fun z => nomatch z) fin
  | bl y => rw [Dz.mp rp] at r1; cases (show u = Value.bool y from r1); exact PySem.W.kia_one PySem.W.kitx_bool I.kIn True.intro hk (fun z => nomatch z) fin
  | int i => rw [Bm.mp rp] at r1; obtain ⟨t, q⟩ := (show ∃ t, u = Value.int i t from r1); cases q; exact PySem.W.kia_one PySem.W.kitx_int I.kIn True.intro hk (fun z => nomatch z) fin
  | str y => rw [Rb.mp rp] at r1; obtain ⟨t, q⟩ := (show ∃ t, u = Value.str y t from r1); cases q; exact PySem.W.kia_one PySem.W.kitx_str I.kIn True.intro hk (fun z => nomatch z) fin
  | fn a => cases nf
  | exc _ _ _ => cases nf
  | obj _ _ _ => cases nf
  | tup ds =>
    obtain ⟨a, ys, rfl, hs, _⟩ := CP.mp rp
    cases (show u = Value.ref a from r1)
    obtain ⟨_, _, ⟨o, h1, h2, _⟩, _⟩ := I.tuple hs
    exact PySem.W.kia_one PySem.W.kitx_tuple I.kIn ⟨o, h1, h2⟩ hk (fun z => nomatch z) fin
  | lst ds =>
    obtain ⟨a, ys, rfl, hs, _⟩ := Gj rp
    cases (show u = Value.ref a from r1)
    obtain ⟨_, _, ⟨o, n, h1, h2, _⟩, _⟩ := I.list hs
    exact PySem.W.kia_one PySem.W.kitx_list I.kIn ⟨o, h1, h2⟩ hk (fun z => nomatch z) fin
def AfA (T : String) (ta : DTE) : DTE := fun ρ Q => ta ρ fun d => noFn d = true ∧ Q (.bl (isT T d))
theorem Vg {T : String} {Ts : Str} {p p2 : Pos} (hm : X.mg "isinstance" = none) (hmT : X.mg Ts = none) (hT : Tc T) (ha : DE X a ta) (hg : Gl X "isinstance" := by rfl) (hgT : Gl X Ts := by rfl) (hv : bootBuiltins "isinstance" = some (.builtin "isinstance") := by rfl)
    (hvT : bootBuiltins Ts = some (.type T) := by rfl) (hn : Ts ≠ "__name__" := by decide) (hd : (Ts == ("__debug__" : Str)) = false := by decide)
    (hs1 : starEach [a, .Name Ts p2] X.env = (false, eval a X.env) :: starEach [.Name Ts p2] X.env := by rfl) (hs2 : starEach [.Name Ts p2] X.env = (false, eval (.Name Ts p2) X.env) :: starEach [] X.env := by rfl)
    (hpl : (backTo pos (starEach [.Name Ts p2] X.env)).any (·.1) = false := by rfl) : DE X (.Call (.Name "isinstance" p) [a, .Name Ts p2] [] pos) (AfA T ta) where
  mono := fun hq h => ha.mono (fun _ h => ⟨h.1, hq _ h.2⟩) h
  pe := (Sw (YQ hT) hg hm hv (KZ ha.pe (KZ (Abl (v := .ty T) hgT hmT hvT rfl hn hd) Vq hs2) hs1) (he := hs1) (hpl := hpl)).imp fun σ H Q ⟨B, F, O, ρ, R, h⟩ =>
    ⟨B, F, O, ρ, R, ha.mono (fun d h v H1 s1 r1 => ⟨d, v, rfl, r1.mono Bs, h.1, h.2 _ H1 s1 (Dz.mpr rfl)⟩) h⟩
abbrev DTO := Cd → (Option Int → Prop) → Prop
def lO (K : PySem.W.Frag) (t : DTO) : TO := fun σ H Q => ∃ B F O ρ, Rep K B F O H σ ρ ∧ t ρ fun o => ∀ H', Same H H' → Q o H'
structure DO (X : Cx) (e : Option Expr) (t : DTO) : Prop where
  mono : ∀ {ρ Q Q'}, (∀ d, Q d → Q' d) → t ρ Q → t ρ Q'
  po : PO X e (lO X.K t)
def AbH : DTO := fun _ Q => Q none
def Ac7 (te : DTE) : DTO := fun ρ Q => te ρ fun d => match d with
  | .int i => Q (some i)
  | _ => False
theorem PO.imp {e : Option Expr} {t t' : TO} (h : PO X e t) (i : ∀ σ H Q, t' σ H Q → t σ H Q) : PO X e t' := fun pins s σ H Q I q => h pins s σ H Q I (i _ _ _ q)
theorem Wo (h : DE X e te) : DO X (some e) (Ac7 te) where
  mono := fun hq z => h.mono (fun d z => by
    split at z
    · exact hq _ z
    · exact z.elim) z
  po := (AaF h.pe).imp fun σ H Q ⟨B, F, O, ρ, R, z⟩ => ⟨B, F, O, ρ, R, h.mono (fun d z v H1 s1 r1 => by
    split at z
    · exact ⟨_, Bm.mp r1, z H1 s1⟩
    · exact z.elim) z⟩
def cutD (xs : List Dt) (lo hi : Option Int) : List Dt := (xs.drop (HT.sIx xs.length 0 lo)).take (HT.sIx xs.length xs.length hi - HT.sIx xs.length 0 lo)
theorem RpL.cut {K : PySem.W.Frag} {H : Hp} {ds : List Dt} {xs : List V} {lo hi : Option Int} (h : RpL K H ds xs) : RpL K H (cutD ds lo hi) (Xg xs lo hi) := by
  unfold cutD Xg
  rw [h.len]
  exact (h.drop _).take _
def ZL (te : DTE) (tl th : DTO) : DTE := fun ρ Q => te ρ fun d => tl ρ fun lo => th ρ fun hi => match d with
  | .lst ds => Q (.lst (cutD ds lo hi))
  | _ => False
theorem Zm {lo hi : Option Expr} {t1 t2 : DTO} {p2 : Pos} (he : DE X e te) (hl : DO X lo t1) (hh : DO X hi t2) : DE X (.Subscript e (.Slice lo hi none p2) pos) (ZL te t1 t2) where
  mono := fun hq z => he.mono (fun d z => hl.mono (fun l z => hh.mono (fun h z => by
    split at z
    · exact hq _ z
    · exact z.elim) z) z) z
  pe := (Zv Abb he.pe hl.po hh.po).imp fun σ H Q ⟨B, F, O, ρ, R, z⟩ => ⟨B, F, O, ρ, R, he.mono (fun d z v H1 s1 r1 => ⟨B, F, O, ρ, R.same s1, hl.mono (fun l z H2 s2 => ⟨B, F, O, ρ, (R.same s1).same s2, hh.mono (fun h z H3 s3 => by
    split at z
    · obtain ⟨a, xs, rfl, hs, hr⟩ := Gj ((r1.mono s2.mask).mono s3.mask)
      refine ⟨a, xs, rfl, Bs.seq hs, fun p hp => ?_⟩
      have R3 := ((R.same s1).same s2).same s3
      have np : p ∉ F ++ O := fun m => R3.th p m hp
      refine z (.ref p) _ (((s1.trans s2).trans s3).trans (Same.upd hp)) (Kg ⟨p, _, rfl, (J9 np), ?_⟩)
      exact hr.cut.mono (Same.upd hp).mask
    · exact z.elim) z⟩) z⟩) z⟩
end
theorem AaL : Tc "int" := fun K d h => by cases d <;> first | rfl | cases h
theorem Yz : Tc "bool" := fun K d h => by cases d <;> first | rfl | cases h
theorem Xo : Tc "tuple" := fun K d h => by cases d <;> first | rfl | cases h
end L2
namespace L2
open PySem PySem.Spec PyProof.Rows PySem.SeqAt
theorem J3 (env : Env) : ∀ (names : List (Str × NameKind)) (cs : List (Str × Addr)), (∀ y ∈ names, y.2 = .free → ∃ c, env.cells.lookup y.1 = some c) → (∀ n c, cs.lookup n = some c → env.cells.lookup n = some c) →
    ∃ cl, (forIn names cs fun (x : Str × NameKind) (r : List (Str × Addr)) => (if (x.2 == NameKind.free) = true then (do let c ← cellOf env x.1; pure (ForInStep.yield ((x.1, c) :: r))) else pure (ForInStep.yield r) : Sem (ForInStep (List (Str × Addr))))) = pure cl ∧
      (∀ n c, cl.lookup n = some c → env.cells.lookup n = some c) ∧ (∀ n, (cs.lookup n).isSome = true → (cl.lookup n).isSome = true) ∧ ∀ n, (n, NameKind.free) ∈ names → (cl.lookup n).isSome = true
  | [], cs, _, h2 => ⟨cs, rfl, h2, fun _ h => h, fun n h => (nomatch h)⟩
  | (x, k) :: names, cs, h1, h2 => by
    rw [List.forIn_cons]
    by_cases hk : k = .free
    · subst hk
      obtain ⟨c, hc⟩ := h1 (x, .free) List.mem_cons_self rfl
      have e : cellOf env x = pure c := by unfold cellOf; rw [hc]
      have h3 : ∀ n c', ((x, c) :: cs).lookup n = some c' → env.cells.lookup n = some c' := fun n c' q => by
        rw [List.lookup_cons] at q
        split at q
        · rename_i b; cases q; rw [eq_of_beq b]; exact hc
        · exact h2 n c' q
      obtain ⟨cl, g1, g2, g3, g4⟩ := J3 env names ((x, c) :: cs) (fun y hy => h1 y (List.mem_cons_of_mem _ hy)) h3
      refine ⟨cl, ?_, g2, fun n q => g3 n ?_, fun n hn => ?_⟩
      · simp only [beq_self_eq_true, if_true, e, pure_bind]
        exact g1
      · rw [List.lookup_cons]; split
        · rfl
        · exact q
      · rcases List.mem_cons.mp hn with q | q
        · cases q
          exact g3 x (by rw [List.lookup_cons]; simp)
        · exact g4 n q
    · have hb : (k == NameKind.free) = false := by simpa using hk
      obtain ⟨cl, g1, g2, g3, g4⟩ := J3 env names cs (fun y hy => h1 y (List.mem_cons_of_mem _ hy)) h2
      refine ⟨cl, ?_, g2, g3, fun n hn => ?_⟩
      · simp only [hb, Bool.false_eq_true, if_false, pure_bind]
        exact g1
      · rcases List.mem_cons.mp hn with q | q
        · cases q; exact absurd rfl hk
        · exact g4 n q
theorem O1 {env : Env} {scope : Scope} (h : ∀ y ∈ scope.names, y.2 = .free → ∃ c, env.cells.lookup y.1 = some c) :
    ∃ cl, closureFor scope env = pure cl ∧ (∀ n c, cl.lookup n = some c → env.cells.lookup n = some c) ∧ ∀ n, (n, NameKind.free) ∈ scope.names → ∃ c, cl.lookup n = some c := by
  obtain ⟨cl, g1, g2, _, g4⟩ := J3 env scope.names [] h (fun n c q => by simp at q)
  refine ⟨cl, ?_, g2, fun n q => Option.isSome_iff_exists.mp (g4 n q)⟩
  unfold closureFor
  simp only [bind_pure]
  exact g1
def Bg (X : Cx) (scope : Scope) (N : List Str) (cl : List (Str × Addr)) (C : Addr) (s₀ : Shared) (H₀ : Hp) (ex : List Addr) : Cx where
  prog := X.prog
  w := X.w
  K := X.K
  mg := X.mg
  base := X.base
  A := X.A
  N := N
  s₀ := s₀
  H₀ := H₀
  env := compEnvC scope cl C X.env
  outer := X.stack
  stack := X.stack
  ex := ex
  fn := fun _ => false
  calm := X.calm
  pn := []
  xe := fun _ _ => False
def PTs (X : Cx) (ifs : List Expr) (t : TT) : Prop :=
  ∀ (pins : List (Addr × Obj)) (s : Shared) (σ : St) (H : Hp) (Q : Bool → Hp → Prop), Inv X pins σ H s → t σ H Q →
    wpAny (model X.prog X.w) X.A (forIn ifs true fun c r => if r = true then do let ok ← isTrue c X.env (eval c X.env); pure (ForInStep.yield ok) else pure (ForInStep.yield r)) (TP X pins σ Q) X.xe s
theorem Acb {X : Cx} : PTs X [] (fun _ H Q => Q true H) := fun pins s σ H Q I h => wpAny_tests_nil ⟨H, I, h⟩
theorem Abu {X : Cx} {c : Expr} {t : TT} (h : PT X c t) : PTs X [c] t := fun pins s σ H Q I q => wpAny_tests_one (h pins s σ H Q I q)
def WM (sl : List Nat) (wi : TI) (tt : TT) (te : TE) : TE := fun σ H Q => wi σ H fun J H1 => ∃ vs : List V, sl.map (fun j => σ[j]?) = vs.map (fun v => some (some v)) ∧ ∀ D, H1 D = none →
  ∃ W : Nat → Nat → List V → Hp → Prop, (∃ m, W 0 m [] (upd H1 D (.lst []))) ∧ ∀ i m acc H, W i m acc H →
    (J.stop i H ∧ Q (.ref D) H) ∨
    (J.go i H ∧ ∀ x H', J.yld i H x H' → tt (some x :: vs.map some) H' fun b H2 =>
      if b = true then te (some x :: vs.map some) H2 fun y H3 => H3 D = some (.lst acc) ∧ acc.length < sizeLine ∧ ∃ m', m' < m ∧ W (i + 1) m' (acc ++ [y]) (upd H3 D (.lst (acc ++ [y])))
      else ∃ m', m' < m ∧ W (i + 1) m' acc H2)
theorem Gf {env : Env} : ∀ {names : List (Str × NameKind)} {x : Str}, names.lookup x = some .free → env.scope.kind = .function → env.kindOf x = some .cell →
    (names.map fun (n, k) => if (k == NameKind.free && env.scope.kind == .function && env.kindOf n == some .cell) then (n, NameKind.cell) else (n, k)).lookup x = some .cell
  | [], _, h, _, _ => by simp at h
  | (n, k) :: r, x, h, hk, he => by
    have ih := @Gf env r x
    show List.lookup x ((if (k == NameKind.free && env.scope.kind == .function && env.kindOf n == some .cell) = true then (n, NameKind.cell) else (n, k)) :: _) = _
    cases hx : x == n with
    | true =>
      simp only [List.lookup_cons, hx] at h
      cases h
      have e := eq_of_beq hx
      subst e
      simp [List.lookup_cons, hk, he]
    | false =>
      simp only [List.lookup_cons, hx] at h
      by_cases hc : (k == NameKind.free && env.scope.kind == .function && env.kindOf n == some .cell) = true
      · rw [if_pos hc]; simp only [List.lookup_cons, hx]; exact ih h hk he
      · rw [if_neg hc]; simp only [List.lookup_cons, hx]; exact ih h hk he
theorem Kh {env : Env} : ∀ {names : List (Str × NameKind)} {x : Str}, (∀ y ∈ names, y.2 ≠ .cell) →
    ((names.map fun (n, k) => if (k == NameKind.free && env.scope.kind == .function && env.kindOf n == some .cell) then (n, NameKind.cell) else (n, k)).lookup x = some .cell ∨
     (names.map fun (n, k) => if (k == NameKind.free && env.scope.kind == .function && env.kindOf n == some .cell) then (n, NameKind.cell) else (n, k)).lookup x = some .free) → (x, NameKind.free) ∈ names
  | [], _, _, h => by simp at h
  | (n, k) :: r, x, hn, h => by
    have ih := @Kh env r x fun y hy => hn y (List.mem_cons_of_mem _ hy)
    have nk : k ≠ .cell := hn (n, k) List.mem_cons_self
    rw [List.map_cons] at h
    by_cases hc : (k == NameKind.free && env.scope.kind == .function && env.kindOf n == some .cell) = true
    · simp only [hc, if_true, List.lookup_cons] at h
      have kf : k = .free := by simp at hc; exact hc.1.1
      subst kf
      cases hx : x == n with
      | true => rw [eq_of_beq hx]; exact List.mem_cons_self
      | false => simp only [hx] at h; exact List.mem_cons_of_mem _ (ih h)
    · have hc' : (k == NameKind.free && env.scope.kind == .function && env.kindOf n == some .cell) = false := by simpa using hc
      simp only [hc', Bool.false_eq_true, if_false, List.lookup_cons] at h
      cases hx : x == n with
      | true =>
        simp only [hx] at h
        have kf : k = .free := by
          rcases h with h | h
          · exact absurd (Option.some.inj h) nk
          · exact Option.some.inj h
        subst kf
        rw [eq_of_beq hx]; exact List.mem_cons_self
      | false => simp only [hx] at h; exact List.mem_cons_of_mem _ (ih h)
section
variable {X : Cx} {elt iter : Expr} {x : Str} {px : Pos} {ifs : List Expr} {scope : Scope} {pos : Pos} {N : List Str} {sl : List Nat} {wi : TI} {tt : TT} {te : TE}
structure Dp (X : Cx) (scope : Scope) (x : Str) (N : List Str) (sl : List Nat) : Prop where
  hx : scope.names.lookup x = some .local
  kind : scope.kind = .function
  cell : ∀ y ∈ scope.names, y.2 ≠ .cell
  names : ∀ y ∈ scope.names, y.2 = .local → scope.names.lookup y.1 = some .local
  free : ∀ y ∈ scope.names, y.2 = .free → X.env.kindOf y.1 = some .cell
  nd : (x :: N).Nodup
  sl : N.map some = sl.map (fun j => X.N[j]?)
  frN : ∀ n ∈ N, scope.names.lookup n = some .free
theorem Tj (S : Dp X scope x N sl) {pins : List (Addr × Obj)} {σ : St} {H : Hp} {s : Shared} {h₁ : Heap} {tk : Nat} {fp : List Addr} {cl : List (Str × Addr)} {vs : List V} {o : Obj} (I : Inv X pins σ H s)
    (hfp : ∀ b ∈ fp, Kp X pins H b) (hob : ∀ b ∈ fp, ∃ o, s.heap.get? b = some o) (hns : h₁.Ns s.heap.objs.size (fun _ => none)) (hsb : Heap.SameBut s.heap.objs.size (s.heap.push o) h₁)
    (hcl : ∀ n c, cl.lookup n = some c → X.env.cells.lookup n = some c) (hcl2 : ∀ n, (n, NameKind.free) ∈ scope.names → ∃ c, cl.lookup n = some c)
    (hvs : sl.map (fun j => σ[j]?) = vs.map (fun v => some (some v))) :
    Inv (Bg X scope (x :: N) cl s.heap.objs.size s H fp) [] (none :: vs.map some) H { s with heap := h₁, toks := tk } := by
  have hL := I.lt
  have keep : ∀ b o, s.heap.get? b = some o → h₁.get? b = some o := fun b o e => (hsb.2 b (Nat.ne_of_lt (Heap.lt_size e))).trans (Heap.get?_push_of_some _ e)
  have kf : X.env.scope.kind = .function := I.ok.kind
  refine ⟨⟨I.ok.mod, ?_, I.ok.glob, I.ok.blt, Nat.le_refl _, fun y z c h1 h2 => I.ok.inj y z c (hcl y c h1) (hcl z c h2), fun y hy => ?_, fun y c h => (by cases h), I.ok.hd, I.ok.frames, .inl rfl, fun b hb => ⟨?_, fun y c e => ?_⟩, fun b o e => I.bs b o e,
    Nat.le_trans I.ok.bsz I.sz, fun b o e hb => ?_, fun b hb hz => ?_, I.stack, I.stkFree⟩, rfl, I.bare, Un.kept keep, ⟨_, hns, fun i y v e1 e2 e3 => ?_⟩, fun y c e => ?_, I.hok.fresh (Nat.le_refl _), fun y c e => I.freeC y c (hcl y c e),
    fun p hp => absurd (show p ∈ ([] : List (Addr × Obj)) from hp) (by simp), I.hok.kept keep, ?_⟩
  · exact S.kind
  · exact hcl2 y (Kh (env := X.env) (fun z hz => S.cell z hz) hy)
  · obtain ⟨o', e⟩ := hob b hb
    exact Nat.ne_of_lt (Heap.lt_size e)
  · exact (hfp b hb).2.2.2.2.1 y c (hcl y c e)
  · rcases (hfp b hb).2.2.2.1 with z | z
    · exact I.ok.noex b o e z
    · exact absurd (Nat.lt_of_lt_of_le (Heap.lt_size e) (Nat.le_trans I.ok.bsz z)) (Nat.lt_irrefl _)
  · rcases List.mem_cons.mp (I.stkSub b hz) with q | q
    · exact (hfp b hb).2.1 q
    · exact (hfp b hb).2.2.1 q
  · cases i with
    | zero => simp at e2
    | succ j =>
      have e1' : N[j]? = some y := by simpa [Bg] using e1
      have e2' : vs[j]? = some v := by
        rw [List.getElem?_cons_succ, List.getElem?_map] at e2
        cases q : vs[j]? with
        | none => rw [q] at e2; cases e2
        | some v' => rw [q] at e2; cases e2; rfl
      have q1 := congrArg (fun l => l[j]?) S.sl
      have q2 := congrArg (fun l => l[j]?) hvs
      simp only [List.getElem?_map, e1', e2', Option.map_some] at q1 q2
      cases hk : sl[j]? with
      | none => rw [hk] at q1; cases q1
      | some k =>
        rw [hk] at q1 q2
        have n1 : X.N[k]? = some y := (Option.some.inj q1).symm
        have n2 : σ[k]? = some (some v) := Option.some.inj q2
        have hfr := S.frN y (List.mem_of_getElem? e1')
        have hm := PySem.mem_of_lookup hfr
        have hc := S.free _ hm rfl
        obtain ⟨m, hn, hl⟩ := I.loc
        obtain ⟨u, r, lk⟩ := hl k y v n1 n2 (.inr (.inl hc))
        refine ⟨u, r, .inr ⟨.inl (Gf hfr kf hc), ?_⟩⟩
        rcases lk with ⟨kl, _⟩ | ⟨_, c, ec, ⟨o', ho, hd⟩⟩
        · rw [hc] at kl; cases kl
        · obtain ⟨c', ec'⟩ := hcl2 y hm
          have := hcl y c' ec'
          rw [ec] at this; cases this
          exact ⟨c, ec', o', keep _ _ ho, hd⟩
  · obtain ⟨v, o', ho, hd⟩ := I.cell y c (hcl y c e)
    exact ⟨v, o', keep _ _ ho, hd⟩
  · have l1 := congrArg List.length S.sl
    have l2 := congrArg List.length hvs
    simp only [List.length_map] at l1 l2
    simp [Bg]; omega
theorem AbL (S : Dp X scope x N sl) (hc : X.calm = true) (hi : PI X (.Name x px) iter wi) (ht : ∀ cl C s₀ H₀ ex, PTs (Bg X scope (x :: N) cl C s₀ H₀ ex) ifs tt) (he : ∀ cl C s₀ H₀ ex, PE (Bg X scope (x :: N) cl C s₀ H₀ ex) elt te)
    (hs : ∀ x, foldedSetIterable iter X.env x = pure x := by intro _; rfl) : PE X (.ListComp elt [⟨.Name x px, iter, ifs, 0⟩] scope pos) (WM sl wi tt te) := by
  intro pins s σ H Q I h
  obtain ⟨cl, hclos, hcl, hcl2⟩ := O1 (env := X.env) (scope := scope) fun y hy hf => I.ok.has y.1 (.inl (S.free y hy hf))
  rw [eval_ListComp]
  refine wpAny_comprehension_free (use := none) rfl hs hclos S.kind S.names (thn (hi pins s σ H _ I h) fun v s1 h1 => thn h1 fun itv s2 h2 => ?_)
  obtain ⟨it, fp, tn, J, H2, e, I2, T, st2, f2, vs, hvs, hW⟩ := h2
  subst e
  refine wpAny_newObj_type (wpAny_newFunctionEnv S.cell (by intro y hy; simp at hy) (fun h₁ hns₁ hsb₁ => ?_) S.kind)
  have hD : H2 s2.heap.objs.size = none := I2.fresh
  have I3 : Inv X pins σ (upd H2 s2.heap.objs.size (.lst [])) { s2 with heap := s2.heap.push { cls := .type "list", data := .seq ([] : List Value).toArray }, toks := s2.toks } := I2.lnew (its := []) (ys := []) .nil (Nat.zero_le _)
  have hbD : ∀ b ∈ fp, b ≠ s2.heap.objs.size := fun b hb z => by
    obtain ⟨o', e', _⟩ := T.obj _ _ st2 b hb
    exact absurd (Heap.lt_size e') (by rw [z]; exact Nat.lt_irrefl _)
  have f3 : ∀ b ∈ fp, Kp X pins (upd H2 s2.heap.objs.size (.lst [])) b := fun b hb => ⟨by rw [Bc (hbD b hb)]; exact (f2 b hb).1, (f2 b hb).2⟩
  have ob3 : ∀ b ∈ fp, ∃ o, (s2.heap.push { cls := .type "list", data := .seq ([] : List Value).toArray }).get? b = some o := fun b hb => by
    obtain ⟨o', e', _⟩ := T.obj _ _ st2 b hb
    exact ⟨o', Heap.get?_push_of_some _ e'⟩
  have IC := Tj (tk := s2.toks + ([] : List (Str × Value)).length) S I3 f3 ob3 hns₁ hsb₁ hcl hcl2 hvs
  dsimp only at hsb₁ IC ⊢
  generalize hCC : (s2.heap.push { cls := .type "list", data := .seq ([] : List Value).toArray }).objs.size = C at hns₁ hsb₁ IC ⊢
  have old : ∀ b o, s2.heap.get? b = some o → h₁.get? b = some o := fun b o e => by
    have e1 : (s2.heap.push { cls := .type "list", data := .seq ([] : List Value).toArray }).get? b = some o := Heap.get?_push_of_some _ e
    exact (hsb₁.2 b (by rw [← hCC]; exact Nat.ne_of_lt (Heap.lt_size e1))).trans (Heap.get?_push_of_some _ e1)
  have st₁ : tn 0 h₁ := T.keep _ _ _ st2 fun b hb o e => old b o e
  obtain ⟨W, ⟨m0, w0⟩, turn⟩ := hW s2.heap.objs.size hD
  have fpC : ∀ {H' : Hp} {pl : List (Addr × Obj)}, (∀ b ∈ fp, H' b = none) → (∀ p ∈ pl, p.1 ∉ fp) → ∀ b ∈ fp, Kp (Bg X scope (x :: N) cl C { s2 with heap := s2.heap.push { cls := .type "list", data := .seq ([] : List Value).toArray }, toks := s2.toks } (upd H2 s2.heap.objs.size (.lst [])) fp) pl H' b := fun {H' pl} hn hp b hb => by
    refine ⟨hn b hb, (IC.ok.exf b hb).1, IC.ok.exfs b hb, .inl hb, (IC.ok.exf b hb).2, fun p hq z => ?_⟩
    have hq' : p ∈ pl := by simpa [Bg] using hq
    exact hp p hq' (by rw [z]; exact hb)
  have done : ∀ {σ' : St} {H' : Hp} {s' : Shared}, Inv (Bg X scope (x :: N) cl C { s2 with heap := s2.heap.push { cls := .type "list", data := .seq ([] : List Value).toArray }, toks := s2.toks } (upd H2 s2.heap.objs.size (.lst [])) fp) [] σ' H' s' → Q (.ref s2.heap.objs.size) H' →
      ∃ m, s'.heap.Ns C m ∧ ∀ h', Heap.SameBut C s'.heap h' → EP X pins σ Q (.ref s2.heap.objs.size) { s' with heap := h' } := fun {σ' H' s'} J q => by
    obtain ⟨m, hn, _⟩ := id J.loc
    refine ⟨m, hn, fun h' hs' => ⟨.ref s2.heap.objs.size, H', ?_, rfl, q⟩⟩
    have u : Un (frs X.stack) fp H2 H' s2.heap s'.heap := (Un.laid (fun b u e => Heap.get?_push_of_some _ e) (Nat.le_refl _) hD).trans J.base
    have nC : ∀ b o, s2.heap.get? b = some o → b ≠ C := fun b o e => by
      have e1 : (s2.heap.push { cls := .type "list", data := .seq ([] : List Value).toArray }).get? b = some o := Heap.get?_push_of_some _ e
      rw [← hCC]; exact Nat.ne_of_lt (Heap.lt_size e1)
    have u' : Un (frs X.stack) fp H2 H' s2.heap h' :=
      ⟨fun b o e n hb hx => (hs'.2 b (nC b o e)).trans (u.keep b o e n hb hx), fun b o e n hb hx => let ⟨sl, q⟩ := u.slot b o e n hb hx; ⟨sl, (hs'.2 b (nC b o e)).trans q⟩, u.free, fun b o e hx => let ⟨o', q⟩ := u.there b o e hx; ⟨o', (hs'.2 b (nC b o e)).trans q⟩, u.tups, u.frzs, u.tbls⟩
    have hok : HOk X.prog X.w H' h' := fun b ob e => (J.hok b ob e).stay (fun c w' hc q => (hs'.2 c (by
      rintro rfl
      have hf : H' c = none := J.free
      rcases hc with rfl | hc
      · rw [hf] at e; cases e
      · rw [hf] at hc; cases hc)).trans q) (fun _ q => q) fun _ _ q => q
    have hos : s'.os = s2.os := J.os
    exact I2.call' (s' := { s' with heap := h' }) (ch := fp) hos u' hok J.bare fun b hb => ⟨(f2 b hb).2.2.2.1, (f2 b hb).2.1, (f2 b hb).2.2.2.2.1, (f2 b hb).2.2.2.2.2⟩
  have loop : codeAny (model X.prog X.w) X.A (.compLoop (.ListComp elt [⟨.Name x px, iter, ifs, 0⟩] scope pos) 0 (.ref it) (.ref s2.heap.objs.size) (compEnvC scope cl C X.env)) (compPost (model X.prog X.w) X.A X.xe none (EP X pins σ Q) (.ref s2.heap.objs.size) C)
      { s2 with heap := h₁, toks := s2.toks + ([] : List (Str × Value)).length } := by
    refine codeAny_compLoop_tests (fun n s' => ∃ i acc σ' H', Inv (Bg X scope (x :: N) cl C { s2 with heap := s2.heap.push { cls := .type "list", data := .seq ([] : List Value).toArray }, toks := s2.toks } (upd H2 s2.heap.objs.size (.lst [])) fp) [] σ' H' s' ∧ (∃ y, σ' = y :: vs.map some) ∧
      tn i s'.heap ∧ (∀ b ∈ fp, H' b = none) ∧ W i n acc H') ?_ m0 ⟨0, [], _, _, IC, ⟨none, rfl⟩, st₁, fun b hb => (f3 b hb).1, w0⟩
    rintro n s3 ⟨i, acc, σ3, H3, I4, ⟨y, rfl⟩, st3, fr3, w3⟩
    rcases turn i n acc H3 w3 with ⟨stop, qn⟩ | ⟨go, step⟩
    · refine wpAny_mono (T.done (Bg X scope (x :: N) cl C { s2 with heap := s2.heap.push { cls := .type "list", data := .seq ([] : List Value).toArray }, toks := s2.toks } (upd H2 s2.heap.objs.size (.lst [])) fp) rfl rfl rfl hc i [] s3 _ H3 (fun _ _ => False) I4 (fpC fr3 (by simp)) st3 stop) (fun r s4 ⟨hr, I5⟩ => ?_) fun _ _ z => False.elim z
      subst hr
      exact done I5 qn
    · refine wpAny_mono (T.item (Bg X scope (x :: N) cl C { s2 with heap := s2.heap.push { cls := .type "list", data := .seq ([] : List Value).toArray }, toks := s2.toks } (upd H2 s2.heap.objs.size (.lst [])) fp) rfl rfl rfl hc i [] s3 _ H3 (fun _ _ => False) I4 (fpC fr3 (by simp)) st3 go) (fun r s4 ⟨u, hr, h4⟩ => ?_) fun _ _ z => False.elim z
      subst hr
      have e0 : ∀ (k : Unit → Sem Unit), (letOwnedTupleGo (.Name x px) (.ref it) u >>= k) = k () := fun k => rfl
      have hg : PG (Bg X scope (x :: N) cl C { s2 with heap := s2.heap.push { cls := .type "list", data := .seq ([] : List Value).toArray }, toks := s2.toks } (upd H2 s2.heap.objs.size (.lst [])) fp) (.Name x px) (Wb 0) := Rf S.nd rfl (.inl (lookup_relabel_local S.hx)) (.inr (lookup_relabel_local S.hx))
      show wpAny (model X.prog X.w) X.A (assign (.Name x px) (compEnvC scope cl C X.env) u) _ _ s4
      rw [← e0 fun _ => assign (.Name x px) (compEnvC scope cl C X.env) u]
      refine wpAny_bind (wpAny_mono h4 (fun _ s5 ⟨z, H5, I5, r5, y5, st5, fr5⟩ => ?_) fun _ _ z => False.elim z)
      have I5' := I5.pinned (fpC fr5 (by simp)) (T.obj _ _ st5)
      have W5 := hg _ s5 _ H5 z u (fun σ' H' => σ' = some z :: vs.map some ∧ H' = H5) I5' r5 ⟨rfl, rfl⟩
      refine wpAny_mono W5 (fun _ s6 ⟨σ6, H6, I6, e6, e7⟩ => ?_) fun _ _ z => False.elim z
      subst e6 e7
      refine wpAny_mono (ht _ _ _ _ _ _ s6 _ H6 _ I6 (step z H6 y5)) (fun b s7 ⟨H7, I7, q7⟩ => ?_) fun _ _ z => False.elim z
      have again : ∀ {H8 : Hp} {s8 : Shared} {acc' : List V}, Inv (Bg X scope (x :: N) cl C { s2 with heap := s2.heap.push { cls := .type "list", data := .seq ([] : List Value).toArray }, toks := s2.toks } (upd H2 s2.heap.objs.size (.lst [])) fp) ([] ++ Ly fp s5.heap) (some z :: vs.map some) H8 s8 → (∃ m', m' < n ∧ W (i + 1) m' acc' H8) → ∃ m, m < n ∧ ∃ i acc σ' H', Inv (Bg X scope (x :: N) cl C { s2 with heap := s2.heap.push { cls := .type "list", data := .seq ([] : List Value).toArray }, toks := s2.toks } (upd H2 s2.heap.objs.size (.lst [])) fp) [] σ' H' s8 ∧ (∃ y, σ' = y :: vs.map some) ∧ tn i s8.heap ∧ (∀ b ∈ fp, H' b = none) ∧ W i m acc H' := fun {H8 s8 acc'} I8 ⟨m', hm, w8⟩ => by
        refine ⟨m', hm, i + 1, acc', _, H8, I8.unpinned, ⟨_, rfl⟩, T.keep _ _ _ st5 fun b hb o e => (I8.pin (b, o) (List.mem_append_right _ (List.mem_append_right _ (Fq hb e)))).1, fun b hb => ?_, w8⟩
        obtain ⟨o, e, d⟩ := T.obj _ _ st5 b hb
        exact (I8.pin (b, o) (List.mem_append_right _ (List.mem_append_right _ (Fq hb e)))).2.1
      cases b with
      | false => exact again I7 q7
      | true =>
        rw [if_pos rfl]
        refine wpAny_mono (he _ _ _ _ _ _ s7 _ H7 _ I7 q7) (fun v8 s8 ⟨x8, H8, I8, r8, hD8, hz8, q8⟩ => ?_) fun _ _ z => False.elim z
        refine wpAny_mono (Ld (X := (Bg X scope (x :: N) cl C { s2 with heap := s2.heap.push { cls := .type "list", data := .seq ([] : List Value).toArray }, toks := s2.toks } (upd H2 s2.heap.objs.size (.lst [])) fp)) _ s8 _ H8 (.ref s2.heap.objs.size) [x8] (.ref s2.heap.objs.size) [v8] (fun _ H9 => H9 = upd H8 s2.heap.objs.size (.lst (acc ++ [x8]))) I8 rfl (.cons r8 .nil) ⟨_, acc, x8, rfl, rfl, hD8, hz8, rfl⟩) (fun _ s9 ⟨_, H9, I9, _, e9⟩ => ?_) fun _ _ z => False.elim z
        subst e9
        exact again I9 q8
  exact codeAny_compStart_list loop (T.self _ 0 _ _ _ st₁ loop)
def inner (sl : List Nat) (ρ : Cd) (d : Dt) : Cd := some (.is d) :: sl.map fun j => (ρ[j]?).join
structure DTs (X : Cx) (ifs : List Expr) (t : DTT) : Prop where
  mono : ∀ {ρ Q Q'}, (∀ d, Q d → Q' d) → t ρ Q → t ρ Q'
  pts : PTs X ifs (lT X.K t)
def Kf : DTT := fun _ Q => Q true
theorem Rn : DTs X [] Kf := ⟨fun hq h => hq _ h, fun pins s σ H Q I ⟨B, F, O, ρ, R, h⟩ => Acb pins s σ H Q I (h H (Same.refl H))⟩
theorem Abj {c : Expr} {t : DTT} (h : DT X c t) : DTs X [c] t := ⟨h.mono, Abu h.pt⟩
def caught (sl : List Nat) (ρ : Cd) : Prop := ∀ j ∈ sl, ∃ d, ρ[j]? = some (some (.is d))
def Jr (sl : List Nat) (ti : DTI) (tt : DTT) (te : DTE) : DTE := fun ρ Q => ti ρ fun items => items.length ≤ sizeLine ∧ caught sl ρ ∧
  ∃ W : Nat → List Dt → Prop, W 0 [] ∧ (∀ (k : Nat) d acc, items[k]? = some d → W k acc → tt (inner sl ρ d) fun b => if b = true then te (inner sl ρ d) fun e => W (k + 1) (acc ++ [e]) else W (k + 1) acc) ∧
    ∀ acc, acc.length ≤ items.length → W items.length acc → Q (.lst acc)
theorem Iu {K : PySem.W.Frag} {B : Hp} {F O : List Addr} {H : Hp} {σ : St} {ρ : Cd} (R : Rep K B F O H σ ρ) : ∀ {sl : List Nat}, caught sl ρ → ∃ vs ds, sl.map (fun j => σ[j]?) = vs.map (fun v => some (some v)) ∧ sl.map (fun j => (ρ[j]?).join) = ds.map (fun d => some (En.is d)) ∧ RpL K (mask (F ++ O) H) ds vs
  | [], _ => ⟨[], [], rfl, rfl, RpL.nil⟩
  | j :: sl, h => by
    obtain ⟨d, e⟩ := h j List.mem_cons_self
    obtain ⟨v, e1, e2⟩ := R.is j d e
    obtain ⟨vs, ds, h1, h2, h3⟩ := Iu R (sl := sl) fun k hk => h k (List.mem_cons_of_mem _ hk)
    exact ⟨v :: vs, d :: ds, by simp [e1, h1], by simp [e, h2], RpL.cons e2 h3⟩
theorem QM {K : PySem.W.Frag} {F : List Addr} {H : Hp} {d : Dt} {v : V} {ds : List Dt} {vs : List V} (th : ∀ a ∈ F, H a ≠ none) (r : Rp K (mask F H) d v) (rs : RpL K (mask F H) ds vs) :
    Rep K (fun _ => none) F [] H (some v :: vs.map some) (some (.is d) :: ds.map fun d => some (En.is d)) := by
  have e : mask (F ++ []) H = mask F H := by rw [List.append_nil]
  have noown : ∀ (i : Nat) es, (some (En.is d) :: ds.map fun d => some (En.is d))[i]? = some (some (.own es)) → False := fun i es q => by
    cases i with
    | zero => cases q
    | succ j =>
      rw [List.getElem?_cons_succ, List.getElem?_map] at q
      cases z : ds[j]? with
      | none => rw [z] at q; cases q
      | some y => rw [z] at q; cases q
  refine ⟨by simp [rs.len], fun a o q => (nomatch q), fun a h => (nomatch h), fun a h => th a (by simpa using h), fun i y q => ?_, fun i es q => (noown i es q).elim, fun i j es es' a h1 => (noown i es h1).elim⟩
  rw [e]
  cases i with
  | zero => cases q; exact ⟨v, rfl, r⟩
  | succ j =>
    rw [List.getElem?_cons_succ, List.getElem?_map] at q
    cases z : ds[j]? with
    | none => rw [z] at q; cases q
    | some y' =>
      rw [z] at q; cases q
      obtain ⟨u, h1, h2⟩ := rs.get z
      exact ⟨u, by rw [List.getElem?_cons_succ, List.getElem?_map, h1]; rfl, h2⟩
theorem Uc {K : PySem.W.Frag} {sl : List Nat} {ti : DTI} {dt : DTT} {de : DTE} (mi : ∀ {ρ Q Q'}, (∀ d, Q d → Q' d) → ti ρ Q → ti ρ Q') (mt : ∀ {ρ Q Q'}, (∀ d, Q d → Q' d) → dt ρ Q → dt ρ Q') (me : ∀ {ρ Q Q'}, (∀ d, Q d → Q' d) → de ρ Q → de ρ Q')
    (σ : St) (H : Hp) (Q : VK) (h : lE K (Jr sl ti dt de) σ H Q) : WM sl (lI K ti) (lT K dt) (lE K de) σ H Q := by
  obtain ⟨B, F, O, ρ, R, h⟩ := h
  refine ⟨B, F, O, ρ, R, mi (fun items ⟨h1, h2, W, w0, st, fin⟩ J H1 s1 it => ?_) h⟩
  have R1 := R.same s1
  obtain ⟨vs, ds, ev, ed, rs⟩ := Iu R1 h2
  refine ⟨vs, ev, fun D hD => ?_⟩
  have nD : D ∉ F ++ O := fun z => R1.th D z hD
  have sM : Same (mask (F ++ O) H1) (mask (F ++ O) (upd H1 D (.lst []))) := (Same.upd hD).mask
  refine ⟨fun i m acc H2 => m + i = items.length ∧ H2 D = some (.lst acc) ∧ acc.length ≤ i ∧ Same H1 H2 ∧ ∃ as, RpL K (mask (D :: (F ++ O)) H2) as acc ∧ W i as, ⟨items.length, by omega, BJ, Nat.le_refl _, Same.upd hD, [], RpL.nil, w0⟩, ?_⟩
  rintro i m acc H2 ⟨hm, e2, hl, s2, as, ra, w⟩
  have sb : Same (mask (F ++ O) H1) H2 := fun a o e => s2 a o (Cp e).2
  have sD : Same (mask (F ++ O) H1) (mask (D :: (F ++ O)) H2) := fun a o e => by
    obtain ⟨q, e⟩ := Cp e
    rw [Az fun z => by
      rcases List.mem_cons.mp z with z | z
      · rw [z, hD] at e; cases e
      · exact q z]
    exact s2 a o e
  obtain ⟨go, stop⟩ := it H2 sb
  by_cases hlt : i < items.length
  · refine .inr ⟨(go i items[i] (by simp [hlt])).1, fun z H3 y => ?_⟩
    obtain ⟨e, r⟩ := (go i items[i] (by simp [hlt])).2 z H3 y
    subst e
    have th : ∀ a ∈ D :: (F ++ O), H3 a ≠ none := fun a ha q => by
      rcases List.mem_cons.mp ha with z | z
      · rw [z, e2] at q; cases q
      · have := R1.th a z
        cases q' : H1 a with
        | none => exact this q'
        | some o => rw [s2 a o q'] at q; cases q
    have R3 := QM th (r.mono sD) (rs.mono sD)
    have ei : some (En.is items[i]) :: ds.map (fun d => some (En.is d)) = inner sl ρ items[i] := by unfold inner; rw [ed]
    rw [ei] at R3
    refine ⟨_, _, _, _, R3, mt (fun b q H4 s4 => ?_) (st i _ as (by simp [hlt]) w)⟩
    cases b with
    | false =>
      refine ⟨m - 1, by omega, by omega, s4 _ _ e2, by omega, s2.trans s4, as, ra.mono s4.mask, q⟩
    | true =>
      refine ⟨_, _, _, _, R3.same s4, me (fun e q v5 H5 s5 r5 => ?_) q⟩
      have e5 : H5 D = some (.lst acc) := s5 _ _ (s4 _ _ e2)
      have hz : acc.length < sizeLine := by omega
      have s6 : Same (mask (D :: (F ++ O)) H5) (mask (D :: (F ++ O)) (upd H5 D (.lst (acc ++ [v5])))) := fun a o q => by
        obtain ⟨n, q⟩ := Cp q
        rw [Az n, Bc fun z => n (by rw [z]; exact List.mem_cons_self)]; exact q
      have em : mask (D :: (F ++ O) ++ []) H5 = mask (D :: (F ++ O)) H5 := by rw [List.append_nil]
      rw [em] at r5
      refine ⟨e5, hz, m - 1, by omega, by omega, BJ, by simp; omega, fun a o q => ?_, as ++ [e], (((ra.mono s4.mask).mono s5.mask).append (RpL.cons r5 RpL.nil)).mono s6, q⟩
      rw [Bc (Bu q hD)]
      exact s5 _ _ (s4 _ _ (s2 a o q))
  · have e : i = items.length := by omega
    subst e
    refine .inl ⟨stop, fin as (by rw [← ra.len]; exact hl) w (.ref D) H2 (s1.trans s2) (Kg ⟨D, acc, rfl, (by rw [Az nD]; exact e2), ra.mono (Gs fun a h => List.mem_cons_of_mem _ h)⟩)⟩
theorem S9 {ti : DTI} {dt : DTT} {de : DTE} (S : Dp X scope x N sl) (hc : X.calm = true) (hi : DI X (.Name x px) iter ti) (ht : ∀ cl C s₀ H₀ ex, DTs (Bg X scope (x :: N) cl C s₀ H₀ ex) ifs dt) (he : ∀ cl C s₀ H₀ ex, DE (Bg X scope (x :: N) cl C s₀ H₀ ex) elt de)
    (hs : ∀ x, foldedSetIterable iter X.env x = pure x := by intro _; rfl) : DE X (.ListComp elt [⟨.Name x px, iter, ifs, 0⟩] scope pos) (Jr sl ti dt de) := by
  have mt : ∀ {ρ Q Q'}, (∀ d, Q d → Q' d) → dt ρ Q → dt ρ Q' := (ht [] 0 X.s₀ X.H₀ []).mono
  have me : ∀ {ρ Q Q'}, (∀ d, Q d → Q' d) → de ρ Q → de ρ Q' := (he [] 0 X.s₀ X.H₀ []).mono
  refine ⟨fun hq h => hi.mono (fun items ⟨h1, h2, W, w0, st, fin⟩ => ⟨h1, h2, W, w0, st, fun acc l w => hq _ (fin acc l w)⟩) h, ?_⟩
  refine (AbL (tt := lT X.K dt) (te := lE X.K de) S hc hi.pi (fun cl C s₀ H₀ ex => (ht cl C s₀ H₀ ex).pts) (fun cl C s₀ H₀ ex => (he cl C s₀ H₀ ex).pe) hs).imp (Uc (ti := ti) (dt := dt) (de := de) hi.mono mt me)
theorem VG {ti : DTI} {de : DTE} (S : Dp X scope x N sl) (hc : X.calm = true) (hi : DI X (.Name x px) iter ti) (he : ∀ cl C s₀ H₀ ex, DE (Bg X scope (x :: N) cl C s₀ H₀ ex) elt de)
    (hs : ∀ x, foldedSetIterable iter X.env x = pure x := by intro _; rfl) : DE X (.ListComp elt [⟨.Name x px, iter, [], 0⟩] scope pos) (Jr sl ti Kf de) := S9 S hc hi (fun _ _ _ _ _ => Rn) he hs
theorem YL {c : Expr} {ti : DTI} {dt : DTT} {de : DTE} (S : Dp X scope x N sl) (hc : X.calm = true) (hi : DI X (.Name x px) iter ti) (ht : ∀ cl C s₀ H₀ ex, DT (Bg X scope (x :: N) cl C s₀ H₀ ex) c dt) (he : ∀ cl C s₀ H₀ ex, DE (Bg X scope (x :: N) cl C s₀ H₀ ex) elt de)
    (hs : ∀ x, foldedSetIterable iter X.env x = pure x := by intro _; rfl) : DE X (.ListComp elt [⟨.Name x px, iter, [c], 0⟩] scope pos) (Jr sl ti dt de) := S9 S hc hi (fun _ _ _ _ _ => Abj (ht _ _ _ _ _)) he hs
end
end L2
namespace L2
open PySem PySem.Spec PyProof.Rows PySem.SeqAt
def Adj (sc scope : Scope) (NN : List Str) (x : Str) (N : List Str) (sl : List Nat) : Bool :=
  decide (scope.names.lookup x = some .local) && decide (scope.kind = .function) && scope.names.all (fun y => decide (y.2 ≠ .cell)) && scope.names.all (fun y => decide (y.2 = .local → scope.names.lookup y.1 = some .local)) &&
    scope.names.all (fun y => decide (y.2 = .free → sc.names.lookup y.1 = some .cell)) && decide (x :: N).Nodup && decide (N.map some = sl.map (fun j => NN[j]?)) && N.all (fun n => decide (scope.names.lookup n = some .free))
theorem Hs {X : Cx} {sc scope : Scope} {NN : List Str} {x : Str} {N : List Str} {sl : List Nat} (h1 : X.env.scope = sc) (h2 : X.N = NN) (h : Adj sc scope NN x N sl = true) : Dp X scope x N sl := by
  subst h1 h2
  unfold Adj at h
  simp only [Bool.and_eq_true, decide_eq_true_eq, List.all_eq_true] at h
  obtain ⟨⟨⟨⟨⟨⟨⟨a, b⟩, c⟩, d⟩, e⟩, f⟩, g⟩, i⟩ := h
  exact ⟨a, b, c, d, e, f, g, i⟩
def Bt (n : Nat) (x : Int) : Prop := x.natAbs < 2 ^ n
theorem Bt.le {n m : Nat} {x : Int} (h : Bt n x) (l : n ≤ m) : Bt m x := Nat.lt_of_lt_of_le h (Nat.pow_le_pow_right (by decide) l)
theorem Bt.mul {n m : Nat} {x y : Int} (a : Bt n x) (b : Bt m y) : Bt (n + m) (x * y) := by
  unfold Bt at *
  rw [Int.natAbs_mul, Nat.pow_add]
  exact Nat.mul_lt_mul'' a b
theorem Bt.add {n m : Nat} {x y : Int} (a : Bt n x) (b : Bt m y) : Bt (max n m + 1) (x + y) := by
  have a' := a.le (Nat.le_max_left n m)
  have b' := b.le (Nat.le_max_right n m)
  unfold Bt at *
  rw [Nat.pow_succ]
  have := Int.natAbs_add_le x y
  omega
theorem Bt.neg {n : Nat} {x : Int} (a : Bt n x) : Bt n (-x) := by unfold Bt at *; rw [Int.natAbs_neg]; exact a
theorem Bt.sub {n m : Nat} {x y : Int} (a : Bt n x) (b : Bt m y) : Bt (max n m + 1) (x - y) := by rw [Int.sub_eq_add_neg]; exact a.add b.neg
theorem Bt.of_abs {n : Nat} {x : Int} (h : x.natAbs < 2 ^ n) : Bt n x := h
theorem Bt.of {n : Nat} {x : Int} (h1 : -(2 ^ n) < x) (h2 : x < 2 ^ n) : Bt n x := by
  unfold Bt
  have : ((x.natAbs : Nat) : Int) < ((2 ^ n : Nat) : Int) := by push_cast; omega
  omega
theorem Bt.mulOk {n m : Nat} {x y : Int} (a : Bt n x) (b : Bt m y) (hn : n ≤ 1048576 := by decide) (hm : m ≤ 1048576 := by decide) : IntMulOk x y :=
  IntMulOk.of_bits (intBits_le_iff.mpr (a.le hn)) (intBits_le_iff.mpr (b.le hm))
theorem Bt.divOk {n : Nat} {x y : Int} (a : Bt n y) (h : y ≠ 0) (hn : n ≤ 9000 := by decide) : CDv x y := ⟨h, a.le hn⟩
theorem Bt.zero : Bt 0 0 := by unfold Bt; decide
theorem Bt.one : Bt 1 1 := by unfold Bt; decide
end L2
namespace L2
open PySem PySem.Spec PyProof.Rows PySem.SeqAt
section
variable {a b c d e f : Dt} {r s : List Dt} {i j : Int} {k l : Bool} {n : Nat} {x y : Str}
theorem AkR : ixD 0 (.tup (a :: r)) = some a := rfl
theorem Ak2 : ixD 1 (.tup (a :: b :: r)) = some b := rfl
theorem Akj : ixD 2 (.tup (a :: b :: c :: r)) = some c := rfl
theorem Aj8 : ixD 3 (.tup (a :: b :: c :: d :: r)) = some d := rfl
theorem Ai7 : ixD 0 (.lst (a :: r)) = some a := rfl
theorem Ak3 : ixD 1 (.lst (a :: b :: r)) = some b := rfl
theorem Akt : ixD 2 (.lst (a :: b :: c :: r)) = some c := rfl
theorem AiX : ixD 3 (.lst (a :: b :: c :: d :: r)) = some d := rfl
theorem Ti : Dt.eq (.int i) (.int j) = decide (i = j) := by rw [Dt.eq]
theorem Afc : Dt.eq (.bl k) (.bl l) = (k == l) := by rw [Dt.eq]
theorem Ue : Dt.eq (.str x) (.str y) = (x == y) := by rw [Dt.eq]
theorem Agm : Dt.eq .non .non = true := by rw [Dt.eq]
theorem AfV : Dt.eq .non (.int i) = false := by simp [Dt.eq]
theorem Ahs : Dt.eq .non (.tup r) = false := by simp [Dt.eq]
theorem Ahm : Dt.eq (.tup r) .non = false := by simp [Dt.eq]
theorem ZK : Dt.eq (.tup r) (.tup s) = Dt.eqs r s := by rw [Dt.eq]
theorem AhW : Dt.eq (.lst r) (.lst s) = Dt.eqs r s := by rw [Dt.eq]
theorem Zc : Dt.eqs [] [] = true := by rw [Dt.eqs]
theorem Z1 : Dt.eqs (a :: r) (b :: s) = (Dt.eq a b && Dt.eqs r s) := by rw [Dt.eqs]
theorem AdT : Dt.eqs [] (b :: s) = false := by simp [Dt.eqs]
theorem Ae3 : Dt.eqs (b :: s) [] = false := by simp [Dt.eqs]
theorem NZ : Dt.flat n (.int i) = true := by cases n <;> rw [Dt.flat] <;> simp
theorem Ad0 : Dt.flat n (.bl k) = true := by cases n <;> rw [Dt.flat] <;> simp
theorem Adp : Dt.flat n .non = true := by cases n <;> rw [Dt.flat] <;> simp
theorem U3 : Dt.flat (n + 1) (.tup r) = Dt.flats n r := by rw [Dt.flat]
theorem Zz : Dt.flat (n + 1) (.lst r) = Dt.flats n r := by rw [Dt.flat]
theorem V8 : Dt.flat 8 (.tup r) = Dt.flats 7 r := U3
theorem Abs : Dt.flat 8 (.lst r) = Dt.flats 7 r := Zz
theorem Abt : Dt.flat 7 (.tup r) = Dt.flats 6 r := U3
theorem Aa1 : Dt.flat 7 (.lst r) = Dt.flats 6 r := Zz
theorem AaN : Dt.flat 6 (.tup r) = Dt.flats 5 r := U3
theorem Wc : Dt.flats n [] = true := by rw [Dt.flats]
theorem Wk : Dt.flats n (a :: r) = (Dt.flat n a && Dt.flats n r) := by rw [Dt.flats]
theorem Nm {N : Str} {M : List Str} : Fj (N :: M) (a :: r) = some (.is a) :: Fj M r := by
  unfold Fj
  simp only [List.map_cons, List.length_cons, List.cons_append, Nat.add_sub_add_right]
theorem Oa {N : Str} {M : List Str} : Fj (N :: M) [] = none :: Fj M [] := by
  unfold Fj
  simp [List.replicate_succ]
theorem Nx : Fj [] [] = [] := rfl
theorem Av (h : n ≤ 1000) : n ≤ sizeLine := Nat.le_of_lt (W6 h)
theorem Aem : isT "tuple" (.tup r) = true := rfl
theorem Aes : isT "list" (.lst r) = true := rfl
theorem Adv : isT "int" (.int i) = true := rfl
theorem AeS : isT "bool" (.int i) = false := rfl
theorem AdR : isT "int" (.bl k) = true := rfl
theorem Aev : isT "bool" (.bl k) = true := rfl
theorem AdX : isT "tuple" .non = false := rfl
theorem Ad2 : isT "int" .non = false := rfl
theorem AdZ : isT "int" (.tup r) = false := rfl
theorem AeN : isT "bool" (.tup r) = false := rfl
theorem AiR : noFn (.int i) = true := rfl
theorem AkF : noFn (.bl k) = true := rfl
theorem Aji : noFn .non = true := rfl
theorem Ajw : noFn (.tup r) = true := rfl
theorem AiQ : noFn (.lst r) = true := rfl
theorem Ai8 : noFn (.str x) = true := rfl
theorem AfL : isB true (.bl k) = k := by cases k <;> rfl
theorem AgD : isB false (.bl k) = !k := by cases k <;> rfl
theorem AfN : isB k (.int i) = false := rfl
theorem Aht : isB k .non = false := rfl
theorem Adl : isB k (.tup r) = false := rfl
theorem Afi : isB k (.lst r) = false := rfl
theorem AgN : isN .non = true := rfl
theorem Ahd : isN (.int i) = false := rfl
theorem Ahb : isN (.bl k) = false := rfl
theorem Ahe : isN (.tup r) = false := rfl
theorem Af8 : isN (.lst r) = false := rfl
end
end L2
namespace L2
open PySem PySem.Spec PyProof.Rows PySem.SeqAt
theorem ifn {c : Bool} {A B : Prop} (h : c = true) (b : B) : if (!c) = true then A else B := by subst h; exact b
theorem ift {c : Bool} {A B : Prop} (h : c = true) (a : A) : if c = true then A else B := by subst h; exact a
theorem FP {c : Bool} {A B : Prop} (h : c = false) (b : B) : if c = true then A else B := by subst h; exact b
theorem Aj {τ : Type} {args : τ → List Dt} {pre : τ → Prop} {val : τ → Dt} {Q : Dt → Prop} (p : τ) (h : pre p) (k : Q (val p)) : BX args pre val (args p) Q := ⟨p, rfl, h, fun d e => by rw [e]; exact k⟩
theorem Ba {τ : Type} {args : τ → List Dt} {pre : τ → Prop} {post : τ → Dt → Prop} {Q : Dt → Prop} (p : τ) (h : pre p) (k : ∀ d, post p d → Q d) : spec args pre post (args p) Q := ⟨p, rfl, h, k⟩
theorem Mq {sl : List Nat} {tt : DTT} {te : DTE} {ρ : Cd} {Q : Dt → Prop} {items : List Dt} (p : Dt → Bool) (f : Dt → Dt) (ht : ∀ d ∈ items, ∀ R : Bool → Prop, R (p d) → tt (inner sl ρ d) R) (he : ∀ d ∈ items, p d = true → ∀ R : Dt → Prop, R (f d) → te (inner sl ρ d) R)
    (hq : Q (.lst ((items.filter p).map f))) : ∃ W : Nat → List Dt → Prop, W 0 [] ∧ (∀ (k : Nat) d acc, items[k]? = some d → W k acc → tt (inner sl ρ d) fun b => if b = true then te (inner sl ρ d) fun e => W (k + 1) (acc ++ [e]) else W (k + 1) acc) ∧
      ∀ acc, acc.length ≤ items.length → W items.length acc → Q (.lst acc) := by
  refine ⟨fun k acc => acc = ((items.take k).filter p).map f, by simp, fun k d acc e w => ?_, fun acc _ w => by rw [w, List.take_length]; exact hq⟩
  have hm := List.mem_of_getElem? e
  refine ht d hm _ ?_
  have ht := take_succ_filter p items k d e
  by_cases hp : p d = true
  · rw [if_pos hp]
    refine he d hm hp _ ?_
    show acc ++ [f d] = _
    rw [w, ht, if_pos hp]; simp
  · rw [if_neg hp]
    show acc = _
    rw [w, ht, if_neg hp]; simp
theorem comp_map {sl : List Nat} {te : DTE} {ρ : Cd} {Q : Dt → Prop} {items : List Dt} (f : Dt → Dt) (he : ∀ d ∈ items, ∀ R : Dt → Prop, R (f d) → te (inner sl ρ d) R)
    (hq : Q (.lst (items.map f))) : ∃ W : Nat → List Dt → Prop, W 0 [] ∧ (∀ (k : Nat) d acc, items[k]? = some d → W k acc → Kf (inner sl ρ d) fun b => if b = true then te (inner sl ρ d) fun e => W (k + 1) (acc ++ [e]) else W (k + 1) acc) ∧
      ∀ acc, acc.length ≤ items.length → W items.length acc → Q (.lst acc) :=
  Mq (fun _ => true) f (fun _ _ _ h => h) (fun d hm _ R h => he d hm R h) (by rw [List.filter_eq_self.mpr (fun _ _ => rfl)]; exact hq)
theorem Ra {sl : List Nat} {ti : DTI} {tt : DTT} {te : DTE} {ρ : Cd} {Q : Dt → Prop} (items : List Dt) (p : Dt → Bool) (f : Dt → Dt) (hi : ∀ R : List Dt → Prop, R items → ti ρ R) (hl : items.length ≤ sizeLine) (hc : caught sl ρ)
    (ht : ∀ d ∈ items, ∀ R : Bool → Prop, R (p d) → tt (inner sl ρ d) R) (he : ∀ d ∈ items, p d = true → ∀ R : Dt → Prop, R (f d) → te (inner sl ρ d) R) (hq : Q (.lst ((items.filter p).map f))) : Jr sl ti tt te ρ Q :=
  hi _ ⟨hl, hc, Mq p f ht he hq⟩
theorem Jp {sl : List Nat} {ti : DTI} {te : DTE} {ρ : Cd} {Q : Dt → Prop} (items : List Dt) (f : Dt → Dt) (hi : ∀ R : List Dt → Prop, R items → ti ρ R) (hl : items.length ≤ sizeLine) (hc : caught sl ρ)
    (he : ∀ d ∈ items, ∀ R : Dt → Prop, R (f d) → te (inner sl ρ d) R) (hq : Q (.lst (items.map f))) : Jr sl ti Kf te ρ Q :=
  hi _ ⟨hl, hc, comp_map f he hq⟩
theorem R8 {ti : DTI} {g : DTG} {tb : DTS} {D : Gx} {ρ : Cd} (items : List Dt) (hi : ∀ R : List Dt → Prop, R items → ti ρ R) (W : Nat → Cd → Prop) (h0 : W 0 ρ)
    (hs : ∀ (k : Nat) d ρ', items[k]? = some d → W k ρ' → g d ρ' fun ρ2 => tb { D with nx := W (k + 1), ct := W (k + 1), bk := D.nx } ρ2) (he : ∀ ρ', W items.length ρ' → D.nx ρ') : Ah4 ti g tb D ρ := hi _ ⟨W, h0, hs, he⟩
theorem ints_get {ns : List Int} {k : Nat} {d : Dt} (h : (ns.map Dt.int)[k]? = some d) : ∃ n, ns[k]? = some n ∧ d = .int n := by
  rw [List.getElem?_map] at h
  cases e : ns[k]? with
  | none => rw [e] at h; cases h
  | some n => rw [e] at h; cases h; exact ⟨n, rfl, rfl⟩
theorem GJ {ρ : Cd} : caught [] ρ := fun _ h => (nomatch h)
theorem Io {j : Nat} {sl : List Nat} {ρ : Cd} {d : Dt} (h : ρ[j]? = some (some (.is d))) (r : caught sl ρ) : caught (j :: sl) ρ := fun k hk => by
  rcases List.mem_cons.mp hk with e | e
  · subst e; exact ⟨d, h⟩
  · exact r k e
theorem RZ {ns : List Int} {k : Int} (h0 : 0 ≤ k) (h1 : k < ns.length) : ixD k (.lst (ns.map Dt.int)) = some (.int (ns.getD k.toNat 0)) := by
  obtain ⟨j, rfl⟩ := Int.eq_ofNat_of_zero_le h0
  have hj : j < ns.length := by omega
  show (ns.map Dt.int)[j]? = _
  rw [List.getElem?_map]
  simp [hj]
end L2
namespace L2
theorem Ds {c : DTT} {tb : DTS} {D : Gx} {ρ : Cd} (W : Nat → Cd → Prop) (m : Nat) (h0 : W m ρ) (h : ∀ m ρ, W m ρ → c ρ fun k => if k = true then tb { D with nx := fun ρ' => ∃ m', m' < m ∧ W m' ρ', ct := fun ρ' => ∃ m', m' < m ∧ W m' ρ', bk := D.nx } ρ else D.nx ρ) : Y6 c tb D ρ := ⟨W, ⟨m, h0⟩, h⟩
end L2
namespace L2
open PySem PySem.Spec PyProof.Rows PySem.SeqAt
section
variable {X : Cx} {a b c e : Expr} {es : List Expr} {ta tb te : DTE} {tl : DTA} {pos : Pos}
def downs (hi : Int) (n : Nat) : List Dt := (List.range n).map fun i => .int (hi - (i : Nat))
def Aeh (tl : DTA) : DTI := fun ρ Q => tl ρ fun ds => match ds with
  | [.int i, .int j, .int k] => k = -1 ∧ (-(2 ^ 62) ≤ i ∧ i < 2 ^ 62 ∧ -(2 ^ 62) ≤ j ∧ j < 2 ^ 62) ∧ Q (downs i (i - j).toNat)
  | _ => False
theorem Abd : MtR X "int.bit_length" (fun x xs H Q => ∃ i, x = .int i ∧ xs = [] ∧ Q (.int (Builtin.Int.intBits i)) H) := by
  intro pins s σ H x xs v us Q I rx rs ⟨i, e, e2, q⟩
  subst e e2
  cases rs
  obtain ⟨t, rfl⟩ := rx
  exact call_int_bit_length ⟨.int _, H, I.tok _, ⟨_, rfl⟩, q⟩
def AcJ (ta : DTE) : DTE := fun ρ Q => ta ρ fun d => match d with
  | .int i => Q (.int (Builtin.Int.intBits i))
  | _ => False
theorem WT {apos : Pos} (ha : DE X a ta) (hbase : attributeBase a "bit_length" X.env (eval a X.env) = eval a X.env := by rfl) (hline : (apos.endLine == pos.line) = true := by rfl) : DE X (.Call (.Attribute a "bit_length" apos) [] [] pos) (AcJ ta) where
  mono := fun hq h => ha.mono (fun d h => by
    split at h
    · exact hq _ h
    · exact h.elim) h
  pe := (Ads PySem.F.plainAttrs_int PySem.F.slot_int_bit_length PySem.F.type_int_bit_length Abd ha.pe hbase hline).imp fun σ H Q ⟨B, F, O, ρ, R, h⟩ => ⟨B, F, O, ρ, R, ha.mono (fun d h v H1 s1 r1 => by
    split at h
    · rw [Bm.mp r1]
      exact ⟨rfl, _, rfl, rfl, h _ H1 s1 (Bm.mpr rfl)⟩
    · exact h.elim) h⟩
def AfF (P : Program) (w : World) (K : PySem.W.Frag) (mg : Str → Option Value) (base : Heap) (k : Nat) (a : Addr) (sp : DSp) : Prop :=
  ∃ fd ps, GP P w K mg base CX0 k a fd ps (lSp K sp) ∧ Binds K fd ps [] ∧ PySem.W.keepIn K (.ref a) = true
def AdI (P : Program) (w : World) (K : PySem.W.Frag) (mg : Str → Option Value) (base : Heap) (k : Nat) (tf : DTE) (tl : DTA) : DTE := fun ρ Q => tf ρ fun d => match d with
  | .fn a => PySem.W.keepIn K (.ref a) = true ∧ tl ρ fun ds => ∃ sp, G3 sp ∧ AfF P w K mg base k a sp ∧ sp ds Q
  | _ => False
def dOf (t : DTA) : DTE := fun ρ Q => t ρ fun ds => Q (.lst ds)
def AhC (tl : DTA) : DTA := fun ρ Q => tl ρ fun ds => ds.length ≤ sizeLine ∧ Q ds
def AaH (te : DTE) (tl th : DTO) : DTA := fun ρ Q => te ρ fun d => tl ρ fun lo => th ρ fun hi => match d with
  | .lst ds => Q (cutD ds lo hi)
  | _ => False
def Af9 (t u : DTA) : DTA := fun ρ Q => t ρ fun xs => u ρ fun ys => xs.length + ys.length ≤ sizeLine ∧ Q (xs ++ ys)
end
end L2
namespace L2
open PySem PySem.Spec PyProof.Rows PySem.SeqAt
section
variable {X : Cx} {elt iter : Expr} {x : Str} {px : Pos} {ifs : List Expr} {scope : Scope} {pos : Pos} {N : List Str} {sl : List Nat} {wi : TI} {tt : TT} {te : TE}
theorem Vf {pins : List (Addr × Obj)} {σ : St} {H2 : Hp} {s2 : Shared} {cl : List (Str × Addr)} {it : Addr} {fp : List Addr} {tn : Nat → Heap → Prop} {J : It} {vs : List V} {PP : Value → Addr → Result → Shared → Prop} {E : Value → Shared → Prop} {QD : Hp → Prop} (S : Dp X scope x N sl) (hc : X.calm = true)
    (ht : ∀ cl C s₀ H₀ ex, PTs (Bg X scope (x :: N) cl C s₀ H₀ ex) ifs tt) (he : ∀ cl C s₀ H₀ ex, PE (Bg X scope (x :: N) cl C s₀ H₀ ex) elt te)
    (hcl : ∀ n c, cl.lookup n = some c → X.env.cells.lookup n = some c) (hcl2 : ∀ n, (n, NameKind.free) ∈ scope.names → ∃ c, cl.lookup n = some c)
    (I2 : Inv X pins σ H2 s2) (T : Turn X.prog X.w X.K (.Name x px) J fp it tn) (st2 : tn 0 s2.heap) (f2 : ∀ b ∈ fp, Kp X pins H2 b) (hvs : sl.map (fun j => σ[j]?) = vs.map (fun v => some (some v)))
    (hW : ∃ W : Nat → Nat → List V → Hp → Prop, (∃ m, W 0 m [] (upd H2 s2.heap.objs.size (.lst []))) ∧ ∀ i m acc H, W i m acc H →
      (J.stop i H ∧ QD H) ∨ (J.go i H ∧ ∀ x H', J.yld i H x H' → tt (some x :: vs.map some) H' fun b H2' =>
        if b = true then te (some x :: vs.map some) H2' fun y H3 => H3 s2.heap.objs.size = some (.lst acc) ∧ acc.length < sizeLine ∧ ∃ m', m' < m ∧ W (i + 1) m' (acc ++ [y]) (upd H3 s2.heap.objs.size (.lst (acc ++ [y])))
        else ∃ m', m' < m ∧ W (i + 1) m' acc H2'))
    (fin : ∀ (C : Addr), (s2.heap.push { cls := .type "list", data := .seq ([] : List Value).toArray }).objs.size = C → ∀ {σ' : St} {H' : Hp} {s' : Shared}, Inv (Bg X scope (x :: N) cl C { s2 with heap := s2.heap.push { cls := .type "list", data := .seq ([] : List Value).toArray }, toks := s2.toks } (upd H2 s2.heap.objs.size (.lst [])) fp) [] σ' H' s' → QD H' → PP (.ref s2.heap.objs.size) C (.ok .next) s') :
    wpAny (model X.prog X.w) X.A (newList []) (fun acc s₃ => wpAny (model X.prog X.w) X.A (newFunctionEnv scope X.env.globals cl [] X.env.qual none .none (some X.env)) (fun cenv s₄ =>
      codeAny (model X.prog X.w) X.A (.compStart (.ListComp elt [⟨.Name x px, iter, ifs, 0⟩] scope pos) 0 (.ref it) acc { cenv with scope := relabel scope X.env }) (PP acc cenv.locals) s₄) E s₃) E s2 := by
  refine wpAny_newObj_type (wpAny_newFunctionEnv S.cell (by intro y hy; simp at hy) (fun h₁ hns₁ hsb₁ => ?_) S.kind)
  have hD : H2 s2.heap.objs.size = none := I2.fresh
  have I3 : Inv X pins σ (upd H2 s2.heap.objs.size (.lst [])) { s2 with heap := s2.heap.push { cls := .type "list", data := .seq ([] : List Value).toArray }, toks := s2.toks } := I2.lnew (its := []) (ys := []) .nil (Nat.zero_le _)
  have hbD : ∀ b ∈ fp, b ≠ s2.heap.objs.size := fun b hb z => by
    obtain ⟨o', e', _⟩ := T.obj _ _ st2 b hb
    exact absurd (Heap.lt_size e') (by rw [z]; exact Nat.lt_irrefl _)
  have f3 : ∀ b ∈ fp, Kp X pins (upd H2 s2.heap.objs.size (.lst [])) b := fun b hb => ⟨by rw [Bc (hbD b hb)]; exact (f2 b hb).1, (f2 b hb).2⟩
  have ob3 : ∀ b ∈ fp, ∃ o, (s2.heap.push { cls := .type "list", data := .seq ([] : List Value).toArray }).get? b = some o := fun b hb => by
    obtain ⟨o', e', _⟩ := T.obj _ _ st2 b hb
    exact ⟨o', Heap.get?_push_of_some _ e'⟩
  have IC := Tj (tk := s2.toks + ([] : List (Str × Value)).length) S I3 f3 ob3 hns₁ hsb₁ hcl hcl2 hvs
  dsimp only at hsb₁ IC ⊢
  generalize hCC : (s2.heap.push { cls := .type "list", data := .seq ([] : List Value).toArray }).objs.size = C at hns₁ hsb₁ IC ⊢
  have old : ∀ b o, s2.heap.get? b = some o → h₁.get? b = some o := fun b o e => by
    have e1 : (s2.heap.push { cls := .type "list", data := .seq ([] : List Value).toArray }).get? b = some o := Heap.get?_push_of_some _ e
    exact (hsb₁.2 b (by rw [← hCC]; exact Nat.ne_of_lt (Heap.lt_size e1))).trans (Heap.get?_push_of_some _ e1)
  have st₁ : tn 0 h₁ := T.keep _ _ _ st2 fun b hb o e => old b o e
  obtain ⟨W, ⟨m0, w0⟩, turn⟩ := hW
  have fpC : ∀ {H' : Hp} {pl : List (Addr × Obj)}, (∀ b ∈ fp, H' b = none) → (∀ p ∈ pl, p.1 ∉ fp) → ∀ b ∈ fp, Kp (Bg X scope (x :: N) cl C { s2 with heap := s2.heap.push { cls := .type "list", data := .seq ([] : List Value).toArray }, toks := s2.toks } (upd H2 s2.heap.objs.size (.lst [])) fp) pl H' b := fun {H' pl} hn hp b hb => by
    refine ⟨hn b hb, (IC.ok.exf b hb).1, IC.ok.exfs b hb, .inl hb, (IC.ok.exf b hb).2, fun p hq z => ?_⟩
    have hq' : p ∈ pl := by simpa [Bg] using hq
    exact hp p hq' (by rw [z]; exact hb)
  have loop : codeAny (model X.prog X.w) X.A (.compLoop (.ListComp elt [⟨.Name x px, iter, ifs, 0⟩] scope pos) 0 (.ref it) (.ref s2.heap.objs.size) (compEnvC scope cl C X.env)) (PP (.ref s2.heap.objs.size) C)
      { s2 with heap := h₁, toks := s2.toks + ([] : List (Str × Value)).length } := by
    refine codeAny_compLoop_tests (fun n s' => ∃ i acc σ' H', Inv (Bg X scope (x :: N) cl C { s2 with heap := s2.heap.push { cls := .type "list", data := .seq ([] : List Value).toArray }, toks := s2.toks } (upd H2 s2.heap.objs.size (.lst [])) fp) [] σ' H' s' ∧ (∃ y, σ' = y :: vs.map some) ∧
      tn i s'.heap ∧ (∀ b ∈ fp, H' b = none) ∧ W i n acc H') ?_ m0 ⟨0, [], _, _, IC, ⟨none, rfl⟩, st₁, fun b hb => (f3 b hb).1, w0⟩
    rintro n s3 ⟨i, acc, σ3, H3, I4, ⟨y, rfl⟩, st3, fr3, w3⟩
    rcases turn i n acc H3 w3 with ⟨stop, qn⟩ | ⟨go, step⟩
    · refine wpAny_mono (T.done (Bg X scope (x :: N) cl C { s2 with heap := s2.heap.push { cls := .type "list", data := .seq ([] : List Value).toArray }, toks := s2.toks } (upd H2 s2.heap.objs.size (.lst [])) fp) rfl rfl rfl hc i [] s3 _ H3 (fun _ _ => False) I4 (fpC fr3 (by simp)) st3 stop) (fun r s4 ⟨hr, I5⟩ => ?_) fun _ _ z => False.elim z
      subst hr
      exact fin C hCC I5 qn
    · refine wpAny_mono (T.item (Bg X scope (x :: N) cl C { s2 with heap := s2.heap.push { cls := .type "list", data := .seq ([] : List Value).toArray }, toks := s2.toks } (upd H2 s2.heap.objs.size (.lst [])) fp) rfl rfl rfl hc i [] s3 _ H3 (fun _ _ => False) I4 (fpC fr3 (by simp)) st3 go) (fun r s4 ⟨u, hr, h4⟩ => ?_) fun _ _ z => False.elim z
      subst hr
      have e0 : ∀ (k : Unit → Sem Unit), (letOwnedTupleGo (.Name x px) (.ref it) u >>= k) = k () := fun k => rfl
      have hg : PG (Bg X scope (x :: N) cl C { s2 with heap := s2.heap.push { cls := .type "list", data := .seq ([] : List Value).toArray }, toks := s2.toks } (upd H2 s2.heap.objs.size (.lst [])) fp) (.Name x px) (Wb 0) := Rf S.nd rfl (.inl (lookup_relabel_local S.hx)) (.inr (lookup_relabel_local S.hx))
      show wpAny (model X.prog X.w) X.A (assign (.Name x px) (compEnvC scope cl C X.env) u) _ _ s4
      rw [← e0 fun _ => assign (.Name x px) (compEnvC scope cl C X.env) u]
      refine wpAny_bind (wpAny_mono h4 (fun _ s5 ⟨z, H5, I5, r5, y5, st5, fr5⟩ => ?_) fun _ _ z => False.elim z)
      have I5' := I5.pinned (fpC fr5 (by simp)) (T.obj _ _ st5)
      have W5 := hg _ s5 _ H5 z u (fun σ' H' => σ' = some z :: vs.map some ∧ H' = H5) I5' r5 ⟨rfl, rfl⟩
      refine wpAny_mono W5 (fun _ s6 ⟨σ6, H6, I6, e6, e7⟩ => ?_) fun _ _ z => False.elim z
      subst e6 e7
      refine wpAny_mono (ht _ _ _ _ _ _ s6 _ H6 _ I6 (step z H6 y5)) (fun b s7 ⟨H7, I7, q7⟩ => ?_) fun _ _ z => False.elim z
      have again : ∀ {H8 : Hp} {s8 : Shared} {acc' : List V}, Inv (Bg X scope (x :: N) cl C { s2 with heap := s2.heap.push { cls := .type "list", data := .seq ([] : List Value).toArray }, toks := s2.toks } (upd H2 s2.heap.objs.size (.lst [])) fp) ([] ++ Ly fp s5.heap) (some z :: vs.map some) H8 s8 → (∃ m', m' < n ∧ W (i + 1) m' acc' H8) → ∃ m, m < n ∧ ∃ i acc σ' H', Inv (Bg X scope (x :: N) cl C { s2 with heap := s2.heap.push { cls := .type "list", data := .seq ([] : List Value).toArray }, toks := s2.toks } (upd H2 s2.heap.objs.size (.lst [])) fp) [] σ' H' s8 ∧ (∃ y, σ' = y :: vs.map some) ∧ tn i s8.heap ∧ (∀ b ∈ fp, H' b = none) ∧ W i m acc H' := fun {H8 s8 acc'} I8 ⟨m', hm, w8⟩ => by
        refine ⟨m', hm, i + 1, acc', _, H8, I8.unpinned, ⟨_, rfl⟩, T.keep _ _ _ st5 fun b hb o e => (I8.pin (b, o) (List.mem_append_right _ (List.mem_append_right _ (Fq hb e)))).1, fun b hb => ?_, w8⟩
        obtain ⟨o, e, d⟩ := T.obj _ _ st5 b hb
        exact (I8.pin (b, o) (List.mem_append_right _ (List.mem_append_right _ (Fq hb e)))).2.1
      cases b with
      | false => exact again I7 q7
      | true =>
        rw [if_pos rfl]
        refine wpAny_mono (he _ _ _ _ _ _ s7 _ H7 _ I7 q7) (fun v8 s8 ⟨x8, H8, I8, r8, hD8, hz8, q8⟩ => ?_) fun _ _ z => False.elim z
        refine wpAny_mono (Ld (X := (Bg X scope (x :: N) cl C { s2 with heap := s2.heap.push { cls := .type "list", data := .seq ([] : List Value).toArray }, toks := s2.toks } (upd H2 s2.heap.objs.size (.lst [])) fp)) _ s8 _ H8 (.ref s2.heap.objs.size) [x8] (.ref s2.heap.objs.size) [v8] (fun _ H9 => H9 = upd H8 s2.heap.objs.size (.lst (acc ++ [x8]))) I8 rfl (.cons r8 .nil) ⟨_, acc, x8, rfl, rfl, hD8, hz8, rfl⟩) (fun _ s9 ⟨_, H9, I9, _, e9⟩ => ?_) fun _ _ z => False.elim z
        subst e9
        exact again I9 q8
  exact codeAny_compStart_list loop (T.self _ 0 _ _ _ st₁ loop)
def AfS (i : Nat) (sl : List Nat) (wi : TI) (tt : TT) (te : TE) : TS := fun D σ H => WM sl wi tt te σ H fun v H' => D.nx (σ.set i (some v)) H'
theorem Wd {i : Nat} {y : Str} {py spos : Pos} (S : Dp X scope x N sl) (hc : X.calm = true) (hN : X.N.Nodup) (hyi : X.N[i]? = some y) (hy : X.env.scope.names.lookup y = some .local) (hi : PI X (.Name x px) iter wi)
    (ht : ∀ cl C s₀ H₀ ex, PTs (Bg X scope (x :: N) cl C s₀ H₀ ex) ifs tt) (he : ∀ cl C s₀ H₀ ex, PE (Bg X scope (x :: N) cl C s₀ H₀ ex) elt te)
    (hsw : swapsWith (.ListComp elt [⟨.Name x px, iter, ifs, 0⟩] scope pos) (some (.Name y py)) spos.line X.env = pure true) (hs : ∀ x, foldedSetIterable iter X.env x = pure x := by intro _; rfl) :
    PS X (.Assign [.Name y py] (.ListComp elt [⟨.Name x px, iter, ifs, 0⟩] scope pos) spos) (AfS i sl wi tt te) := by
  intro pins s σ H DD I h
  obtain ⟨cl, hclos, hcl, hcl2⟩ := O1 (env := X.env) (scope := scope) fun y hy hf => I.ok.has y.1 (.inl (S.free y hy hf))
  rw [exec_Assign_Name_used _ _ _ _ hsw]
  refine wpAny_bind (wpAny_standAt (wpAny_bind ?_))
  show wpAny _ X.A (do let _ ← comprehension (.ListComp elt [⟨.Name x px, iter, ifs, 0⟩] scope pos) scope X.env _ (newList []) false (eval iter X.env) (some (assign (.Name y py) X.env))) _ _ s
  refine wpAny_bind (wpAny_mono (wpAny_comprehension_free (use := some (assign (.Name y py) X.env)) (Q := fun _ s' => SP X pins DD .next s') rfl hs hclos S.kind S.names
    (thn (hi pins s σ H _ I h) fun v s1 h1 => thn h1 fun itv s2 h2 => ?_)) (fun _ s' hq => wpAny_pure (wpAny_pure hq)) fun _ _ e => e)
  obtain ⟨it, fp, tn, J, H2, e, I2, T, st2, f2, vs, hvs, hW⟩ := h2
  subst e
  refine Vf (QD := fun H' => DD.nx (σ.set i (some (.ref s2.heap.objs.size))) H') (PP := fun acc C => compPost (model X.prog X.w) X.A X.xe (some (assign (.Name y py) X.env)) (fun _ s' => SP X pins DD .next s') acc C) S hc ht he hcl hcl2 I2 T st2 f2 hvs (hW s2.heap.objs.size I2.fresh) fun C hCC {σ' H' s'} J q => ?_
  have hD : H2 s2.heap.objs.size = none := I2.fresh
  have nC : ∀ b o, s2.heap.get? b = some o → b ≠ C := fun b o e => by
    have e1 : (s2.heap.push { cls := .type "list", data := .seq ([] : List Value).toArray }).get? b = some o := Heap.get?_push_of_some _ e
    rw [← hCC]; exact Nat.ne_of_lt (Heap.lt_size e1)
  have u : Un (frs X.stack) fp H2 H' s2.heap s'.heap := (Un.laid (fun b u e => Heap.get?_push_of_some _ e) (Nat.le_refl _) hD).trans J.base
  have hos : s'.os = s2.os := J.os
  have IX : Inv X pins σ H' s' := I2.call' (ch := fp) hos u J.hok J.bare fun b hb => ⟨(f2 b hb).2.2.2.1, (f2 b hb).2.1, (f2 b hb).2.2.2.2.1, (f2 b hb).2.2.2.2.2⟩
  have hLC : X.env.locals ≠ C := by
    obtain ⟨m, ⟨o, _, _, ho, _⟩, _⟩ := I2.loc
    exact nC _ o ho
  have hcC : ∀ y c, X.env.cells.lookup y = some c → c ≠ C := fun y c e => by
    obtain ⟨v, o, ho, _⟩ := I2.cell y c e
    exact nC _ o ho
  show wpAny _ X.A (assign (.Name y py) X.env (.ref s2.heap.objs.size)) _ _ _
  refine wpAny_assign_Name (Qx IX hN hyi (.inl hy) (v := .ref s2.heap.objs.size) rfl (fun s'' I'' ⟨a, hs2, ha⟩ => ?_) (.inr hy))
  obtain ⟨m, hn, _⟩ := id J.loc
  have haC : C ≠ a := by
    rcases ha with z | z
    · rw [z]; exact Ne.symm hLC
    · exact Ne.symm (hcC y a z)
  refine ⟨m, hn.sameBut hs2 haC, fun h' hs' => ⟨_, H', ?_, q⟩⟩
  refine I''.turned (t' := s''.toks) (it := C) (fun b o hb e => (hs'.2 b hb).trans e) J.free (Ne.symm hLC) (.inr ?_) hcC (fun p hp z => ?_)
  · rw [← hCC]
    exact Nat.le_trans I2.sz (by rw [Heap.size_push]; exact Nat.le_succ _)
  · obtain ⟨e, _⟩ := I2.pin p hp
    exact nC _ _ e z
theorem Jg {sl : List Nat} {ti : DTI} {dt : DTT} {de : DTE} (mi : ∀ {ρ Q Q'}, (∀ d, Q d → Q' d) → ti ρ Q → ti ρ Q') : ∀ {ρ Q Q'}, (∀ d, Q d → Q' d) → Jr sl ti dt de ρ Q → Jr sl ti dt de ρ Q' :=
  fun hq h => mi (fun items ⟨h1, h2, W, w0, st, fin⟩ => ⟨h1, h2, W, w0, st, fun acc l w => hq _ (fin acc l w)⟩) h
def Wg (i : Nat) (sl : List Nat) (ti : DTI) (tt : DTT) (te : DTE) : DTS := fun D ρ => Jr sl ti tt te ρ fun d => D.nx (ρ.set i (some (.is d)))
theorem ZG {ti : DTI} {dt : DTT} {de : DTE} {y : Str} {py spos : Pos} (i : Nat) (S : Dp X scope x N sl) (hc : X.calm = true) (hN : X.N.Nodup) (hyi : X.N[i]? = some y) (hy : X.env.scope.names.lookup y = some .local) (hi : DI X (.Name x px) iter ti)
    (ht : ∀ cl C s₀ H₀ ex, DTs (Bg X scope (x :: N) cl C s₀ H₀ ex) ifs dt) (he : ∀ cl C s₀ H₀ ex, DE (Bg X scope (x :: N) cl C s₀ H₀ ex) elt de)
    (hsw : swapsWith (.ListComp elt [⟨.Name x px, iter, ifs, 0⟩] scope pos) (some (.Name y py)) spos.line X.env = pure true) (hs : ∀ x, foldedSetIterable iter X.env x = pure x := by intro _; rfl) :
    DS X (.Assign [.Name y py] (.ListComp elt [⟨.Name x px, iter, ifs, 0⟩] scope pos) spos) (Wg i sl ti dt de) where
  mono := fun hd h => Jg (ti := ti) hi.mono (fun d q => hd.nx _ q) h
  ps := (Wd (tt := lT X.K dt) (te := lE X.K de) S hc hN hyi hy hi.pi (fun cl C s₀ H₀ ex => (ht cl C s₀ H₀ ex).pts) (fun cl C s₀ H₀ ex => (he cl C s₀ H₀ ex).pe) hsw hs).imp fun D σ H ⟨B, F, O, ρ, R, h⟩ =>
    Uc (ti := ti) (dt := dt) (de := de) hi.mono (ht [] 0 X.s₀ X.H₀ []).mono (he [] 0 X.s₀ X.H₀ []).mono σ H _ ⟨B, F, O, ρ, R, Jg (ti := ti) hi.mono (fun d q v H' s r => q O _ H' ((R.same s).set i r)) h⟩
theorem AaC {ti : DTI} {de : DTE} {y : Str} {py spos : Pos} (i : Nat) (hN : X.N.Nodup) (S : Dp X scope x N sl) (hc : X.calm = true) (hi : DI X (.Name x px) iter ti) (he : ∀ cl C s₀ H₀ ex, DE (Bg X scope (x :: N) cl C s₀ H₀ ex) elt de)
    (hyi : X.N[i]? = some y := by rfl) (hy : X.env.scope.names.lookup y = some .local := by rfl) (hsw : swapsWith (.ListComp elt [⟨.Name x px, iter, [], 0⟩] scope pos) (some (.Name y py)) spos.line X.env = pure true := by rfl) (hs : ∀ x, foldedSetIterable iter X.env x = pure x := by intro _; rfl) :
    DS X (.Assign [.Name y py] (.ListComp elt [⟨.Name x px, iter, [], 0⟩] scope pos) spos) (Wg i sl ti Kf de) := ZG i S hc hN hyi hy hi (fun _ _ _ _ _ => Rn) he hsw hs
end
section
variable {prog : Program} {w : World} {A : Around} {E : Value → Shared → Prop} {s : Shared}
theorem Qv {it t : Addr} {items : Array Value} (hne : t ≠ it) : ∀ (n i : Nat) (s : Shared) (Q : List Value → Shared → Prop), s.heap.IsListIter it t i → s.heap.IsList t items → i + n ≤ items.size →
    (∀ h', h'.IsListIter it t (i + n) → Heap.SameBut it s.heap h' → Q ((items.toList.drop i).take n) { s with heap := h' }) → wpAny (model prog w) A (draw (.ref it) n) Q E s
  | 0, i, s, Q, hit, _, _, hQ => by
    show wpAny _ _ (pure []) Q E s
    exact wpAny_pure (by simpa using hQ s.heap hit (Heap.SameBut.refl ..))
  | n + 1, i, s, Q, hit, ht, hle, hQ => by
    have hlt : i < items.size := by omega
    show wpAny _ _ (pyNext (.ref it) >>= _) Q E s
    refine wpAny_bind (wpAny_pyNext_list_item hit ht (x := items[i]) (by simp [hlt]) fun h₁ hit₁ hs₁ => ?_)
    refine wpAny_bind (wpAny_holding (Qv hne n (i + 1) _ _ hit₁ (ht.extBut hs₁.extBut hne) (by omega) fun h₂ hit₂ hs₂ => wpAny_pure ?_))
    have hd : items.toList.drop i = items[i] :: items.toList.drop (i + 1) := by simp [List.drop_eq_getElem_cons, hlt]
    have := hQ h₂ (by rw [show i + (n + 1) = i + 1 + n by omega]; exact hit₂) (hs₁.trans hs₂)
    rw [hd, List.take_succ_cons] at this
    exact this
theorem Lj {t : Addr} {items : Array Value} {Q : List Value → Shared → Prop} (hh : A.handled = none) (ht : s.heap.IsList t items)
    (hQ : ∀ h', Heap.ExtBut s.heap.objs.size s.heap h' → Q items.toList { s with heap := h' }) : wpAny (model prog w) A (unpackItems (.ref t) items.size none) Q E s := by
  have hlt : t ≠ s.heap.objs.size := by obtain ⟨o, ho, _⟩ := ht; exact Nat.ne_of_lt (Heap.lt_size ho)
  unfold unpackItems
  refine wpAny_bind ?_
  · unfold notIterableAtAll
    refine wpAny_bind (wpAny_specialOf ht.typeIs slot_list_iter.lookup ?_)
    refine wpAny_pure ?_
    simp only [Bool.false_eq_true, if_false]
    refine wpAny_bind (wpAny_holding (wpAny_pyIter_list ht ?_))
    have ht' : (s.heap.push { cls := .type "list_iterator", data := .fields #[.ref t, .int 0 0] }).IsList t items := by
      obtain ⟨o, ho, r⟩ := ht
      exact ⟨o, Heap.get?_push_of_some _ ho, r⟩
    refine wpAny_bind (wpAny_holding (Qv hlt items.size 0 _ _ ⟨_, Heap.get?_push_size _ rfl, rfl, rfl⟩ ht' (by omega) fun h₁ hit₁ hs₁ => ?_))
    have hall : List.take items.size (List.drop 0 items.toList) = items.toList := by
      rw [List.drop_zero]; exact List.take_of_length_le (by simp)
    rw [hall]
    rw [if_neg (by simp)]
    have ht₁ : h₁.IsList t items := ht'.extBut hs₁.extBut hlt
    refine wpAny_bind (wpAny_holding (wpAny_pyNext_list_end hh hit₁ ht₁ (by simp) fun h₂ he₂ => ?_))
    simp only [Option.isSome_none, Bool.false_eq_true, if_false]
    refine wpAny_pure (hQ h₂ fun b o hb e => he₂ b o hb (hs₁.extBut b o hb (Heap.get?_push_of_some _ e)))
end
section
variable {X : Cx} {es : List Expr} {pos : Pos}
def Ajb (K : PySem.W.Frag) (n : Nat) (t : TGs) : TG := fun v σ H Q => ∃ a xs, v = .ref a ∧ SqL K H a xs ∧ xs.length = n ∧ t xs σ H Q
theorem Ael {k : Nat} {t : TGs} {n : Nat} (hc : X.calm = true) (h : PGs X es t) (hn : (assignEach es X.env).length = n := by rfl) (hst : (assignEach es X.env).findIdx? (·.1) = none := by rfl) : PG X (.Tuple es k pos) (Ajb X.K n t) := by
  intro pins s σ H v u Q I r hw
  obtain ⟨a, xs, e1, hq, hl, hw⟩ := hw
  subst e1
  cases r
  obtain ⟨its, rv, ht, hz⟩ := I.list hq
  rw [assign_Tuple]
  refine wpAny_bind (wpAny_standAt ?_)
  unfold unpack
  have e2 : (assignEach es X.env).length = its.toArray.size := by simp [hn, ← hl, rv.length]
  rw [e2, hst]
  refine wpAny_bind (wpAny_holding (Lj (I.ok.hd hc) ht.isList fun h' hx => ?_))
  have I1 : Inv X pins σ H { s with heap := h' } := I.kept (t' := s.toks) fun b o e => hx b o (Nat.ne_of_lt (Heap.lt_size e)) e
  exact h pins _ σ H xs _ Q I1 (by simpa using rv) hw
def Wq (n : Nat) (gs : Qg) : DTG := fun d ρ Q => match d with
  | .lst ds => ds.length = n ∧ gs ds ρ Q
  | _ => False
theorem Ad8 {k : Nat} {gs : Qg} {n : Nat} (hc : X.calm = true) (h : DGs X es gs) (hn : (assignEach es X.env).length = n := by rfl) (hst : (assignEach es X.env).findIdx? (·.1) = none := by rfl) : DG X (.Tuple es k pos) (Wq n gs) where
  mono := fun hq z => by
    unfold Wq at z ⊢
    split at z
    · exact ⟨z.1, h.mono hq z.2⟩
    · exact z.elim
  pg := (Ael hc h.pg hn hst).imp fun v σ H Q ⟨B, F, O, ρ, d, R, r, z⟩ => by
    unfold Wq at z
    split at z
    · obtain ⟨a, xs, rfl, hs, hl⟩ := Gj r
      exact ⟨a, xs, rfl, Bs.seq hs, by rw [hl.len]; exact z.1, B, F, O, ρ, _, R, hl, z.2⟩
    · exact z.elim
end
end L2
namespace L2
end L2
namespace L2
theorem R9 {n : Nat} {x : PySem.Str} : Dt.flat n (.str x) = (PySem.PyData.str x).canLay0 := by cases n <;> rw [Dt.flat]
end L2
namespace L2
open PySem PySem.Spec PyProof.Rows PySem.SeqAt
section
variable {X : Cx} {pins : List (Addr × Obj)} {σ : St} {H : Hp} {s : Shared} {h' : Heap} {a dx C U f fI : Addr} {φ ψ : Heap → Prop}
end
end L2
namespace L2
open PySem PySem.Spec PyProof.Rows PySem.SeqAt
structure AdF where
  d : Gx
  ex : Cd → Dt → Prop
abbrev JW := AdF → Cd → Prop
abbrev Tv := Cd → (Dt → Prop) → (Dt → Prop) → Prop
section
variable {X : Cx} {a b c e : Expr} {es : List Expr} {st : Stmt} {sts sa sb : List Stmt} {t u : JW} {ts us : DTS} {te : Tv} {tA : DTT} {tl : DTA} {pos : Pos}
def AeW (t : DTS) : JW := fun D ρ => t D.d ρ
def Adu : JW := fun D ρ => D.d.nx ρ
def AfI (t u : JW) : JW := fun D ρ => t ⟨{ D.d with nx := u D }, D.ex⟩ ρ
def Ai1 (c : DTT) (t u : JW) : JW := fun D ρ => c ρ fun k => if k = true then t D ρ else u D ρ
def AeK (te : Tv) : JW := fun D ρ => te ρ (fun _ => D.d.nx ρ) (D.ex ρ)
def AfC (te : Tv) : JW := fun D ρ => te ρ D.d.rt (D.ex ρ)
def AhM (te : Tv) (g : DTG) : JW := fun D ρ => te ρ (fun d => g d ρ D.d.nx) (D.ex ρ)
abbrev AjK := List Dt → (Dt → Prop) → (Dt → Prop) → Prop
def Aet (sp : AjK) (tl : DTA) : Tv := fun ρ Q E => tl ρ fun ds => sp ds Q E
def Aej (c : Str) (ns : List Str) (tl : DTA) : JW := fun D ρ => tl ρ fun ds => ds.length = ns.length ∧ ds.length ≤ 1000 ∧ D.ex ρ (.exc c ns ds)
end
section
variable {P : Program} {w : World} {K : PySem.W.Frag} {mg : Str → Option Value} {base : Heap}
end
end L2
namespace L2
open PySem PySem.Spec PyProof.Rows PySem.SeqAt
section
variable {X : Cx} {pins : List (Addr × Obj)} {σ : St} {H : Hp} {s : Shared}
end
def Under (K : PySem.W.Frag) (mg : Str → Option Value) (c T : Str) : Prop := ∀ C U, PySem.W.nsIn K mainGlobals c = some (some (.ref C)) → XC K C U → mg T = some (.ref U)
section
variable {X : Cx} {tb : JW} {ts : DTS} {pos tp hp : Pos} {T n : Str} {U : Addr} {body suite : List Stmt} {b₀ : Stmt}
def YD (K : PySem.W.Frag) (mg : Str → Option Value) (T : Str) (j : Nat) (ts : DTS) (D : Gx) (ρ : Cd) (x : Dt) : Prop := match x with
  | .exc c ns ds => Under K mg c T ∧ ts { nx := fun ρ2 => D.nx (ρ2.set j none), rt := fun _ => False } (ρ.set j (some (.is (.exc c ns ds))))
  | _ => False
def AjO (K : PySem.W.Frag) (mg : Str → Option Value) (T : Str) (j : Nat) (tb : JW) (ts : DTS) : JW := fun D ρ => tb ⟨D.d, YD K mg T j ts D.d⟩ ρ
end
end L2
namespace L2
open PySem PySem.Spec PyProof.Rows PySem.SeqAt
def Ah3 (K : PySem.W.Frag) (c : Str) (A : Addr) (b : Bool) : Prop := ∀ C, PySem.W.nsIn K mainGlobals c = some (some (.ref C)) → PySem.W.kitOne K (.ref C) (.ref A) = some b
def Afb (K : PySem.W.Frag) (c : Str) (As : List Addr) (b : Bool) : Prop := ∀ C, PySem.W.nsIn K mainGlobals c = some (some (.ref C)) → PySem.W.kitAny K (.ref C) (As.map .ref) = some b
def PB (K : PySem.W.Frag) (c f : Str) : Prop := ∀ C, PySem.W.nsIn K mainGlobals c = some (some (.ref C)) → PySem.W.findIn K (.ref C) f = some none
section
variable {X : Cx} {a b c e : Expr} {es : List Expr} {ta tb te : DTE} {tl : DTA} {pos : Pos}
def Aku (K : PySem.W.Frag) : DL := fun ds Q => match ds with
  | [.exc c _ _, .fn A] => ∃ v, Ah3 K c A v ∧ Q (.bl v)
  | _ => False
def Agl (K : PySem.W.Frag) : DL := fun ds Q => match ds with
  | [.exc c _ _, .tup es] => ∃ As v, es = As.map .fn ∧ Afb K c As v ∧ Q (.bl v)
  | _ => False
def AjC (ta : DTE) : DTE := fun ρ Q => ta ρ fun d => match d with
  | .exc _ _ _ => Q (.bl true)
  | _ => False
theorem zip_get {K : PySem.W.Frag} {H : Hp} {f : Str} {d : Dt} : ∀ {ns : List Str} {ds : List Dt} {vs : List V}, RpL K H ds vs → (ns.zip ds).lookup f = some d → ∃ v, (ns.zip vs).lookup f = some v ∧ Rp K H d v
  | [], _, _, _, h => by simp at h
  | _ :: _, [], _, _, h => by simp at h
  | n :: ns, x :: ds, _, r, h => by
    obtain ⟨v, vr, rfl, r1, r2⟩ := Ax.mp r
    rw [List.zip_cons_cons] at h ⊢
    by_cases q : f = n
    · have hb : (f == n) = true := beq_iff_eq.mpr q
      simp only [List.lookup, hb] at h ⊢
      cases h; exact ⟨v, rfl, r1⟩
    · have hb : (f == n) = false := beq_eq_false_iff_ne.mpr q
      simp only [List.lookup, hb] at h ⊢
      exact zip_get r2 h
def AfB (K : PySem.W.Frag) (te : DTE) (f : Str) : DTE := fun ρ Q => te ρ fun d => match d with
  | .exc c ns ds => PB K c f ∧ ∃ v, (ns.zip ds).lookup f = some v ∧ Q v
  | _ => False
def Ahv (t : JW) : DTS := fun D ρ => t ⟨D, fun _ _ => False⟩ ρ
end
end L2
namespace L2
open PySem PySem.Spec PyProof.Rows PySem.SeqAt
section
variable {K : PySem.W.Frag} {mg : Str → Option Value} {c T f : Str} {C U A : Addr} {cd : ClassData}
end
end L2
namespace L2
open PySem PySem.Spec PyProof.Rows PySem.SeqAt
theorem JT {O : List Addr} {H : Hp} {a : Addr} {o : HO} (h : a ∈ O) : mask O (upd H a o) = mask O H := by
  funext b
  by_cases q : b ∈ O
  · rw [CW q, CW q]
  · rw [Az q, Az q, Bc (a := a) (fun z => q (by rw [z]; exact h))]
theorem Aak {F O : List Addr} {H : Hp} {p : Addr} {o : HO} (h : H p = none) : mask (F ++ (p :: O)) (upd H p o) = mask (F ++ O) H := by
  funext b
  by_cases e : b = p
  · subst e
    rw [CW (List.mem_append_right _ List.mem_cons_self)]
    by_cases q : b ∈ F ++ O
    · rw [CW q]
    · rw [Az q, h]
  · by_cases q : b ∈ F ++ O
    · rw [CW q, CW]
      rcases List.mem_append.mp q with q | q
      · exact List.mem_append_left _ q
      · exact List.mem_append_right _ (List.mem_cons_of_mem _ q)
    · rw [Az q, Az, Bc e]
      intro z
      rcases List.mem_append.mp z with z | z
      · exact q (List.mem_append_left _ z)
      · rcases List.mem_cons.mp z with z | z
        · exact e z
        · exact q (List.mem_append_right _ z)
section
variable {K : PySem.W.Frag} {B : Hp} {F O : List Addr} {H : Hp} {σ : St} {ρ : Cd}
theorem Rep.newOwn (r : Rep K B F O H σ ρ) (i : Nat) {p : Addr} {ds : List Dt} {xs : List V} (hp : H p = none) (h : RpL K (mask (F ++ O) H) ds xs) : Rep K B F (p :: O) (upd H p (.lst xs)) (σ.set i (some (.ref p))) (ρ.set i (some (.own ds))) := by
  have hl := r.len
  have nF : p ∉ F := fun z => r.th p (List.mem_append_left _ z) hp
  have nO : p ∉ O := fun z => r.th p (List.mem_append_right _ z) hp
  have em := Aak (F := F) (O := O) (o := .lst xs) hp
  refine ⟨by simpa using hl, r.base.trans (Same.upd hp), fun a h => ?_, fun a h e => ?_, fun j d q => ?_, fun j es q => ?_, fun j k es es' a h1 h2 h3 h4 => ?_⟩
  · rcases List.mem_cons.mp h with rfl | h
    · cases q : B a with
      | none => rfl
      | some o => rw [r.base a o q] at hp; cases hp
    · exact r.fr a h
  · by_cases z : a = p
    · rw [z, BJ] at e; cases e
    · rw [Bc z] at e
      refine r.th a ?_ e
      rcases List.mem_append.mp h with h | h
      · exact List.mem_append_left _ h
      · exact List.mem_append_right _ ((List.mem_cons.mp h).resolve_left z)
  · by_cases hj : j = i
    · subst hj
      by_cases hk : j < ρ.length
      · rw [List.getElem?_set_self hk] at q; cases q
      · rw [List.getElem?_eq_none (by simpa using hk)] at q; cases q
    · rw [List.getElem?_set_ne (Ne.symm hj)] at q ⊢
      rw [em]; exact r.is j d q
  · by_cases hj : j = i
    · subst hj
      by_cases hk : j < ρ.length
      · rw [List.getElem?_set_self hk] at q; cases q
        exact ⟨p, xs, List.getElem?_set_self (by omega), List.mem_cons_self, nF, BJ, by rw [em]; exact h⟩
      · rw [List.getElem?_eq_none (by simpa using hk)] at q; cases q
    · rw [List.getElem?_set_ne (Ne.symm hj)] at q ⊢
      obtain ⟨a, ys, h1, h2, h3, h4, h5⟩ := r.own j es q
      exact ⟨a, ys, h1, List.mem_cons_of_mem _ h2, h3, by rw [Bc (a := p) (fun z => nO (by rw [← z]; exact h2))]; exact h4, by rw [em]; exact h5⟩
  · have other : ∀ (m : Nat) es, m ≠ i → (ρ.set i (some (.own ds)))[m]? = some (some (.own es)) → (σ.set i (some (.ref p)))[m]? = some (some (.ref p)) → False := fun m es hm q1 q2 => by
      rw [List.getElem?_set_ne (Ne.symm hm)] at q1 q2
      obtain ⟨b, _, e1, e2, _⟩ := r.own m es q1
      rw [e1] at q2
      cases q2
      exact nO e2
    by_cases hj : j = i
    · by_cases hk : k = i
      · rw [hj, hk]
      · subst hj
        have : a = p := by
          rw [List.getElem?_set_self (by
            have := (List.getElem?_eq_some_iff.mp h1).1
            simp at this; omega)] at h3
          cases h3; rfl
        subst this
        exact (other k es' hk h2 h4).elim
    · by_cases hk : k = i
      · subst hk
        have : a = p := by
          rw [List.getElem?_set_self (by
            have := (List.getElem?_eq_some_iff.mp h2).1
            simp at this; omega)] at h4
          cases h4; rfl
        subst this
        exact (other j es hj h1 h3).elim
      · rw [List.getElem?_set_ne (Ne.symm hj)] at h1 h3
        rw [List.getElem?_set_ne (Ne.symm hk)] at h2 h4
        exact r.inj j k es es' a h1 h2 h3 h4
theorem Rep.putOwn (r : Rep K B F O H σ ρ) {i : Nat} {a : Addr} {ds es : List Dt} {xs ys : List V} (hi : ρ[i]? = some (some (.own ds))) (hs : σ[i]? = some (some (.ref a))) (ha : a ∈ O) (hH : H a = some (.lst xs)) (h : RpL K (mask (F ++ O) H) es ys) :
    Rep K B F O (upd H a (.lst ys)) σ (ρ.set i (some (.own es))) := by
  have em : mask (F ++ O) (upd H a (.lst ys)) = mask (F ++ O) H := JT (List.mem_append_right _ ha)
  have hk : i < ρ.length := (List.getElem?_eq_some_iff.mp hi).1
  refine ⟨by simpa using r.len, fun b o e => ?_, r.fr, fun b hb e => ?_, fun j d q => ?_, fun j ks q => ?_, fun j k es' es'' b h1 h2 h3 h4 => ?_⟩
  · rw [Bc fun z => by rw [z, r.fr a ha] at e; cases e]; exact r.base b o e
  · by_cases z : b = a
    · rw [z, BJ] at e; cases e
    · rw [Bc z] at e; exact r.th b hb e
  · have hj : j ≠ i := fun z => by subst z; rw [List.getElem?_set_self hk] at q; cases q
    rw [List.getElem?_set_ne (Ne.symm hj)] at q
    rw [em]; exact r.is j d q
  · by_cases hj : j = i
    · subst hj
      rw [List.getElem?_set_self hk] at q; cases q
      obtain ⟨b, _, e1, e2, e3, _⟩ := r.own j ds hi
      rw [hs] at e1; cases e1
      exact ⟨a, ys, hs, ha, e3, BJ, by rw [em]; exact h⟩
    · rw [List.getElem?_set_ne (Ne.symm hj)] at q
      obtain ⟨b, zs, e1, e2, e3, e4, e5⟩ := r.own j ks q
      have nb : b ≠ a := fun z => by subst z; exact hj (r.inj j i ks ds b q hi e1 hs)
      exact ⟨b, zs, e1, e2, e3, by rw [Bc nb]; exact e4, by rw [em]; exact e5⟩
  · have back : ∀ (m : Nat) ks, (ρ.set i (some (.own es)))[m]? = some (some (.own ks)) → ∃ ks', ρ[m]? = some (some (.own ks')) := fun m ks q => by
      by_cases hm : m = i
      · subst hm; exact ⟨ds, hi⟩
      · rw [List.getElem?_set_ne (Ne.symm hm)] at q; exact ⟨ks, q⟩
    obtain ⟨_, q1⟩ := back j es' h1
    obtain ⟨_, q2⟩ := back k es'' h2
    exact r.inj j k _ _ b q1 q2 h3 h4
theorem Rep.freeze (r : Rep K B F O H σ ρ) {i : Nat} {ds : List Dt} (hi : ρ[i]? = some (some (.own ds))) : ∃ O', Rep K B F O' H σ (ρ.set i (some (.is (.lst ds)))) := by
  obtain ⟨a, xs, h1, h2, h3, h4, h5⟩ := r.own i ds hi
  have hk : i < ρ.length := (List.getElem?_eq_some_iff.mp hi).1
  have sub : ∀ b ∈ F ++ O.filter (fun b => decide (b ≠ a)), b ∈ F ++ O := fun b hb => by
    rcases List.mem_append.mp hb with hb | hb
    · exact List.mem_append_left _ hb
    · exact List.mem_append_right _ (List.mem_filter.mp hb).1
  have na : a ∉ F ++ O.filter (fun b => decide (b ≠ a)) := fun z => by
    rcases List.mem_append.mp z with z | z
    · exact h3 z
    · exact of_decide_eq_true (List.mem_filter.mp z).2 rfl
  refine ⟨O.filter fun b => decide (b ≠ a), by simpa using r.len, r.base, fun b hb => r.fr b (List.mem_filter.mp hb).1, fun b hb => r.th b (sub b hb), fun j d q => ?_, fun j es q => ?_, fun j k es es' b q1 q2 q3 q4 => ?_⟩
  · by_cases hj : j = i
    · subst hj
      rw [List.getElem?_set_self hk] at q; cases q
      exact ⟨.ref a, h1, Kg ⟨a, xs, rfl, (by rw [Az na]; exact h4), h5.mono (Gs sub)⟩⟩
    · rw [List.getElem?_set_ne (Ne.symm hj)] at q
      obtain ⟨v, e1, e2⟩ := r.is j d q
      exact ⟨v, e1, e2.mono (Gs sub)⟩
  · have hj : j ≠ i := fun z => by subst z; rw [List.getElem?_set_self hk] at q; cases q
    rw [List.getElem?_set_ne (Ne.symm hj)] at q
    obtain ⟨b, ys, e1, e2, e3, e4, e5⟩ := r.own j es q
    have nb : b ≠ a := fun z => by subst z; exact hj (r.inj j i es ds b q hi e1 h1)
    exact ⟨b, ys, e1, List.mem_filter.mpr ⟨e2, decide_eq_true nb⟩, e3, e4, e5.mono (Gs sub)⟩
  · have nj : ∀ (m : Nat) ks, (ρ.set i (some (.is (.lst ds))))[m]? = some (some (.own ks)) → ρ[m]? = some (some (.own ks)) := fun m ks q => by
      have hm : m ≠ i := fun z => by subst z; rw [List.getElem?_set_self hk] at q; cases q
      rw [List.getElem?_set_ne (Ne.symm hm)] at q; exact q
    exact r.inj j k es es' b (nj j es q1) (nj k es' q2) q3 q4
end
section
variable {X : Cx} {a b c e : Expr} {es : List Expr} {st : Stmt} {ta tb te : DTE} {tl : DTA} {t : DTS} {pos : Pos}
def Ae7 (i : Nat) (tl : DTA) : DTS := fun D ρ => tl ρ fun ds => ds.length ≤ sizeLine ∧ D.nx (ρ.set i (some (.own ds)))
theorem YM (i : Nat) {x : Str} {pos' lp : Pos} (hN : X.N.Nodup) (ha : DA X es tl) (hi : X.N[i]? = some x := by rfl) (hx : Loc X.env.scope x := by first | exact Or.inl rfl | exact Or.inr rfl) (hs : swapsWith (.List es lp) (some (.Name x pos')) pos.line X.env = pure false := by rfl)
    (hf : X.fn x = true ∨ X.env.scope.names.lookup x = some .local := by first | exact .inl rfl | exact .inr rfl | assumption) : DS X (.Assign [.Name x pos'] (.List es lp) pos) (Ae7 i tl) where
  mono := fun hd h => ha.mono (fun ds ⟨h1, h2⟩ => ⟨h1, hd.nx _ h2⟩) h
  ps := (YT hN hi hx (ZP ha.pa) hs hf).imp fun D σ H ⟨B, F, O, ρ, R, h⟩ => ⟨B, F, O, ρ, R, ha.mono (fun ds ⟨h1, h2⟩ vs H1 s1 r1 => ⟨by rw [r1.len]; exact h1, fun p hp => h2 (p :: O) _ _ ((R.same s1).newOwn i hp r1)⟩) h⟩
def ownAt (ρ : Cd) (j : Nat) (k : List Dt → Prop) : Prop := match ρ[j]? with
  | some (some (.own ds)) => k ds
  | _ => False
theorem ownAt.mono {ρ : Cd} {j : Nat} {k k' : List Dt → Prop} (hk : ∀ ds, k ds → k' ds) (h : ownAt ρ j k) : ownAt ρ j k' := by
  unfold ownAt at h ⊢
  split at h
  · exact hk _ h
  · exact h.elim
theorem ownAt.get {ρ : Cd} {j : Nat} {k : List Dt → Prop} (h : ownAt ρ j k) : ∃ ds, ρ[j]? = some (some (.own ds)) ∧ k ds := by
  unfold ownAt at h
  split at h
  · rename_i ds e; exact ⟨ds, e, h⟩
  · exact h.elim
def Ak5 (j : Nat) (tb : DTE) : DTE := fun ρ Q => ownAt ρ j fun ds => tb ρ fun k => match k with
  | .int i => match ixL i ds with
    | some v => Q v
    | none => False
  | _ => False
def Ahc (j : Nat) (te tb : DTE) : DTS := fun D ρ => te ρ fun d => ownAt ρ j fun ds => tb ρ fun k => match k with
  | .int i => (0 ≤ i ∧ i < ds.length) ∧ D.nx (ρ.set j (some (.own (ds.set i.toNat d))))
  | _ => False
def AcI (j : Nat) (te : DTE) : DTS := fun D ρ => ownAt ρ j fun ds => te ρ fun d => ds.length < sizeLine ∧ D.nx (ρ.set j (some (.own (ds ++ [d]))))
theorem Va (j : Nat) {x : Str} {px ap cp : Pos} (he : DE X e te) (hN : X.N[j]? = some x := by rfl) (hv : Vis X.env.scope x := by first | exact Or.inl rfl | exact Or.inr (Or.inl rfl) | exact Or.inr (Or.inr rfl)) (hd : (x == ("__debug__" : Str)) = false := by decide)
    (hcd : (x == ("__classdict__" : Str)) = false := by decide) (hbase : attributeBase (.Name x px) "append" X.env (eval (.Name x px) X.env) = eval (.Name x px) X.env := by rfl)
    (hfew : ((backTo cp (starEach [e] X.env)).all (fun x => !x.1) && (backToKw cp (keywordEach [] X.env)).all (fun x => x.1.isSome) && decide ([e].length + ([] : List Keyword).length + (if ([] : List Keyword).isEmpty then 0 else 1) < 30)) = true := by rfl)
    (hline : (ap.endLine == cp.line) = true := by rfl) (hst : starEach [e] X.env = (false, eval e X.env) :: starEach [] X.env := by rfl) (hplain : (backTo cp (starEach [] X.env)).any (·.1) = false := by rfl)
    (hs : swapsWith (.Call (.Attribute (.Name x px) "append" ap) [e] [] cp) none pos.line X.env = pure false := by rfl) : DS X (.Expr (.Call (.Attribute (.Name x px) "append" ap) [e] [] cp) pos) (AcI j te) where
  mono := fun hd h => h.mono fun ds h => he.mono (fun d h => ⟨h.1, hd.nx _ h.2⟩) h
  ps := (Rx (Aho PySem.F.plainAttrs_list PySem.F.slot_list_append PySem.F.type_list_append Ld (K7 hN hv hd hcd) (KZ he.pe Vq hst) hbase hfew hline hst hplain) hs).imp fun D σ H ⟨B, F, O, ρ, R, h⟩ => by
    obtain ⟨ds, e1, h⟩ := h.get
    obtain ⟨a, xs, h1, h2, h3, h4, h5⟩ := R.own j ds e1
    refine ⟨_, h1, .inl ⟨rfl, _, SqL.of h4⟩, B, F, O, ρ, R, he.mono (fun d h v H1 s1 r1 => ?_) h⟩
    exact ⟨a, xs, v, rfl, rfl, s1 _ _ h4, by rw [h5.len]; exact h.1, h.2 O σ _ ((R.same s1).putOwn e1 h1 h2 (s1 _ _ h4) ((h5.mono s1.mask).append (.cons r1 .nil)))⟩
def Afl (j : Nat) (t : DTS) : DTS := fun D ρ => ownAt ρ j fun ds => t D (ρ.set j (some (.is (.lst ds))))
theorem Yl (j : Nat) (h : DS X st t) : DS X st (Afl j t) where
  mono := fun hd z => z.mono fun ds z => h.mono hd z
  ps := h.ps.imp fun D σ H ⟨B, F, O, ρ, R, z⟩ => by
    obtain ⟨ds, e1, z⟩ := z.get
    obtain ⟨O', R'⟩ := R.freeze e1
    exact ⟨B, F, O', _, R', z⟩
def Aih (j : Nat) : DTE := fun ρ Q => ownAt ρ j fun ds => Q (.int ds.length)
def AfW : D2 := fun a b Q => match a with
  | .tup xs => match b with
    | .tup ys => (xs ≠ [] ∧ xs.length + ys.length ≤ sizeLine) ∧ Q (.tup (xs ++ ys))
    | _ => False
  | _ => False
end
end L2
namespace L2
open PySem PySem.Spec PyProof.Rows
section chain3
variable {X : Cx} {a b c e : Expr} {ta tb tc te : TE} {pos : Pos}
theorem Xd {op op' op2 : CmpOp} {r r' r2 : R2} (ho : OpR X (compareOp op) r) (ho' : OpR X (compareOp op') r') (ho2 : OpR X (compareOp op2) r2) (ha : PE X a ta) (hb : PE X b tb) (hc : PE X c tc) (he : PE X e te)
    (hm : lastMarks [op, op', op2] [b, c, e] = false := by with_unfolding_all rfl) : PT X (.Compare a [op, op', op2] [b, c, e] pos) (fun σ H Q => ta σ H fun x H1 => tb σ H1 fun y H2 => r x y H2 fun z H3 => ∃ k, z = .bl k ∧
      (if k = true then tc σ H3 fun w' H4 => r' y w' H4 fun z H5 => ∃ k, z = .bl k ∧ (if k = true then te σ H5 fun y' H6 => r2 w' y' H6 fun z H7 => ∃ k, z = .bl k ∧ Q k H7 else Q false H5) else Q false H3)) := by
  intro pins s σ H Q I h
  refine isTrue_chain (thn (ha pins s σ H _ I h) fun v s1 ⟨x, H1, I1, r1, q1⟩ => test_link (thn (hb pins s1 σ H1 _ I1 q1) fun u s2 ⟨y, H2, I2, r2, q2⟩ =>
    thn (ho pins s2 σ H2 x y v u _ I2 r1 r2 q2) fun d s3 ⟨z, H3, I3, r3, k, e, q3⟩ => ?_)) hm
  subst e
  cases r3
  refine wpAny_truthy_bool ?_
  cases k with
  | false => exact ite_ff ⟨H3, I3, q3⟩
  | true =>
    refine ite_tt (test_link (thn (hc pins s3 σ H3 _ I3 q3) fun w' s4 ⟨z', H4, I4, r4, q4⟩ => thn (ho' pins s4 σ H4 y z' u w' _ I4 r2 r4 q4) fun d' s5 ⟨z2, H5, I5, r5, k2, e2, q5⟩ => ?_))
    subst e2
    cases r5
    refine wpAny_truthy_bool ?_
    cases k2 with
    | false => exact ite_ff ⟨H5, I5, q5⟩
    | true =>
      refine ite_tt (test_last (thn (he pins s5 σ H5 _ I5 q5) fun w2 s6 ⟨z3, H6, I6, r6, q6⟩ => thn (ho2 pins s6 σ H6 z' z3 w' w2 _ I6 r4 r6 q6) fun d' s7 ⟨z4, H7, I7, r7, k3, e3, q7⟩ => ?_))
      subst e3
      cases r7
      exact wpAny_truthy_bool ⟨H7, I7, q7⟩
end chain3
def WD (t t' t2 : D2) (ta tb tc te : DTE) : DTT := fun ρ Q => ta ρ fun a => tb ρ fun b => t a b fun z => match z with
  | .bl k => if k = true then tc ρ fun c => t' b c fun z => match z with
    | .bl k => if k = true then te ρ fun e => t2 c e fun z => match z with
      | .bl k => Q k
      | _ => False
      else Q false
    | _ => False
    else Q false
  | _ => False
section
variable {X : Cx} {a b c e : Expr} {ta tb tc te : DTE} {pos : Pos}
theorem Lh {op op' op2 : CmpOp} {r r' r2 : R2} {t t' t2 : D2} (ho : OpR X (compareOp op) r) (ho' : OpR X (compareOp op') r') (ho2 : OpR X (compareOp op2) r2) (S : Ik X.K r t) (S' : Ik X.K r' t') (S2 : Ik X.K r2 t2) (ha : DE X a ta) (hb : DE X b tb) (hc : DE X c tc) (he : DE X e te)
    (hm : lastMarks [op, op', op2] [b, c, e] = false := by with_unfolding_all rfl) : DT X (.Compare a [op, op', op2] [b, c, e] pos) (WD t t' t2 ta tb tc te) where
  mono := fun hq h => ha.mono (fun _ h => hb.mono (fun _ h => S.mono (fun z h => by
    split at h
    · rename_i k
      cases k with
      | true =>
        refine hc.mono (fun _ h => S'.mono (fun z h => ?_) h) h
        split at h
        · rename_i k
          cases k with
          | true =>
            refine he.mono (fun _ h => S2.mono (fun z h => ?_) h) h
            split at h
            · exact hq _ h
            · exact h.elim
          | false => exact hq _ h
        · exact h.elim
      | false => exact hq _ h
    · exact h.elim) h) h) h
  pt := (Xd ho ho' ho2 ha.pe hb.pe hc.pe he.pe hm).imp fun σ H Q ⟨B, F, O, ρ, R, h⟩ => by
    refine ⟨B, F, O, ρ, R, ha.mono (fun a h v H1 s1 r1 => ⟨B, F, O, ρ, R.same s1, hb.mono (fun b h u H2 s2 r2 => ?_) h⟩) h⟩
    refine S.ok _ H2 a b v u _ ((R.same s1).same s2).th (r1.mono s2.mask) r2 (S.mono (fun z h w H3 s3 r3 => ?_) h)
    split at h
    · rename_i k
      refine ⟨k, Dz.mp r3, ?_⟩
      have s123 := (s1.trans s2).trans s3
      cases k with
      | false => exact h H3 s123
      | true =>
        refine ⟨B, F, O, ρ, R.same s123, hc.mono (fun c h y H4 s4 r4 => ?_) h⟩
        refine S'.ok _ H4 b c u y _ ((R.same s123).same s4).th ((r2.mono s3.mask).mono s4.mask) r4 (S'.mono (fun z h w H5 s5 r5 => ?_) h)
        split at h
        · rename_i k
          refine ⟨k, Dz.mp r5, ?_⟩
          have s5' := (s123.trans s4).trans s5
          cases k with
          | false => exact h H5 s5'
          | true =>
            refine ⟨B, F, O, ρ, R.same s5', he.mono (fun e h y2 H6 s6 r6 => ?_) h⟩
            refine S2.ok _ H6 c e y y2 _ ((R.same s5').same s6).th ((r4.mono s5.mask).mono s6.mask) r6 (S2.mono (fun z h w H7 s7 r7 => ?_) h)
            split at h
            · exact ⟨_, Dz.mp r7, h H7 ((s5'.trans s6).trans s7)⟩
            · exact h.elim
        · exact h.elim
    · exact h.elim
end
end L2
namespace L2
open PySem PySem.Spec PyProof.Rows PySem.W
end L2
namespace L2
open PySem PySem.Spec PyProof.Rows
variable {X : Cx} {a b : Expr} {ta tb : DTE} {pos : Pos}
theorem Ry {K : PySem.W.Frag} {H : Hp} : ∀ {ns : List Int} {xs : List V}, RpL K H (ns.map Dt.int) xs → xs = ns.map V.int
  | [], _, h => by
    obtain rfl := BZ.mp h
    rfl
  | n :: ns, _, h => by
    obtain ⟨v, r, rfl, r2, r3⟩ := Ax.mp h
    rw [Bm] at r2
    subst r2
    rw [Ry r3]
    rfl
def dIn : D2 := fun a b Q => ∃ (i : Int) (ns : List Int), a = .int i ∧ b = .lst (ns.map Dt.int) ∧ Q (.bl (decide (i ∈ ns)))
def Ah0 (i : Nat) (te : DTE) : DTS := fun D ρ => match ρ[i]? with
  | some (some (.is (.int a))) => te ρ fun d => match d with
    | .int b => D.nx (ρ.set i (some (.is (.int (a + b)))))
    | _ => False
  | _ => False
def Ae6 (i j k : Nat) (ta : TA) : TS := fun D σ H => ta σ H fun vs H1 => ∃ u v w, vs = [u, v, w] ∧ D.nx (((σ.set i (some u)).set j (some v)).set k (some w)) H1
theorem AbV {i j k : Nat} {x y z : Str} {a b c : Expr} {ta : TA} {px py pz pt : Pos} {kt k2 pt2} (hc : X.calm = true) (hN : X.N.Nodup) (hi : X.N[i]? = some x) (hj : X.N[j]? = some y) (hk : X.N[k]? = some z) (hij : i ≠ j) (hik : i ≠ k) (hjk : j ≠ k)
    (hx : X.env.scope.names.lookup x = some .local) (hy : X.env.scope.names.lookup y = some .local) (hz : X.env.scope.names.lookup z = some .local) (ha : PA X [a, b, c] ta)
    (hw : swappedStores [.Tuple [.Name x px, .Name y py, .Name z pz] kt pt] (.Tuple [a, b, c] k2 pt2) X.env = pure (some [x, y, z]))
    (hs : swapsWithSole [.Tuple [.Name x px, .Name y py, .Name z pz] kt pt] (.Tuple [a, b, c] k2 pt2) pos.line X.env = pure false := by rfl) :
    PS X (.Assign [.Tuple [.Name x px, .Name y py, .Name z pz] kt pt] (.Tuple [a, b, c] k2 pt2) pos) (Ae6 i j k ta) := by
  intro pins s σ H D I h
  rw [exec_Assign_arm]
  refine wpAny_bind (wpAny_standAt ?_)
  rw [hs]
  refine wpAny_bind (wpAny_pure ?_)
  rw [if_neg (by decide)]
  refine wpAny_bind (Tuple_ (thn (ha _ pins s σ H _ I h) fun us s1 ⟨vs, H1, I1, r1, q1⟩ => ?_))
  obtain ⟨u, v, w, e1, q1⟩ := q1
  subst e1
  obtain ⟨u1, u2, u3, rfl, ru, rv, rw'⟩ : ∃ u1 u2 u3, us = [u1, u2, u3] ∧ RelV u u1 ∧ RelV v u2 ∧ RelV w u3 := by
    cases r1 with
    | cons p q =>
      cases q with
      | cons p' q' =>
        cases q' with
        | cons p'' q'' =>
          cases q''
          exact ⟨_, _, _, rfl, p, p', p''⟩
  refine wpAny_newObj_type ?_ (by show 3 ≤ sizeLine; decide)
  have I2 : Inv X pins σ H1 { s1 with heap := s1.heap.push { cls := .type "tuple", data := .seq [u1, u2, u3].toArray } } := I1.kept (t' := s1.toks) fun b o e => Heap.get?_push_of_some _ e
  rw [hw]
  refine wpAny_bind (wpAny_pure ?_)
  show wpAny (model X.prog X.w) X.A (do rule "assign.swapped-stores"; let items ← unpackItems (.ref s1.heap.objs.size) 3 none; assignInOrder [fun v => bindName X.env z v, fun v => bindName X.env y v, fun v => bindName X.env x v] items.reverse; pure Flow.next) _ _ _
  refine wpAny_bind (wpAny_rule (wpAny_bind (unpackItems_tuple (items := #[u1, u2, u3]) (I.ok.hd hc) (IsTup.new s1.heap _) fun h' hx' => ?_)))
  have I3 := I2.kept (h' := h') (t' := s1.toks) fun b o e => hx' b o (Nat.ne_of_lt (Heap.lt_size e)) e
  show wpAny _ _ (assignInOrder [fun v => bindName X.env z v, fun v => bindName X.env y v, fun v => bindName X.env x v] [u3, u2, u1] >>= fun _ => pure Flow.next) _ _ _
  refine wpAny_bind (assignInOrder_cons (wpAny_bindName (Gz I3 hN hk (.inl hz) rw' (fun s2 I4 => ?_) (.inr hz))))
  refine assignInOrder_cons (wpAny_bindName (Gz I4 hN hj (.inl hy) rv (fun s3 I5 => ?_) (.inr hy)))
  refine assignInOrder_cons (wpAny_bindName (Gz I5 hN hi (.inl hx) ru (fun s4 I6 => assignInOrder_nil (wpAny_pure ?_)) (.inr hx)))
  rw [List.set_comm (some w) (some v) (Ne.symm hjk), List.set_comm (some w) (some u) (Ne.symm hik), List.set_comm (some v) (some u) (Ne.symm hij)] at I6
  exact ⟨_, H1, I6, q1⟩
def AcL (i j k : Nat) (tl : DTA) : DTS := fun D ρ => tl ρ fun ds => match ds with
  | [d, e, f] => D.nx (((ρ.set i (some (.is d))).set j (some (.is e))).set k (some (.is f)))
  | _ => False
theorem AaP {a b c : Expr} {tl : DTA} {x y z : Str} {px py pz pt : Pos} {kt k2 pt2} (hc : X.calm = true) (hN : X.N.Nodup) (i j k : Nat) (ha : DA X [a, b, c] tl) (hi : X.N[i]? = some x := by rfl) (hj : X.N[j]? = some y := by rfl) (hk : X.N[k]? = some z := by rfl) (hij : i ≠ j := by decide) (hik : i ≠ k := by decide) (hjk : j ≠ k := by decide)
    (hx : X.env.scope.names.lookup x = some .local := by rfl) (hy : X.env.scope.names.lookup y = some .local := by rfl) (hz : X.env.scope.names.lookup z = some .local := by rfl)
    (hw : swappedStores [.Tuple [.Name x px, .Name y py, .Name z pz] kt pt] (.Tuple [a, b, c] k2 pt2) X.env = pure (some [x, y, z]) := by rfl)
    (hs : swapsWithSole [.Tuple [.Name x px, .Name y py, .Name z pz] kt pt] (.Tuple [a, b, c] k2 pt2) pos.line X.env = pure false := by rfl) :
    DS X (.Assign [.Tuple [.Name x px, .Name y py, .Name z pz] kt pt] (.Tuple [a, b, c] k2 pt2) pos) (AcL i j k tl) where
  mono := fun hd h => ha.mono (fun ds h => by
    split at h
    · exact hd.nx _ h
    · exact h.elim) h
  ps := (AbV hc hN hi hj hk hij hik hjk hx hy hz ha.pa hw hs).imp fun D σ H ⟨B, F, O, ρ, R, h⟩ => ⟨B, F, O, ρ, R, ha.mono (fun ds q vs H1 s1 r1 => by
    split at q
    · obtain ⟨v, r, rfl, r2, r3⟩ := Ax.mp r1
      obtain ⟨v', r', rfl, r4, r5⟩ := Ax.mp r3
      obtain ⟨v2, r6, rfl, r7, r8⟩ := Ax.mp r5
      obtain rfl := BZ.mp r8
      exact ⟨v, v', v2, rfl, q O _ H1 ((((R.same s1).set i r2).set j r4).set k r7)⟩
    · exact q.elim) h⟩
end L2
namespace L2
open PySem PySem.Spec PyProof.Rows PySem.SeqAt
mutual
def Dt.noL : Nat → Dt → Bool
  | _, .non => true
  | _, .bl _ => true
  | _, .int _ => true
  | _, .str _ => true
  | 0, _ => false
  | n + 1, .tup ds => Dt.noLs n ds
  | _, _ => false
def Dt.noLs : Nat → List Dt → Bool
  | _, [] => true
  | n, d :: ds => Dt.noL n d && Dt.noLs n ds
end
theorem Adm {n : Nat} {d : Dt} {r : List Dt} : Dt.noLs n (d :: r) = (Dt.noL n d && Dt.noLs n r) := by rw [Dt.noLs]
theorem AgU {n : Nat} {r : List Dt} : Dt.noL (n + 1) (.tup r) = Dt.noLs n r := by rw [Dt.noL]
def Keep (M M' : Hp) : Prop := ∀ b o, M b = some o → (∀ xs, o ≠ .lst xs) → M' b = some o
mutual
theorem Aeo {K : PySem.W.Frag} {M M' : Hp} (k : Keep M M') : ∀ (n : Nat) (d : Dt) (v : V), d.noL n = true → Rp K M d v → Rp K M' d v
  | _, .non, _, _, r => by rw [Q0] at r ⊢; exact r
  | _, .bl _, _, _, r => by rw [Dz] at r ⊢; exact r
  | _, .int _, _, _, r => by rw [Bm] at r ⊢; exact r
  | _, .str _, _, _, r => by rw [Rb] at r ⊢; exact r
  | 0, .tup _, _, h, _ => by simp [Dt.noL] at h
  | n + 1, .tup ds, _, h, r => by
    rw [AgU] at h
    obtain ⟨a, xs, e, q, r⟩ := CP.mp r
    refine CP.mpr ⟨a, xs, e, ?_, Wl k n ds xs h r⟩
    rcases q with (q | ⟨o, q⟩) | q
    · exact .inl (.inl (k _ _ q fun _ => by simp))
    · exact .inl (.inr ⟨o, k _ _ q fun _ => by simp⟩)
    · exact .inr q
  | 0, .lst _, _, h, _ => by simp [Dt.noL] at h
  | _ + 1, .lst _, _, h, _ => by simp [Dt.noL] at h
  | 0, .fn _, _, h, _ => by simp [Dt.noL] at h
  | _ + 1, .fn _, _, h, _ => by simp [Dt.noL] at h
  | 0, .exc _ _ _, _, h, _ => by simp [Dt.noL] at h
  | _ + 1, .exc _ _ _, _, h, _ => by simp [Dt.noL] at h
  | 0, .obj _ _ _, _, h, _ => by simp [Dt.noL] at h
  | _ + 1, .obj _ _ _, _, h, _ => by simp [Dt.noL] at h
theorem Wl {K : PySem.W.Frag} {M M' : Hp} (k : Keep M M') : ∀ (n : Nat) (ds : List Dt) (vs : List V), Dt.noLs n ds = true → RpL K M ds vs → RpL K M' ds vs
  | _, [], _, _, r => by rw [BZ] at r ⊢; exact r
  | n, d :: ds, _, h, r => by
    rw [Adm, Bool.and_eq_true] at h
    obtain ⟨v, w, rfl, r1, r2⟩ := Ax.mp r
    exact Ax.mpr ⟨v, w, rfl, Aeo k n d v h.1 r1, Wl k n ds w h.2 r2⟩
end
def AgK : Option HO → Bool
  | some (.lst _) => true
  | _ => false
def lists (H : Hp) (n : Nat) : List Addr := (List.range n).filter fun a => AgK (H a)
section
variable {X : Cx} {a b c e : Expr} {es : List Expr} {st : Stmt} {ta tb te : DTE} {tl : DTA} {tA : DTT} {t : DTS} {pos : Pos}
def Ady (i : Nat) (sp : DSp) (tl : DTA) : DTS := fun D ρ => tl ρ fun ds => Dt.noLs 4 ds = true ∧ sp ds fun d => ∃ ks, d = .lst ks ∧ (∃ r, Dt.tup r ∈ ks) ∧ Dt.noLs 4 ks = true ∧ D.nx (ρ.set i (some (.own ks)))
def Adw (j : Nat) (t : DTT) : DTT := fun ρ Q => ownAt ρ j fun ds => t (ρ.set j (some (.is (.lst ds)))) Q
def AdP (j : Nat) : DTE := fun ρ Q => ownAt ρ j fun ds => Q (.lst ds)
end
end L2
namespace L2
open PySem PySem.Spec PyProof.Rows PySem.W PySem.Builtin PySem.Builtin.ObjectAttr
section
variable {prog : Program} {w : World} {A : Around} {E : Value → Shared → Prop} {s : Shared} {K : PySem.W.Frag} {C U x dx : Addr} {name : Str} {v : Value}
end
section
variable {X : Cx} {pins : List (Addr × Obj)} {σ : St} {H : Hp} {s : Shared} {h' : Heap} {a dx C U f fI : Addr}
end
end L2
namespace L2
open PySem PySem.Spec PyProof.Rows PySem.SeqAt
abbrev AeM := Cd → (List Dt → Prop) → (Dt → Prop) → Prop
section
variable {X : Cx} {e : Expr} {es : List Expr} {te : Tv} {tl : DTA} {tx : AeM} {pos : Pos}
def AdQ (te : Tv) (tl : DTA) : AeM := fun ρ Q E => te ρ (fun d => tl ρ fun ds => Q (d :: ds)) E
def Ae4 (sp : DSp) (tx : AeM) : Tv := fun ρ Q E => tx ρ (fun ds => sp ds Q) E
end
end L2
namespace L2
open PySem PySem.Spec PyProof.Rows
section
variable {prog : Program} {w : World} {A : Around} {I S : Addr} {fp wr : List Addr} {n : Nat} {P : Nat → Value → Prop} {St : Nat → Heap → Prop} {bt : Nat → Nat → Bool} {R : Result → Shared → Prop}
def KC (wr : List Addr) (S : Addr) (h h' : Heap) : Prop := ∀ b o, b ∉ wr → b ≠ S → h.get? b = some o → h'.get? b = some o
def RG (prog : Program) (w : World) (A : Around) (wr : List Addr) (S : Addr) (h : Heap) (P : Nat → Value → Prop) (bt : Nat → Nat → Bool) : Prop :=
  ∀ (i j : Nat) (x y : Value) (s : Shared) (Q : Value → Shared → Prop) (E : Value → Shared → Prop), KC wr S h s.heap → P i x → P j y → Q (.bool (bt i j)) s → wpAny (model prog w) A (richCompare .Lt x y) Q E s
theorem Rh : (toString "min" ++ toString ".loop" : String) = "min.loop" := by decide
theorem Vj {h0 : Heap} (W : Walks prog w A.in1 I fp wr n P St) (less : RG prog w A.in1 wr S h0 P bt) (off : S ∉ fp) :
    ∀ (left at' : Nat) (s : Shared) (best : Value) (c : Nat), n = at' + 1 + left → St (at' + 1) s.heap → P (argBest bt at') best → KC wr S h0 s.heap →
      s.heap.get? S = some ⟨.type "list", none, .seq #[best, best] c, #[]⟩ →
      (∀ v h' tk, P (argBest bt (n - 1)) v → KC wr S s.heap h' → R (.ok (.ret v)) { s with heap := h', toks := tk }) →
      codeAny (model prog w) A (.builtin "min.loop" ⟨[.ref I, .none, .ref S], []⟩) R s := by
  have off' : S ∉ wr := fun z => off (W.sub _ z)
  have nm := Rh
  intro left
  induction left with
  | zero =>
    intro at' s best c hn st hb hk hS fin
    have e : at' + 1 = n := by omega
    refine codeAny_builtin F.entry_min_loop ?_; rw [Around.under_plainId F.plain_min_loop _]; show wpAny _ A.in1 (seqItems? (.ref S) >>= _) _ _ s
    refine wpAny_bind (wpAny_seqItems hS rfl ?_); show wpAny _ A.in1 (tryCatch (pyNext (.ref I)) _ >>= _) _ _ s
    refine wpAny_bind (wpAny_tryCatch (W.done s _ _ (e ▸ st) fun h1 tk k1 => ?_))
    show wpAny _ A.in1 (updateSeq S (fun _ => #[]) >>= _) _ _ _; refine wpAny_bind (wpAny_updateSeq (k1 S _ off' hS) rfl (wpAny_bind (wpAny_letGo (wpAny_pure ?_))))
    exact fin best _ tk (by rw [← e]; exact hb) fun b o nb ns eo => (Heap.get?_update_other _ _ (Ne.symm ns)).trans (k1 b o nb eo)
  | succ left ih =>
    intro at' s best c hn st hb hk hS fin
    refine codeAny_builtin F.entry_min_loop ?_; rw [Around.under_plainId F.plain_min_loop _]; show wpAny _ A.in1 (seqItems? (.ref S) >>= _) _ _ s
    refine wpAny_bind (wpAny_seqItems hS rfl ?_); show wpAny _ A.in1 (tryCatch (pyNext (.ref I)) _ >>= _) _ _ s
    refine wpAny_bind (wpAny_tryCatch (W.item (at' + 1) s _ _ (by omega) st fun v h1 tk hv st1 k1 => ?_))
    have hS1 := k1 S _ off' hS
    have hk1 : KC wr S h0 h1 := fun b o nb ns eo => k1 b o nb (hk b o nb ns eo)
    show wpAny _ A.in1 (tryCatch (holding [v, v] (richCompare .Lt v best >>= _)) _ >>= _) _ _ _
    refine wpAny_bind (wpAny_tryCatch (wpAny_holding (wpAny_bind (less (at' + 1) (argBest bt at') v best _ _ _ hk1 hv hb ?_))))
    refine wpAny_bind (wpAny_holding (wpAny_truthy_bool ?_)); refine wpAny_bind (wpAny_letGo (wpAny_pure ?_))
    cases hbt : bt (at' + 1) (argBest bt at') with
    | true =>
      simp only [if_true]
      refine wpAny_bind (wpAny_updateSeq hS1 rfl (wpAny_bind (wpAny_letGo ?_)))
      rw [nm]
      refine wpAny_pure ⟨plainId_quiet F.plain_min_loop _, ih (at' + 1) _ v _ (by omega) (W.frame _ _ _ st1 fun b hbf o eo => (Heap.get?_update_other _ _ (fun z : S = b => off (z ▸ hbf))).trans eo) (by simp only [argBest, hbt, if_true]; exact hv) (fun b o nb ns eo => (Heap.get?_update_other _ _ (Ne.symm ns)).trans (hk1 b o nb ns eo)) (Heap.get?_update_self _ hS1 rfl) fun v' h2 tk2 hv' k2 => ?_⟩
      exact fin v' h2 tk2 hv' fun b o nb ns eo => k2 b o nb ns ((Heap.get?_update_other _ _ (Ne.symm ns)).trans (k1 b o nb eo))
    | false =>
      simp only [Bool.false_eq_true, if_false]
      refine wpAny_bind (wpAny_letGo ?_)
      rw [nm]
      refine wpAny_pure ⟨plainId_quiet F.plain_min_loop _, ih (at' + 1) _ best c (by omega) st1 (by simp only [argBest, hbt, Bool.false_eq_true, if_false]; exact hb) hk1 hS1 fun v' h2 tk2 hv' k2 => ?_⟩
      exact fin v' h2 tk2 hv' fun b o nb ns eo => k2 b o nb ns (k1 b o nb eo)
theorem LR {s : Shared} {c : Nat} (W : Walks prog w A.in1 I fp wr n P St) (less : RG prog w A.in1 wr S s.heap P bt) (off : S ∉ fp) (n0 : 0 < n) (st : St 0 s.heap) (hS : s.heap.get? S = some ⟨.type "list", none, .seq #[] c, #[]⟩)
    (fin : ∀ v h' tk, P (argBest bt (n - 1)) v → KC wr S s.heap h' → R (.ok (.ret v)) { s with heap := h', toks := tk }) : codeAny (model prog w) A (.builtin "min.loop" ⟨[.ref I, .none, .ref S], []⟩) R s := by
  have off' : S ∉ wr := fun z => off (W.sub _ z)
  refine codeAny_builtin F.entry_min_loop ?_; rw [Around.under_plainId F.plain_min_loop _]; show wpAny _ A.in1 (seqItems? (.ref S) >>= _) _ _ s
  refine wpAny_bind (wpAny_seqItems hS rfl ?_); show wpAny _ A.in1 (tryCatch (pyNext (.ref I)) _ >>= _) _ _ s
  refine wpAny_bind (wpAny_tryCatch (W.item 0 s _ _ n0 st fun v h1 tk hv st1 k1 => ?_))
  have hS1 := k1 S _ off' hS
  show wpAny _ A.in1 (updateSeq S (fun _ => #[v, v]) >>= _) _ _ _; refine wpAny_bind (wpAny_updateSeq hS1 rfl ?_); rw [Rh]
  refine wpAny_pure ⟨plainId_quiet F.plain_min_loop _, Vj (h0 := s.heap) W less off (n - 1) 0 _ v _ (by omega) (W.frame _ _ _ st1 fun b hbf o eo => (Heap.get?_update_other _ _ (fun z : S = b => off (z ▸ hbf))).trans eo) hv (fun b o nb ns eo => (Heap.get?_update_other _ _ (Ne.symm ns)).trans (k1 b o nb eo)) (Heap.get?_update_self _ hS1 rfl) fun v' h2 tk2 hv' k2 => ?_⟩
  exact fin v' h2 tk2 hv' fun b o nb ns eo => k2 b o nb ns ((Heap.get?_update_other _ _ (Ne.symm ns)).trans (k1 b o nb eo))
theorem S6 {E : Value → Shared → Prop} {s : Shared} {x : Value} {Q : Value → Shared → Prop}
    (h : wpAny (model prog w) A.in1 (pyIter x) (fun it s2 => ∃ I fp wr n P St bt, it = .ref I ∧ Walks prog w A.in1 I fp wr n P St ∧ St 0 s2.heap ∧ (∀ b ∈ fp, b < s2.heap.objs.size) ∧ 0 < n ∧
      (∀ h1 : Heap, (∀ b o, s2.heap.get? b = some o → h1.get? b = some o) → RG prog w A.in1 wr s2.heap.objs.size h1 P bt) ∧
      ∀ v h' tk, P (argBest bt (n - 1)) v → (∀ b o, b ∉ wr → s2.heap.get? b = some o → h'.get? b = some o) → Q v { s2 with heap := h', toks := tk }) E s) :
    wpAny (model prog w) A (call (.builtin "min") [x]) Q E s := by
  refine call_function_tree F.kind_min F.plain_min F.entry_min (F.args_min1 _) ?_; show wpAny _ A.in1 (Builtin.Builtins.bindParams "min" ["key", "default"] 0 ⟨[], []⟩ >>= _) _ _ s
  refine wpAny_bind (wpAny_of_eq (show Builtin.Builtins.bindParams "min" ["key", "default"] 0 ⟨[], []⟩ = pure [none, none] from rfl) ?_); refine wpAny_bind (wpAny_pure ?_)
  refine wpAny_bind (wpAny_mono h (fun it s2 h2 => ?_) fun _ _ z => z); obtain ⟨I, fp, wr, n, P, St, bt, rfl, W, st, low, n0, less, fin⟩ := h2
  refine wpAny_bind (wpAny_newObj_type ?_); rw [Rh]
  have off : s2.heap.objs.size ∉ fp := fun z => Nat.lt_irrefl _ (low _ z)
  refine wpAny_pure ⟨plainId_quiet F.plain_min_loop _, LR W (less _ fun b o e => Heap.get?_push_of_some _ e) off n0 (W.frame _ _ _ st fun b _ o e => Heap.get?_push_of_some _ e) (Heap.get?_push_size _ rfl) fun v h' tk hv k => ?_⟩
  exact fin v h' tk hv fun b o nb e => k b o nb (Nat.ne_of_lt (Heap.lt_size e)) (Heap.get?_push_of_some _ e)
end
variable {X : Cx}
theorem Vals.at {xs : List V} {us : List Value} (r : Vals xs us) : ∀ (i : Nat) (u : Value), us[i]? = some u → ∃ x, xs[i]? = some x ∧ RelV x u := by
  induction r with
  | nil => intro i u h; cases h
  | cons h t ih =>
    intro i u e
    cases i with
    | zero => exact ⟨_, rfl, by cases e; exact h⟩
    | succ i => exact ih i u e
abbrev KH (ns : List Int) : Dt := .tup (ns.map Dt.int)
end L2
namespace L2
open PySem PySem.Spec PyProof.Rows
variable {X : Cx}
theorem Wx : ∀ (ns ms : List Int), Dt.eqs (ns.map Dt.int) (ms.map Dt.int) = decide (ns = ms)
  | [], [] => by simp [Dt.eqs]
  | [], m :: ms => by simp [Dt.eqs]
  | n :: ns, [] => by simp [Dt.eqs]
  | n :: ns, m :: ms => by
    rw [List.map_cons, List.map_cons, Dt.eqs, Wx ns ms, Ti, ← Bool.decide_and]
    exact decide_eq_decide.mpr (by simp)
theorem Uk : ∀ (ns : List Int), Dt.flats 7 (ns.map Dt.int) = true
  | [] => rfl
  | n :: ns => by rw [List.map_cons, Dt.flats, Uk ns]; rfl
theorem AeX {A : Around} (h : A.units + 64 < cLine) : A.in1.units < cLine := by show A.units + 1 < cLine; omega
end L2
namespace L2
open PySem PySem.Spec PyProof.Rows PySem.SeqAt
section
variable {X : Cx} {a b c e o : Expr} {es : List Expr} {ta tb te : DTE} {tl : DTA} {pos apos : Pos}
def Acz (K : PySem.W.Frag) (te : DTE) (f : Str) : DTE := fun ρ Q => te ρ fun d => match d with
  | .obj c ns ds => PB K c f ∧ ∃ v, (ns.zip ds).lookup f = some v ∧ Q v
  | _ => False
theorem MF {f : Str} (h : DE X e te) (hb : attributeBase e f X.env (eval e X.env) = eval e X.env := by rfl) : DE X (.Attribute e f pos) (Acz X.K te f) where
  mono := fun hq z => h.mono (fun d z => by
    split at z
    · exact let ⟨a, v, b, c⟩ := z; ⟨a, v, b, hq _ c⟩
    · exact z.elim) z
  pe := (AeT h.pe hb).imp fun σ H Q ⟨B, F, O, ρ, R, z⟩ => ⟨B, F, O, ρ, R, h.mono (fun d z v H1 s1 r1 => by
    split at z
    · obtain ⟨na, y, ly, q⟩ := z
      obtain ⟨a, C, dx, vs, rfl, h1, cl, h2, _, h5⟩ := Vm.mp r1
      obtain ⟨v, lv, rv⟩ := zip_get h5 ly
      exact ⟨a, C, dx, _, v, rfl, Bs _ _ h2, cl, na C h1, lv, q v H1 s1 rv⟩
    · exact z.elim) z⟩
structure IsC (K : PySem.W.Frag) (c : Str) : Prop where
  ha : ∀ C, PySem.W.nsIn K mainGlobals c = some (some (.ref C)) → PySem.W.findIn K (.ref C) "__class__" = some (some (.builtin "object.__class__"))
  hn : PySem.W.specialIn K (.builtin "object.__class__") "__get__" = some (some (.builtin "getset_descriptor.__get__"))
  ht : PySem.W.takesIn K (.builtin "object.__class__") = some true
  hm : ∀ C, PySem.W.nsIn K mainGlobals c = some (some (.ref C)) → PySem.W.mroIn K C (.type "object") = some true
def Aka (K : PySem.W.Frag) : DL := fun ds Q => match ds with
  | [.obj c _ _, .fn A] => ∃ v, IsC K c ∧ Ah3 K c A v ∧ Q (.bl v)
  | _ => False
def V4 (K : PySem.W.Frag) (c m : Str) (g : Addr) : Prop := ∀ C, PySem.W.nsIn K mainGlobals c = some (some (.ref C)) → Meth K C m g
def YB (K : PySem.W.Frag) (m : Str) (g : Addr) (sp : Sp) (ta : TE) (t : TA) : TE := fun σ H Q => ta σ H fun x H1 => ∃ a C dx fs, x = .ref a ∧ H1 a = some (.ins C dx fs) ∧ Cls K C ∧ Meth K C m g ∧ fs.lookup m = none ∧ t σ H1 fun vs H2 => sp (x :: vs) H2 Q E0
theorem Xk {pl : Sem Bool} {k : Nat} {m : Str} {g : Addr} {fd : FuncData} {ps : List Str} {sp : Sp} {ta : TE} (he : PE X o ta) (F : GP X.prog X.w X.K X.mg X.base CX0 k g fd ps sp) (hr : DP k X.A) (hb : Binds X.K fd ps [])
    (ht : eval (.Call (.Attribute o m apos) [] [] pos) X.env = (do
      let ov ← eval o X.env
      standAt apos.atName
      let (f, first) ← holding [ov] (getMethod ov m pl)
      callWith pos f first (backTo pos (starEach [] X.env)) (backToKw pos (keywordEach [] X.env))) := by rfl) :
    PE X (.Call (.Attribute o m apos) [] [] pos) (YB X.K m g sp ta Agi) := by
  intro pins s σ H Q I h
  refine PySem.W.methodCall_KW (pl := pl) (thn (he pins s σ H _ I h) fun u s1 ⟨x, H1, I1, rx, a, C, dx, fs, ex, ea, c, hm, l, q⟩ => ?_) ht
  subst ex
  obtain rfl : u = Value.ref a := rx
  refine Uo I1 ea c hm l ?_
  exact PySem.W.callWith_K0 (first := [.ref a]) I1.kIn hm.kp (U6 (us := [.ref a]) (vs := [.ref a]) F hr hb .nil V7 I1 (.cons rfl .nil) q)
def M5 (K : PySem.W.Frag) (m : Str) (g : Addr) (sp : DSp) (te : DTE) (tl : DTA) : DTE := fun ρ Q => te ρ fun d => match d with
  | .obj c ns ds => V4 K c m g ∧ m ∉ ns ∧ tl ρ fun es => sp (.obj c ns ds :: es) Q
  | _ => False
theorem SX {f : Str} : ∀ {ns : List Str} {vs : List V}, f ∉ ns → (ns.zip vs).lookup f = none
  | [], _, _ => by simp
  | _ :: _, [], _ => by simp
  | n :: ns, v :: vs, h => by
    have hb : (f == n) = false := beq_eq_false_iff_ne.mpr fun e => h (by rw [e]; exact List.mem_cons_self)
    rw [List.zip_cons_cons]
    simp only [List.lookup, hb]
    exact SX fun z => h (List.mem_cons_of_mem _ z)
theorem Z4 {m : Str} {g : Addr} {sp : DSp} (M : G3 sp) (h : DE X o te) (ha : DA X es tl) (σ : St) (H : Hp) (Q : VK) (z : lE X.K (M5 X.K m g sp te tl) σ H Q) : YB X.K m g (lSp X.K sp) (lE X.K te) (lA X.K tl) σ H Q := by
  obtain ⟨B, F, O, ρ, R, z⟩ := z
  refine ⟨B, F, O, ρ, R, h.mono (fun d z v H1 s1 r1 => ?_) z⟩
  split at z
  · obtain ⟨mo, nm, z⟩ := z
    obtain ⟨a, C, dx, vs, e0, h1, cl, h2, _, h5⟩ := Vm.mp r1
    subst e0
    refine ⟨a, C, dx, _, rfl, Bs _ _ h2, cl, mo C h1, SX nm, B, F, O, ρ, R.same s1, ha.mono (fun es z ws H2 s2 r2 => ?_) z⟩
    exact ⟨F ++ O, _, ((R.same s1).same s2).th, RpL.cons (r1.mono s2.mask) r2, M _ _ _ (fun d q w H3 s3 r3 => q w H3 ((s1.trans s2).trans s3) r3) z⟩
  · exact z.elim
theorem Xn {m : Str} {g : Addr} {sp : DSp} (M : G3 sp) (h : DE X o te) (ha : DA X es tl) {ρ : Cd} {Q Q' : Dt → Prop} (hq : ∀ d, Q d → Q' d) (z : M5 X.K m g sp te tl ρ Q) : M5 X.K m g sp te tl ρ Q' := h.mono (fun d z => by
  split at z
  · exact ⟨z.1, z.2.1, ha.mono (fun es z => M _ _ _ hq z) z.2.2⟩
  · exact z.elim) z
theorem Zr {pl : Sem Bool} {k : Nat} {m : Str} {g : Addr} {fd : FuncData} {ps : List Str} {sp : DSp} (M : G3 sp) (F : GP X.prog X.w X.K X.mg X.base CX0 k g fd ps (lSp X.K sp)) (hb : Binds X.K fd ps []) (hr : DP k X.A) (h : DE X o te)
    (ht : eval (.Call (.Attribute o m apos) [] [] pos) X.env = (do
      let ov ← eval o X.env
      standAt apos.atName
      let (f, first) ← holding [ov] (getMethod ov m pl)
      callWith pos f first (backTo pos (starEach [] X.env)) (backToKw pos (keywordEach [] X.env))) := by rfl) : DE X (.Call (.Attribute o m apos) [] [] pos) (M5 X.K m g sp te Abr) where
  mono := Xn (X := X) M h Af
  pe := (Xk h.pe F hr hb ht).imp fun σ H Q z => by
    have := Z4 M h Af σ H Q z
    obtain ⟨B, F, O, ρ, R, z⟩ := this
    refine ⟨B, F, O, ρ, R, h.mono (fun d z v H1 s1 r1 => ?_) z⟩
    obtain ⟨a, C, dx, fs, e1, e2, e3, e4, e5, z⟩ := z v H1 s1 r1
    obtain ⟨B', F', O', ρ', R', z⟩ := z
    exact ⟨a, C, dx, fs, e1, e2, e3, e4, e5, z [] H1 (Same.refl H1) RpL.nil⟩
abbrev DIn := List Dt → (List Dt → Prop) → Prop
def Yr (K : PySem.W.Frag) (ns : List Str) (sp : DIn) : Sp := fun vs H Q _ => ∃ x C dx ys F ds, vs = .ref x :: ys ∧ H x = some (.ins C dx []) ∧ Cls K C ∧ (∀ f ∈ ns, G4 K C f) ∧ x ∈ F ∧ (∀ a ∈ F, H a ≠ none) ∧ RpL K (mask F H) ds ys ∧
  sp ds fun fds => ∀ ws H', Same (mask [x] H) H' → H' x = some (.ins C dx (ns.zip ws)) → ns.length = fds.length → RpL K (mask F H') fds ws → Q .non H'
def Ri (sp : DIn) : Prop := ∀ ds Q Q', (∀ d, Q d → Q' d) → sp ds Q → sp ds Q'
structure MkC (K : PySem.W.Frag) (mg : Str → Option Value) (c : Str) (ns : List Str) (C f : Addr) : Prop where
  mm : Mk K C f
  at_ : PySem.W.nsIn K mainGlobals c = some (some (.ref C))
  gl : mg c = some (.ref C)
  cl : Cls K C
  no : ∀ f ∈ ns, G4 K C f
def Yy (c : Str) (ns : List Str) (sp : DIn) (tl : DTA) : DTE := fun ρ Q => tl ρ fun ds => sp ds fun fds => Q (.obj c ns fds)
theorem Ab6 {k : Nat} {c : Str} {ns ps : List Str} {C f : Addr} {fd : FuncData} {sp : DIn} {p : Pos} (m : Ri sp) (M : MkC X.K X.mg c ns C f) (G : GP X.prog X.w X.K X.mg X.base CX0 k f fd ps (Yr X.K ns sp)) (hb : Binds X.K fd ps []) (hr : DP (k + 1) X.A) (hg : Gl X c) (ha : DA X (e :: es) tl)
    (hdb : (c == ("__debug__" : Str)) = false := by decide) (he : starEach (e :: es) X.env = (false, eval e X.env) :: starEach es X.env := by rfl) (hpl : (backTo pos (starEach es X.env)).any (·.1) = false := by rfl) : DE X (.Call (.Name c p) (e :: es) [] pos) (Yy c ns sp tl) where
  mono := fun hq z => ha.mono (fun ds z => m _ _ _ (fun fds q => hq _ q) z) z
  pe := (AbU M.mm G hr hg M.gl hb .nil V7 ha.pa hdb he hpl).imp fun σ H Q ⟨B, F, O, ρ, R, z⟩ => ⟨B, F, O, ρ, R, ha.mono (fun ds z vs H1 s1 r1 x dx nx ndx ne => by
    have R1 := R.same s1
    have ox : x ∉ F ++ O := fun w => R1.th x w nx
    have s2 : Same H1 (upd (upd H1 dx (.own x)) x (.ins C dx [])) := fun b o q => by rw [Bc (Bu q nx), Bc (Bu q ndx)]; exact q
    refine ⟨x, C, dx, vs, x :: (F ++ O), ds, by rw [List.append_nil], BJ, M.cl, M.no, List.mem_cons_self, fun b hb' => ?_, ?_, m _ _ _ (fun fds q ws H' s' h1 h2 h3 => ⟨rfl, ?_⟩) z⟩
    · rcases List.mem_cons.mp hb' with e | w
      · rw [e, BJ]; simp
      · intro q
        cases e : H1 b with
        | none => exact R1.th b w e
        | some u => rw [s2 _ _ e] at q; cases q
    · refine r1.mono fun b o q => ?_
      obtain ⟨n1, q⟩ := Cp q
      rw [Az fun w => (List.mem_cons.mp w).elim (fun e => by rw [e, nx] at q; cases q) n1]
      exact s2 _ _ q
    · have s3 : Same H1 H' := fun b o q => s' b o (by rw [Az fun w => by rw [List.mem_singleton.mp w, nx] at q; cases q]; exact s2 _ _ q)
      refine q (.ref x) H' (s1.trans s3) (Vm.mpr ⟨x, C, dx, ws, rfl, M.at_, M.cl, by rw [Az ox]; exact h1, h2, h3.mono (Gs fun b hb' => List.mem_cons_of_mem _ hb')⟩)) z⟩
end
end L2
namespace L2
open PySem PySem.Spec PyProof.Rows PySem.SeqAt
section
variable {K : PySem.W.Frag} {B : Hp} {F O : List Addr} {H : Hp} {σ : St} {ρ : Cd} {x : Addr}
theorem Rep.updF (r : Rep K B F O H σ ρ) (hx : x ∈ F) (hB : B x = none) (o : HO) : Rep K B F O (upd H x o) σ ρ := by
  have em : mask (F ++ O) (upd H x o) = mask (F ++ O) H := JT (List.mem_append_left _ hx)
  refine ⟨r.len, fun b u e => ?_, r.fr, fun b hb e => ?_, fun j d q => ?_, fun j ks q => ?_, r.inj⟩
  · rw [Bc fun z => by rw [z, hB] at e; cases e]; exact r.base b u e
  · by_cases z : b = x
    · rw [z, BJ] at e; cases e
    · rw [Bc z] at e; exact r.th b hb e
  · rw [em]; exact r.is j d q
  · obtain ⟨b, zs, e1, e2, e3, e4, e5⟩ := r.own j ks q
    exact ⟨b, zs, e1, e2, e3, by rw [Bc fun z => e3 (by rw [z]; exact hx)]; exact e4, by rw [em]; exact e5⟩
def Ia (N : List Str) (ds : List Dt) : Cd := none :: (ds.map (fun d => some (.is d)) ++ List.replicate (N.length - (ds.length + 1)) none)
theorem J5 {N : List Str} {ds : List Dt} {ys : List V} (hx : x ∈ F) (hF : ∀ a ∈ F, H a ≠ none) (r : RpL K (mask F H) ds ys) : Rep K (mask [x] H) F [] H (start N (.ref x :: ys)) (Ia N ds) := by
  have hl := r.len
  have get : ∀ (i : Nat) (e : En), (Ia N ds)[i]? = some (some e) → ∃ j d, i = j + 1 ∧ ds[j]? = some d ∧ e = .is d := fun i e q => by
    cases i with
    | zero => cases q
    | succ j =>
      have q : (ds.map (fun d => some (En.is d)) ++ List.replicate (N.length - (ds.length + 1)) none)[j]? = some (some e) := q
      by_cases hi : j < ds.length
      · rw [List.getElem?_append_left (by simpa using hi), List.getElem?_map] at q
        cases w : ds[j]? with
        | none => rw [w] at q; cases q
        | some d => rw [w] at q; cases q; exact ⟨j, d, rfl, w, rfl⟩
      · rw [List.getElem?_append_right (by simpa using hi), List.getElem?_replicate] at q
        split at q <;> cases q
  refine ⟨?_, Bs, fun a h => (nomatch h), fun a h => hF a (by simpa using h), fun i d e => ?_, fun i es e => ?_, fun i j es es' a h1 => ?_⟩
  · unfold start Ia; simp [hl]
  · obtain ⟨j, d', rfl, e1, e2⟩ := get i _ e
    cases e2
    obtain ⟨v, w1, w2⟩ := r.get e1
    have hj : j < ys.length := by rw [hl]; exact (List.getElem?_eq_some_iff.mp e1).1
    refine ⟨v, ?_, by rw [List.append_nil]; exact w2⟩
    unfold start
    rw [List.getElem?_append_left (by simp; omega), List.getElem?_map, List.getElem?_cons_succ, w1]; rfl
  · obtain ⟨_, _, _, _, z⟩ := get i _ e; cases z
  · obtain ⟨_, _, _, _, z⟩ := get i _ h1; cases z
end
section
variable {X : Cx} {e e1 e2 e3 : Expr} {es : List Expr} {te1 te2 te3 : DTE} {tl : DTA} {pos apos : Pos}
def Afn (K : PySem.W.Frag) (f1 f2 f3 : Str) (te1 te2 te3 : DTE) : TS := fun D σ H => ∃ B F ρ x C dx, ∃ S : List Dt → Prop, Rep K B F [] H σ ρ ∧ x ∈ F ∧ B x = none ∧ σ[0]? = some (some (.ref x)) ∧ H x = some (.ins C dx []) ∧ Cls K C ∧ (∀ f ∈ [f1, f2, f3], G4 K C f) ∧
  (te1 ρ fun d1 => te2 ρ fun d2 => te3 ρ fun d3 => S [d1, d2, d3]) ∧ ∀ fds, S fds → ∀ ws H', Same B H' → H' x = some (.ins C dx ([f1, f2, f3].zip ws)) → [f1, f2, f3].length = fds.length → RpL K (mask F H') fds ws → D.nx σ H'
theorem Yw {f1 f2 f3 : Str} {y : Str} {q1 q2 q3 p1 p2 p3 s1 s2 s3 : Pos} (h1 : DE X e1 te1) (h2 : DE X e2 te2) (h3 : DE X e3 te3) (n12 : f1 ≠ f2) (n13 : f1 ≠ f3) (n23 : f2 ≠ f3) (hN : X.N[0]? = some y := by rfl) (hv : Vis X.env.scope y := by first | exact Or.inl rfl | exact Or.inr (Or.inl rfl) | exact Or.inr (Or.inr rfl))
    (hd : (y == ("__debug__" : Str)) = false := by decide) (hcd : (y == ("__classdict__" : Str)) = false := by decide)
    (w1 : swapsWith e1 (some (.Attribute (.Name y q1) f1 p1)) s1.line X.env = pure false := by rfl) (w2 : swapsWith e2 (some (.Attribute (.Name y q2) f2 p2)) s2.line X.env = pure false := by rfl) (w3 : swapsWith e3 (some (.Attribute (.Name y q3) f3 p3)) s3.line X.env = pure false := by rfl) :
    PSs X [.Assign [.Attribute (.Name y q1) f1 p1] e1 s1, .Assign [.Attribute (.Name y q2) f2 p2] e2 s2, .Assign [.Attribute (.Name y q3) f3 p3] e3 s3] (Afn X.K f1 f2 f3 te1 te2 te3) :=
  (O2 (Uq (K7 hN hv hd hcd) h1.pe w1) (O2 (Uq (K7 hN hv hd hcd) h2.pe w2) (RP (Uq (K7 hN hv hd hcd) h3.pe w3)))).imp fun D σ H ⟨B, F, ρ, x, C, dx, S, R, xF, Bx, σ0, Hx, cl, no, z, fin⟩ => by
    have em : ∀ (H : Hp) (o : HO), mask (F ++ []) (upd H x o) = mask (F ++ []) H := fun H o => JT (List.mem_append_left _ xF)
    refine ⟨B, F, [], ρ, R, h1.mono (fun d1 z y1 H1 t1 r1 => ?_) z⟩
    refine ⟨.ref x, σ0, x, C, dx, [], rfl, t1 _ _ Hx, cl, no f1 (by simp), by decide, ?_⟩
    have R1 := (R.same t1).updF xF Bx (.ins C dx (Gp f1 y1 []))
    refine ⟨B, F, [], ρ, R1, h2.mono (fun d2 z y2 H2 t2 r2 => ?_) z⟩
    refine ⟨.ref x, σ0, x, C, dx, [(f1, y1)], rfl, t2 _ _ BJ, cl, no f2 (by simp), by show 1 < 1000; decide, ?_⟩
    have R2 := (R1.same t2).updF xF Bx (.ins C dx (Gp f2 y2 [(f1, y1)]))
    refine ⟨B, F, [], ρ, R2, h3.mono (fun d3 z y3 H3 t3 r3 => ?_) z⟩
    have ep2 : Gp f2 y2 [(f1, y1)] = [(f1, y1), (f2, y2)] := by simp [Gp, n12]
    have ep3 : Gp f3 y3 [(f1, y1), (f2, y2)] = [(f1, y1), (f2, y2), (f3, y3)] := by simp [Gp, n13, n23]
    rw [ep2] at t3 R2
    refine ⟨.ref x, σ0, x, C, dx, [(f1, y1), (f2, y2)], rfl, t3 _ _ BJ, cl, no f3 (by simp), by show 2 < 1000; decide, ?_⟩
    have R3 := (R2.same t3).updF xF Bx (.ins C dx (Gp f3 y3 [(f1, y1), (f2, y2)]))
    rw [ep3] at R3 ⊢
    rw [List.append_nil] at r1 r2 r3 em
    refine fin _ z [y1, y2, y3] _ R3.base BJ rfl ?_
    rw [em]
    have m12 : Same (mask F H1) (mask F H2) := fun b o q => t2.mask b o (by rw [em]; exact q)
    have m23 : Same (mask F H2) (mask F H3) := fun b o q => t3.mask b o (by rw [em]; exact q)
    exact RpL.cons ((r1.mono m12).mono m23) (RpL.cons (r2.mono m23) (RpL.cons r3 RpL.nil))
structure VR (K : PySem.W.Frag) (mg : Str → Option Value) (c m : Str) (g : Addr) : Prop where
  ex : ∃ CS, mg c = some (.ref CS) ∧ PySem.W.specialIn K (.ref CS) "__getattribute__" = some (some (.builtin "type.__getattribute__")) ∧ PySem.W.readsIn K CS (.type "type") = true ∧ PySem.W.findCls K (.ref CS) (.type "type") m = some (.val (.ref g))
  kp : PySem.W.keepIn K (.ref g) = true
theorem X6 {pl : Sem Bool} {k : Nat} {c m : Str} {g : Addr} {fd : FuncData} {ps : List Str} {sp : Sp} {t : TA} {p : Pos} (M : VR X.K X.mg c m g) (hg : Gl X c) (F : GP X.prog X.w X.K X.mg X.base CX0 k g fd ps sp) (hr : DP k X.A) (hb : Binds X.K fd ps []) (ha : PA X (e :: es) t)
    (hdb : (c == ("__debug__" : Str)) = false := by decide) (hst : starEach (e :: es) X.env = (false, eval e X.env) :: starEach es X.env := by rfl) (hpl : (backTo pos (starEach es X.env)).any (·.1) = false := by rfl)
    (ht : eval (.Call (.Attribute (.Name c p) m apos) (e :: es) [] pos) X.env = (do
      let ov ← eval (.Name c p) X.env
      standAt apos.atName
      let (f, first) ← holding [ov] (getMethod ov m pl)
      callWith pos f first (backTo pos (starEach (e :: es) X.env)) (backToKw pos (keywordEach [] X.env))) := by rfl) :
    PE X (.Call (.Attribute (.Name c p) m apos) (e :: es) [] pos) (AcW sp [] E0 t) := by
  intro pins s σ H Q I h
  obtain ⟨CS, hm, hs, hr', hf⟩ := M.ex
  have q0 := (Wf (v := .ref CS) (pos := p) hg hm rfl hdb : PE X (.Name c p) (tC (.ref CS))) pins s σ H (fun v H1 => v = .ref CS ∧ H1 = H) I ⟨rfl, rfl⟩
  refine PySem.W.methodCall_KW (pl := pl) (thn q0 fun u s1 ⟨x, H1, I1, rx, ex, eH⟩ => ?_) ht
  subst ex
  subst eH
  obtain rfl : u = Value.ref CS := rx
  refine PySem.W.method_cls I1.kIn hs (PySem.W.cls_value I1.kIn hr' hf rfl ?_)
  refine PySem.W.callWith_K (first := []) (h₀ := X.base) I.ok.mod.kin M.kp (thn (ha pos pins _ σ H1 _ (I1.tok _) h) fun us s2 ⟨vs, H2, I2, r, q2⟩ => ⟨I2.kIn, ?_⟩) hst hpl
  exact U6 F hr hb .nil V7 I2 r q2
def AiI (K : PySem.W.Frag) (ns : List Str) (sp : DIn) (tl : DTA) : TS := fun D σ H => ∃ B F ρ x C dx, ∃ S : List Dt → Prop, Rep K B F [] H σ ρ ∧ x ∈ F ∧ B x = none ∧ σ[0]? = some (some (.ref x)) ∧ H x = some (.ins C dx []) ∧ Cls K C ∧ (∀ f ∈ ns, G4 K C f) ∧
  (tl ρ fun ds => sp ds S) ∧ ∀ fds, S fds → ∀ ws H', Same B H' → H' x = some (.ins C dx (ns.zip ws)) → ns.length = fds.length → RpL K (mask F H') fds ws → D.nx σ H'
theorem SJ {pl : Sem Bool} {k : Nat} {c y : Str} {g : Addr} {fd : FuncData} {ps ns : List Str} {sp : DIn} {p q ap cp : Pos} (m : Ri sp) (M : VR X.K X.mg c "__init__" g) (hg : Gl X c) (G : GP X.prog X.w X.K X.mg X.base CX0 k g fd ps (Yr X.K ns sp)) (hb : Binds X.K fd ps []) (hr : DP k X.A) (ha : DA X es tl) (hN : X.N[0]? = some y := by rfl)
    (hv : Vis X.env.scope y := by first | exact Or.inl rfl | exact Or.inr (Or.inl rfl) | exact Or.inr (Or.inr rfl)) (hd : (y == ("__debug__" : Str)) = false := by decide) (hcd : (y == ("__classdict__" : Str)) = false := by decide) (hdb : (c == ("__debug__" : Str)) = false := by decide)
    (hst : starEach (.Name y q :: es) X.env = (false, eval (.Name y q) X.env) :: starEach es X.env := by rfl) (hpl : (backTo cp (starEach es X.env)).any (·.1) = false := by rfl)
    (ht : eval (.Call (.Attribute (.Name c p) "__init__" ap) (.Name y q :: es) [] cp) X.env = (do
      let ov ← eval (.Name c p) X.env
      standAt ap.atName
      let (f, first) ← holding [ov] (getMethod ov "__init__" pl)
      callWith cp f first (backTo cp (starEach (.Name y q :: es) X.env)) (backToKw cp (keywordEach [] X.env))) := by rfl)
    (hs : swapsWith (.Call (.Attribute (.Name c p) "__init__" ap) (.Name y q :: es) [] cp) none pos.line X.env = pure false := by rfl) :
    PSs X [.Expr (.Call (.Attribute (.Name c p) "__init__" ap) (.Name y q :: es) [] cp) pos] (AiI X.K ns sp tl) :=
  (RP (Rx (X6 M hg G hr hb (KZ (K7 hN hv hd hcd) ha.pa hst) hdb hst hpl ht) hs)).imp fun D σ H ⟨B, F, ρ, x, C, dx, S, R, xF, Bx, σ0, Hx, cl, no, z, fin⟩ => by
    refine ⟨.ref x, σ0, B, F, [], ρ, R, ha.mono (fun ds z vs H1 s1 r1 => ?_) z⟩
    show Yr X.K ns sp ((.ref x :: vs) ++ []) H1 _ E0
    rw [List.append_nil]
    have R1 := R.same s1
    rw [List.append_nil] at r1
    refine ⟨x, C, dx, vs, F, ds, rfl, s1 _ _ Hx, cl, no, xF, fun a h => R1.th a (List.mem_append_left _ h), r1, m _ _ _ (fun fds w ws H' s' h1 h2 h3 => fin fds w ws H' (fun b o e => s' b o ?_) h1 h2 h3) z⟩
    rw [Az fun w => by rw [List.mem_singleton.mp w, Bx] at e; cases e]
    exact R1.base b o e
end
def QC {τ : Type} (args : τ → List Dt) (pre : τ → Prop) (post : τ → List Dt → Prop) : DIn := fun ds R => ∃ p, ds = args p ∧ pre p ∧ ∀ fds, post p fds → R fds
theorem Ie {τ : Type} {args : τ → List Dt} {pre : τ → Prop} {post : τ → List Dt → Prop} : Ri (QC args pre post) := fun _ _ _ hq ⟨p, e, h, q⟩ => ⟨p, e, h, fun d z => hq _ (q d z)⟩
theorem Kl {τ : Type} {args : τ → List Dt} {pre : τ → Prop} {post : τ → List Dt → Prop} {R : List Dt → Prop} (p : τ) (h : pre p) (q : ∀ fds, post p fds → R fds) : QC args pre post (args p) R := ⟨p, rfl, h, q⟩
def PmC (P : Program) (w : World) (K : PySem.W.Frag) (mg : Str → Option Value) (base : Heap) (k : Nat) (c : Str) (ns : List Str) (sp : DIn) : Prop := ∃ g fd ps, VR K mg c "__init__" g ∧ Binds K fd ps [] ∧ GP P w K mg base CX0 k g fd ps (Yr K ns sp)
def PmI (P : Program) (w : World) (K : PySem.W.Frag) (mg : Str → Option Value) (base : Heap) (k : Nat) (c : Str) (ns : List Str) (sp : DIn) : Prop := ∃ C f fd ps, MkC K mg c ns C f ∧ Binds K fd ps [] ∧ GP P w K mg base CX0 k f fd ps (Yr K ns sp)
def PmM (P : Program) (w : World) (K : PySem.W.Frag) (mg : Str → Option Value) (base : Heap) (k : Nat) (cs : List Str) (m : Str) (sp : DSp) : Prop := ∃ g fd ps, (∀ c ∈ cs, V4 K c m g) ∧ PySem.W.keepIn K (.ref g) = true ∧ Binds K fd ps [] ∧ GP P w K mg base CX0 k g fd ps (lSp K sp)
section
variable {X : Cx} {e o : Expr} {es : List Expr} {te : DTE} {tl : DTA} {pos apos : Pos}
theorem Tt {k : Nat} {c : Str} {ns : List Str} {sp : DIn} {p : Pos} (m : Ri sp) (G : PmI X.prog X.w X.K X.mg X.base k c ns sp) (hr : DP (k + 1) X.A) (hg : Gl X c) (ha : DA X (e :: es) tl)
    (hdb : (c == ("__debug__" : Str)) = false := by decide) (he : starEach (e :: es) X.env = (false, eval e X.env) :: starEach es X.env := by rfl) (hpl : (backTo pos (starEach es X.env)).any (·.1) = false := by rfl) : DE X (.Call (.Name c p) (e :: es) [] pos) (Yy c ns sp tl) := by
  obtain ⟨C, f, fd, ps, M, B, G⟩ := G
  exact Ab6 m M G B hr hg ha hdb he hpl
def N8 (cs : List Str) (m : Str) (sp : DSp) (te : DTE) (tl : DTA) : DTE := fun ρ Q => te ρ fun d => match d with
  | .obj c ns ds => (c ∈ cs ∧ m ∉ ns) ∧ tl ρ fun es => sp (.obj c ns ds :: es) Q
  | _ => False
theorem UW {cs : List Str} {m : Str} {sp : DSp} (M : G3 sp) (h : DE X o te) (ha : DA X es tl) {ρ : Cd} {Q Q' : Dt → Prop} (hq : ∀ d, Q d → Q' d) (z : N8 cs m sp te tl ρ Q) : N8 cs m sp te tl ρ Q' := h.mono (fun d z => by
  split at z
  · exact ⟨z.1, ha.mono (fun es z => M _ _ _ hq z) z.2⟩
  · exact z.elim) z
theorem ZX {cs : List Str} {m : Str} {g : Addr} {sp : DSp} (M : G3 sp) (hm : ∀ c ∈ cs, V4 X.K c m g) (h : DE X o te) (σ : St) (H : Hp) (Q : VK) (z : lE X.K (N8 cs m sp te tl) σ H Q) : lE X.K (M5 X.K m g sp te tl) σ H Q := by
  obtain ⟨B, F, O, ρ, R, z⟩ := z
  refine ⟨B, F, O, ρ, R, h.mono (fun d z => ?_) z⟩
  split at z
  · exact ⟨hm _ z.1.1, z.1.2, z.2⟩
  · exact z.elim
theorem Xe {pl : Sem Bool} {k : Nat} {cs : List Str} {m : Str} {sp : DSp} (M : G3 sp) (G : PmM X.prog X.w X.K X.mg X.base k cs m sp) (hr : DP k X.A) (h : DE X o te)
    (ht : eval (.Call (.Attribute o m apos) [] [] pos) X.env = (do
      let ov ← eval o X.env
      standAt apos.atName
      let (f, first) ← holding [ov] (getMethod ov m pl)
      callWith pos f first (backTo pos (starEach [] X.env)) (backToKw pos (keywordEach [] X.env))) := by rfl) : DE X (.Call (.Attribute o m apos) [] [] pos) (N8 cs m sp te Abr) := by
  obtain ⟨g, fd, ps, hm, kp, B, G⟩ := G
  exact ⟨UW M h Af, (Zr M G B hr h ht).pe.imp fun σ H Q z => ZX M hm h σ H Q z⟩
end
end L2
namespace L2
open PySem PySem.Spec PyProof.Rows
inductive Lex (A : Around) (s : Shared) : List Value → List Value → Bool → Prop
  | nn : Lex A s [] [] false
  | nc {y : Value} {ys : List Value} : Lex A s [] (y :: ys) true
  | cn {x : Value} {xs : List Value} : Lex A s (x :: xs) [] false
  | eq {x y : Value} {xs ys : List Value} {r : Bool} (h : SeqAt.EqAt A s x y true) (t : Lex A s xs ys r) : Lex A s (x :: xs) (y :: ys) r
  | lt {x y : Value} {xs ys : List Value} {r : Bool} (h : SeqAt.EqAt A s x y false) (t : ∀ (prog : Program) (w : World) (E : Value → Shared → Prop) (Q : Value → Shared → Prop), Q (.bool r) s → wpAny (model prog w) A (richCompare .Lt x y) Q E s) : Lex A s (x :: xs) (y :: ys) r
section
open PySem.SeqAt PySem.AutoSeq1 PySem.MeetsSeq PySem.MeetsSeq2 PySem.MeetsSeq3
theorem Uv (p q : Addr) (us vs : Array Value) (m n : Nat) (e e2 : Option Addr) (c c2 : Array (Option Value)) (res : Bool) :
    Meets (Builtin.«tuple.__lt__» ⟨[.ref p, .ref q], []⟩) (fun A R st => st.heap.get? p = some ⟨.type "tuple", e, .seq us m, c⟩ ∧ st.heap.get? q = some ⟨.type "tuple", e2, .seq vs n, c2⟩ ∧ Lex A.in1 st us.toList vs.toList res ∧ R (.ok (.ret (.bool res))) st) :=
  .of_wp fun prog w A R st h => by
    obtain ⟨hh, gg, dr, tt, os⟩ := st
    obtain ⟨h1, h2, L, fin⟩ := h
    have sub2 := AutoSeq1.sub_tuple_tuple
    wp_walk using wpAny_loadPart' h1, wpAny_loadPart' h2, wpAny_forIn_list _ (fun rest z st' => z.1 = none ∧ st' = ⟨hh, gg, dr, tt, os⟩ ∧ ∃ xs ys : List Value, rest = xs.zip ys ∧ Lex A.in1 ⟨hh, gg, dr, tt, os⟩ xs ys res ∧ xs.length + vs.size = ys.length + us.size) _
    case turn =>
      rintro ⟨x0, y0⟩ rest z st' ⟨z0, rfl, xs, ys, hz, L', hlen⟩
      cases L' with
      | nn => simp at hz
      | nc => simp at hz
      | cn => simp at hz
      | @eq x y xs ys r he t =>
        rw [List.zip_cons_cons] at hz
        obtain ⟨hp, hr⟩ := List.cons.inj hz
        obtain ⟨rfl, rfl⟩ := Prod.mk.inj hp
        refine wpAny_bind (he prog w _ _ ?_)
        wp_walk
        refine ⟨rfl, rfl, xs, ys, hr, t, ?_⟩
        simp only [List.length_cons] at hlen
        omega
      | @lt x y xs ys r he t =>
        rw [List.zip_cons_cons] at hz
        obtain ⟨hp, hr⟩ := List.cons.inj hz
        obtain ⟨rfl, rfl⟩ := Prod.mk.inj hp
        refine wpAny_bind (he prog w _ _ ?_)
        have less := t prog w
        wp_walk using less
        exact ⟨_, rfl, by simpa using fin⟩
    case fin =>
      rintro ⟨z1, z2⟩ st' ⟨hz1, rfl, xs, ys, hz, L', hlen⟩
      simp only at hz1
      subst hz1
      have hv : res = decide (us.size < vs.size) := by
        cases L' with
        | nn => simp at hlen; exact (decide_eq_false (by omega)).symm
        | nc => simp at hlen; exact (decide_eq_true (by omega)).symm
        | cn => simp at hlen; exact (decide_eq_false (by omega)).symm
        | eq _ _ => simp at hz
        | lt _ _ => simp at hz
      rw [hv] at fin
      wp_walk
      exact ⟨_, rfl, by simpa [Builtin.Tuple.tupleCompareSizes] using fin⟩
    case h => exact ⟨rfl, rfl, us.toList, vs.toList, rfl, L, by simp; omega⟩
end
section
variable {prog : Program} {w : World} {A : Around} {E : Value → Shared → Prop} {s : Shared}
theorem Ye {p q : Addr} {us vs : Array Value} {res : Bool} {Q : Value → Shared → Prop} (hp : IsTup s.heap p us) (hq : IsTup s.heap q vs) (L : Lex A.in1 s us.toList vs.toList res) (hu : A.units < cLine) (h : Q (.bool res) s) : wpAny (model prog w) A (richCompare .Lt (.ref p) (.ref q)) Q E s := by
  obtain ⟨⟨c1, e1, a1, b1⟩, g1, k1, m1, t1⟩ := id hp
  obtain ⟨⟨c2, e2, a2, b2⟩, g2, k2, m2, t2⟩ := id hq
  dsimp only at k1 t1 k2 t2
  subst k1 t1 k2 t2
  refine richCompare_meets_room (op := .Lt) ⟨_, g1, rfl⟩ ⟨_, g2, rfl⟩ PySem.F.slot_tuple_lt PySem.F.entry_tuple_lt (PySem.F.args_tuple_lt_2 _ _) (Uv p q us vs m1 m2 e1 e2 b1 b2 res) ⟨g1, g2, L, ?_⟩ hu
  exact show Value.bool res ≠ Value.notImplemented ∧ Q (.bool res) s from ⟨(fun z => nomatch z), h⟩
end
end L2
namespace L2
open PySem PySem.Spec PyProof.Rows PySem.SeqAt
theorem KN : ∀ ns : List Int, HT.lexLt ns ns = false
  | [] => HT.Fv
  | n :: ns => by rw [HT.Ed, if_pos rfl, KN ns]
def Eu (a b : List Int × List Int) : Bool := if a.1 = b.1 then HT.lexLt a.2 b.2 else HT.lexLt a.1 b.1
abbrev LC (a : List Int × List Int) : Dt := .tup [KH a.1, KH a.2]
section
variable {X : Cx}
def O3 (K : PySem.W.Frag) (H : Hp) (v : V) (a : List Int × List Int) : Prop := ∃ p p1 p2, v = .ref p ∧ SqT K H p [.ref p1, .ref p2] ∧ SqT K H p1 (a.1.map V.int) ∧ SqT K H p2 (a.2.map V.int)
def AcD (K : PySem.W.Frag) : List V → Hp → VK → Prop := fun xs H Q => ∃ l vs, ∃ ps : Nat → List Int × List Int, xs = [.ref l] ∧ SqL K H l vs ∧ 0 < vs.length ∧ (∀ (i : Nat) (v : V), vs[i]? = some v → O3 K H v (ps i)) ∧
  ∀ v, vs[argBest (fun i j => Eu (ps i) (ps j)) (vs.length - 1)]? = some v → Q v H
theorem XR {x y : Addr} {us : List Value} (r : Vals [V.ref x, V.ref y] us) : us = [.ref x, .ref y] := by
  obtain ⟨a, b, rfl, r1, r2⟩ := vals2 r
  cases (show a = .ref x from r1)
  cases (show b = .ref y from r2)
  rfl
theorem Ov {h : Heap} : ∀ {us : List Value} {ns : List Int}, IntsAre us ns → ∃ as, ReadsAll h us (Dt.pys (ns.map Dt.int)) as
  | _, _, .nil => ⟨_, by rw [List.map_nil, Dt.pys]; exact .nil⟩
  | _, _, .cons n t r => by
    obtain ⟨as, q⟩ := Ov (h := h) r
    exact ⟨_, by rw [List.map_cons, Dt.pys, Dt.py]; exact .cons (.int n t) q⟩
theorem QT {h : Heap} {a : Addr} {its : Array Value} {ns : List Int} (t : IsTup h a its) (i : IntsAre its.toList ns) : ∃ as, Reads h (.ref a) (KH ns).py as := by
  obtain ⟨o, h1, h2, n, h3⟩ := t
  obtain ⟨as, r⟩ := Ov (h := h) i
  exact ⟨_, by rw [Dt.py]; exact .tuple h1 h2 h3 r⟩
theorem T7 {A : Around} {s : Shared} {a b : Addr} {i1 i2 : Array Value} {ns ms : List Int} (t1 : IsTup s.heap a i1) (t2 : IsTup s.heap b i2) (n1 : IntsAre i1.toList ns) (n2 : IntsAre i2.toList ms) (hu : A.units + 8 < cLine) : EqAt A s (.ref a) (.ref b) (decide (ns = ms)) := by
  have fl : ∀ ns : List Int, (KH ns).flat 8 = true := fun ns => Uk ns
  obtain ⟨ca, da⟩ := Gy _ 8 (fl ns)
  obtain ⟨cb, db⟩ := Gy _ 8 (fl ms)
  obtain ⟨as, q1⟩ := QT t1 n1
  obtain ⟨bs, q2⟩ := QT t2 n2
  have h := SeqAt.eqAt_reads _ _ A s _ _ as bs q1 q2 ca cb (by omega)
  rw [RB _ _ ca cb] at h
  have ee : (KH ns).eq (KH ms) = decide (ns = ms) := by
    show Dt.eq (.tup _) (.tup _) = _
    rw [ZK, Wx]
  rw [ee] at h
  exact h
theorem XJ (hc : X.calm = true) (hu : X.A.in1.units + 16 < cLine) : Jz X (.builtin "min") (AcD X.K) := by
  intro pins s σ H xs us Q I r h
  obtain ⟨l, vs, ps, rfl, hl, ne, each, q⟩ := h
  obtain ⟨u, rfl, r1⟩ := vals1 r
  cases r1
  obtain ⟨its, rv, pl, _⟩ := I.list hl
  have hlen : its.length = vs.length := rv.length.symm
  have ll : l < s.heap.objs.size := by
    obtain ⟨_, e, _⟩ := pl.isList
    exact Heap.lt_size e
  refine S6 (wpAny_pyIter_list pl.isList ?_)
  refine ⟨s.heap.objs.size, [s.heap.objs.size, l], [s.heap.objs.size], its.toArray.size, fun i v => its.toArray[i]? = some v, _, fun i j => Eu (ps i) (ps j), rfl, Walks.list (A := X.A.in1) (I.ok.hd hc) _ l (Nat.ne_of_lt ll) its.toArray, ⟨⟨_, Heap.get?_push_size _ rfl, rfl, rfl⟩, pl.isList.push _⟩, fun b hb => ?_, ?_, ?_, ?_⟩
  · show b < (s.heap.push _).objs.size
    rw [Heap.size_push]
    have hb : b = s.heap.objs.size ∨ b = l := by simpa using hb
    rcases hb with e | e
    · rw [e]; exact Nat.lt_succ_self _
    · rw [e]; exact Nat.lt_succ_of_lt ll
  · rw [List.size_toArray]; omega
  · intro h1 k1 i j x y s' Q' E' kept hx hy q'
    have go : ∀ a o, s.heap.get? a = some o → s'.heap.get? a = some o := fun a o eo => by
      have la := Heap.lt_size eo
      refine kept a o (fun z => ?_) (fun z => ?_) (k1 a o (Heap.get?_push_of_some _ eo))
      · have e2 : a = s.heap.objs.size := by simpa using z
        exact Nat.lt_irrefl _ (e2 ▸ la)
      · have e2 : a = (s.heap.push _).objs.size := z
        rw [Heap.size_push] at e2
        exact Nat.lt_irrefl _ (Nat.lt_of_succ_lt (e2 ▸ la))
    have tup : ∀ {a : Addr} {xs : List V}, SqT X.K H a xs → ∃ us : List Value, Vals xs us ∧ IsTup s'.heap a us.toArray := fun {a xs} ht => by
      obtain ⟨us, r3, ⟨o, eo, rest⟩, _⟩ := I.tuple ht
      exact ⟨us, r3, o, go a o eo, rest⟩
    have fact : ∀ (i : Nat) (x : Value), its.toArray[i]? = some x → ∃ p p1 p2 i1 i2, x = .ref p ∧ IsTup s'.heap p [Value.ref p1, .ref p2].toArray ∧ IsTup s'.heap p1 i1 ∧ IsTup s'.heap p2 i2 ∧ IntsAre i1.toList (ps i).1 ∧ IntsAre i2.toList (ps i).2 := fun i x hx => by
      obtain ⟨v, e1, r2⟩ := Vals.at rv i x (by simpa using hx)
      obtain ⟨p, p1, p2, rfl, t0, t1, t2⟩ := each i v e1
      cases r2
      obtain ⟨us, r0, u0⟩ := tup t0
      obtain ⟨u1, r1, w1⟩ := tup t1
      obtain ⟨u2, r2, w2⟩ := tup t2
      rw [XR r0] at u0
      exact ⟨p, p1, p2, u1.toArray, u2.toArray, rfl, u0, w1, w2, intsAre_of r1, intsAre_of r2⟩
    obtain ⟨p, p1, p2, i1, i2, rfl, a0, a1, a2, n1, n2⟩ := fact i x hx
    obtain ⟨b, b1, b2, j1, j2, rfl, c0, c1, c2, m1, m2⟩ := fact j y hy
    have in2 : X.A.in1.in1.units = X.A.in1.units + 1 := rfl
    refine Ye a0 c0 ?_ (by omega) q'
    show Lex X.A.in1.in1 s' [.ref p1, .ref p2] [.ref b1, .ref b2] _
    have e1 := T7 (A := X.A.in1.in1) a1 c1 n1 m1 (by omega)
    have e2 := T7 (A := X.A.in1.in1) a2 c2 n2 m2 (by omega)
    show Lex X.A.in1.in1 s' [.ref p1, .ref p2] [.ref b1, .ref b2] (if (ps i).1 = (ps j).1 then HT.lexLt (ps i).2 (ps j).2 else HT.lexLt (ps i).1 (ps j).1)
    by_cases h1 : (ps i).1 = (ps j).1
    · rw [if_pos h1]
      rw [decide_eq_true h1] at e1
      refine .eq e1 ?_
      by_cases h2 : (ps i).2 = (ps j).2
      · rw [decide_eq_true h2] at e2
        rw [h2]
        have : HT.lexLt (ps j).2 (ps j).2 = false := KN _
        rw [this]
        exact .eq e2 .nn
      · rw [decide_eq_false h2] at e2
        exact .lt e2 fun prog w E Q h => HT.JL a2 c2 n2 m2 (by omega) h
    · rw [if_neg h1]
      rw [decide_eq_false h1] at e1
      exact .lt e1 fun prog w E Q h => HT.JL a1 c1 n1 m1 (by omega) h
  · intro v h' tk hv k
    obtain ⟨x, e1, r2⟩ := Vals.at rv _ v (by simpa using hv)
    rw [hlen] at e1
    refine ⟨x, H, I.kept fun b o e => k b o (fun z => ?_) (Heap.get?_push_of_some _ e), r2, q x e1⟩
    have e2 : b = s.heap.objs.size := by simpa using z
    have e3 := Heap.lt_size e
    exact Nat.lt_irrefl _ (e2 ▸ e3)
def JN (ps : List (List Int × List Int)) : Nat := argBest (fun i j => Eu (ps.getD i ([], [])) (ps.getD j ([], []))) (ps.length - 1)
def AcK : DL := fun ds Q => ∃ ps : List (List Int × List Int), ds = [.lst (ps.map LC)] ∧ 0 < ps.length ∧ JN ps < ps.length ∧ Q (LC (ps.getD (JN ps) ([], [])))
theorem ints_of {K : PySem.W.Frag} {M : Hp} {ns : List Int} {xs : List V} (r : RpL K M (ns.map Dt.int) xs) : xs = ns.map V.int := by
  induction ns generalizing xs with
  | nil => exact BZ.mp r
  | cons n ns ih =>
    obtain ⟨v, w, rfl, r1, r2⟩ := Ax.mp r
    rw [Bm.mp r1, ih r2]
    rfl
theorem Aaz {K : PySem.W.Frag} {M : Hp} {a : List Int × List Int} {v : V} (r : Rp K M (LC a) v) : O3 K M v a := by
  obtain ⟨p, xs, rfl, h1, h2⟩ := CP.mp r
  obtain ⟨v1, w1, rfl, r1, h2⟩ := Ax.mp h2
  obtain ⟨v2, w2, rfl, r2, h2⟩ := Ax.mp h2
  obtain rfl := BZ.mp h2
  obtain ⟨p1, x1, rfl, g1, k1⟩ := CP.mp r1
  obtain ⟨p2, x2, rfl, g2, k2⟩ := CP.mp r2
  rw [ints_of k1] at g1
  rw [ints_of k2] at g2
  exact ⟨p, p1, p2, rfl, h1, g1, g2⟩
theorem O3.mono {K : PySem.W.Frag} {M M' : Hp} {a : List Int × List Int} {v : V} (s : Same M M') (h : O3 K M v a) : O3 K M' v a := by
  obtain ⟨p, p1, p2, e, h1, h2, h3⟩ := h
  exact ⟨p, p1, p2, e, s.seqT h1, s.seqT h2, s.seqT h3⟩
theorem X4 {K : PySem.W.Frag} : Uy K (AcD K) AcK where
  mono := fun hq ⟨ps, e, n0, lt, h⟩ => ⟨ps, e, n0, lt, hq _ h⟩
  ok := fun O H ds xs Q _ r ⟨ps, e, n0, lt, h⟩ => by
    subst e
    obtain ⟨x, r', rfl, r2, r3⟩ := Ax.mp r
    obtain rfl := BZ.mp r3
    obtain ⟨l, vs, rfl, hs, hl⟩ := Gj r2
    have len : vs.length = ps.length := by rw [hl.len, List.length_map]
    have at' : ∀ (i : Nat) (v : V), vs[i]? = some v → Rp K (mask O H) (LC (ps.getD i ([], []))) v := fun i v e => by
      obtain ⟨d, e1, e2⟩ := hl.get' e
      rw [List.getElem?_map] at e1
      cases w : ps[i]? with
      | none => rw [w] at e1; cases e1
      | some a =>
        rw [w] at e1
        cases e1
        rw [List.getD_eq_getElem?_getD, w]
        exact e2
    refine ⟨l, vs, fun i => ps.getD i ([], []), rfl, Bs.seq hs, by omega, fun i v e => (Aaz (at' i v e)).mono Bs, fun v e => ?_⟩
    rw [len] at e
    exact h v H (Same.refl H) (at' _ v e)
theorem Aa4 {a : Expr} {tl : DTA} {p pos : Pos} (hm : X.mg "min" = none) (hu : X.A.in1.units + 16 < cLine) (ha : DA X [a] tl) (hc : X.calm = true := by rfl) (hg : Gl X "min" := by rfl) (hv : bootBuiltins "min" = some (.builtin "min") := by rfl) (he : starEach [a] X.env = (false, eval a X.env) :: starEach [] X.env := by rfl)
    (hpl : (backTo pos (starEach [] X.env)).any (·.1) = false := by rfl) : DE X (.Call (.Name "min" p) [a] [] pos) (dCB AcK tl) := Ub (XJ hc hu) X4 hg hm hv ha (he := he) (hpl := hpl)
theorem Ad6 {A : Around} (h : A.units + 64 < cLine) : A.in1.units + 16 < cLine := by show A.units + 1 + 16 < cLine; omega
end
end L2
namespace L2
open PySem PySem.Spec PyProof.Rows PySem.SeqAt
section
variable {P : Program} {w : World} {A : Around} {E : Value → Shared → Prop} {s : Shared}
theorem MJ {j t : Addr} {n : Nat} {its : Array Value} {v : Value} {Q : Value → Shared → Prop} (hj : s.heap.IsTupleIter j t n) (ht : s.heap.IsTuple t its) (hv : its[n]? = some v)
    (q : ∀ g, g.IsTupleIter j t (n + 1) → Heap.SameBut j s.heap g → Q v { s with heap := g }) : wpAny (model P w) A (Builtin.SmallTypes.nextOf (.ref j)) Q E s := by
  obtain ⟨oj, gj, cj, dj⟩ := id hj
  obtain ⟨ot, gt, _, nt, dt⟩ := ht
  unfold Builtin.SmallTypes.nextOf
  refine wpAny_bind (wpAny_callSpecial?_slot (name := Str.ofString "__next__") hj.typeIs F.slot_tuple_iterator_next (wpAny_call_entry F.slot_tuple_iterator_next hj.typeIs F.entry_tuple_iterator_next ?_ (F.args_tuple_iterator_next_1 _)))
  show wpAny _ _ (field (.ref j) 0 >>= _) _ _ s
  refine wpAny_bind (wpAny_field gj dj (x := .ref t) rfl ?_)
  show wpAny _ _ (if (Value.ref t == Value.none) = true then _ else _) _ _ _
  rw [if_neg (show ¬ (Value.ref t == Value.none) = true from Bool.false_ne_true)]
  show wpAny _ _ (field (.ref j) 1 >>= _) _ _ s
  refine wpAny_bind (wpAny_field gj dj (x := .int n 0) rfl ?_)
  show wpAny _ _ (seqItems? (.ref t) >>= _) _ _ _
  refine wpAny_bind (wpAny_seqItems gt dt ?_)
  simp only [Int.toNat_natCast, hv]
  exact wpAny_bind (wpAny_setField gj dj (by simp) (wpAny_pure ⟨v, rfl, wpAny_pure (q _ ⟨_, Heap.get?_update_self _ gj (Obj.isFreed_of_fields (Obj.data_mapFields dj _)), (Obj.cls_mapFields ..).trans cj, by rw [Obj.data_mapFields dj]; simp [rawInt]⟩ (Heap.SameBut.update ..))⟩))
theorem XS {j t : Addr} {n : Nat} {its : Array Value} {Q : Value → Shared → Prop} (hh : A.handled = none) (hj : s.heap.IsTupleIter j t n) (ht : s.heap.IsTuple t its) (hv : its[n]? = none)
    (q : ∀ g e, Heap.ExtBut j s.heap g → (∃ o, g.get? e = some o ∧ o.cls = .type "StopIteration") → E (.ref e) { s with heap := g }) : wpAny (model P w) A (Builtin.SmallTypes.nextOf (.ref j)) Q E s := by
  obtain ⟨oj, gj, cj, dj⟩ := id hj
  obtain ⟨ot, gt, _, nt, dt⟩ := ht
  unfold Builtin.SmallTypes.nextOf
  refine wpAny_bind (wpAny_callSpecial?_slot (name := Str.ofString "__next__") hj.typeIs F.slot_tuple_iterator_next (wpAny_call_entry F.slot_tuple_iterator_next hj.typeIs F.entry_tuple_iterator_next ?_ (F.args_tuple_iterator_next_1 _)))
  show wpAny _ _ (field (.ref j) 0 >>= _) _ _ s
  refine wpAny_bind (wpAny_field gj dj (x := .ref t) rfl ?_)
  show wpAny _ _ (if (Value.ref t == Value.none) = true then _ else _) _ _ _
  rw [if_neg (show ¬ (Value.ref t == Value.none) = true from Bool.false_ne_true)]
  show wpAny _ _ (field (.ref j) 1 >>= _) _ _ s
  refine wpAny_bind (wpAny_field gj dj (x := .int n 0) rfl ?_)
  show wpAny _ _ (seqItems? (.ref t) >>= _) _ _ _
  refine wpAny_bind (wpAny_seqItems gt dt ?_)
  simp only [Int.toNat_natCast, hv]
  refine wpAny_bind (wpAny_rule (wpAny_bind (wpAny_setField gj dj (by simp) ?_)))
  show wpAny _ _ (newExc (.type "StopIteration") [] >>= _) _ _ _; refine wpAny_bind ?_
  simp only [newExc, newTuple]; refine wpAny_bind (wpAny_newObj_type ?_ (by size_fits))
  refine wpAny_bind (m := firstArgMember _ _) (wpAny_of_eq (a := Value.none) (by first | (simp only [firstArgMember]; rfl) | rfl) ?_); refine wpAny_newObj_type ?_ (by size_fits)
  simp only [raiseNew]; refine wpAny_bind (wpAny_handled ?_)
  first | rw [hh] | rw [show A.in1.handled = none from hh]
  exact wpAny_bind (wpAny_pure (wpAny_throw (q _ _ (((Heap.SameBut.update ..).extBut.push _).push _) ⟨_, Heap.get?_push_size _ rfl, rfl⟩)))
def Hu (h : Heap) (z p o : Addr) (u v : Value) : Prop := h.get? z = some { cls := .type "zip", dict := none, data := .fields #[u, v, .bool false, .ref p, .ref o], slots := #[] }
def AeI (u : Value) : Prop := u = .none ∨ ∃ k t, u = .int k t
structure Nh (z p o i j a b : Addr) : Prop where
  pz : p ≠ z
  oz : o ≠ z
  iz : i ≠ z
  jz : j ≠ z
  po : p ≠ o
  pi : p ≠ i
  pj : p ≠ j
  oi : o ≠ i
  oj : o ≠ j
  ij : i ≠ j
  az : a ≠ z
  ao : a ≠ o
  ai : a ≠ i
  aj : a ≠ j
  bz : b ≠ z
  bo : b ≠ o
  bi : b ≠ i
  bj : b ≠ j
structure Jx (h : Heap) (z p o i j a b : Addr) (k : Nat) (xs ys : Array Value) : Prop where
  zip : ∃ u v, Hu h z p o u v ∧ AeI u
  its : IsPair h p (.ref i) (.ref j)
  row : ∃ x y, IsPair h o x y
  i1 : h.IsTupleIter i a k
  i2 : h.IsTupleIter j b k
  t1 : h.IsTuple a xs
  t2 : h.IsTuple b ys
theorem Tn {M : Model} {a : Addr} {Q : Option Obj → Shared → Prop} (h : Q (s.heap.get? a) s) : wpAny M A (loadIfAlive a) Q E s := fun Γ p _ => by
  show Sem.wp M Γ (.loadIfAlive a _) _ _ p s
  rw [Sem.wp_loadIfAlive]
  exact (Sem.wp_pure ..).mpr h
theorem Wr {z p o : Addr} {u v : Value} (hz : Hu s.heap z p o u v) (hu : AeI u) : wpAny (model P w) A (Builtin.SmallTypes.ownedTupleIsFree (.ref z)) (fun _ s' => ∃ g v', s' = { s with heap := g } ∧ Hu g z p o u v' ∧ Heap.SameBut z s.heap g) E s := by
  unfold Builtin.SmallTypes.ownedTupleIsFree
  refine wpAny_bind (wpAny_field hz rfl (x := u) rfl ?_)
  rcases hu with rfl | ⟨n, tk, rfl⟩
  · exact wpAny_pure ⟨s.heap, v, rfl, hz, rfl, fun _ _ => rfl⟩
  · show wpAny _ _ (loadIfAlive n.toNat >>= _) _ _ _
    refine wpAny_bind (Tn ?_)
    cases hg : s.heap.get? n.toNat with
    | none => exact wpAny_pure ⟨s.heap, v, rfl, hz, rfl, fun _ _ => rfl⟩
    | some _ =>
      show wpAny _ _ (field (.ref z) 1 >>= _) _ _ _
      refine wpAny_bind (wpAny_field hz rfl (x := v) rfl ?_)
      by_cases hv : (v != Value.bool true) = true
      · dsimp only
        rw [if_pos hv]
        exact wpAny_bind (wpAny_setField_rec hz (by simp) fun g z1 s1 => wpAny_pure ⟨g, .bool true, rfl, z1, s1⟩)
      · dsimp only
        rw [if_neg hv]
        exact wpAny_pure ⟨s.heap, v, rfl, hz, rfl, fun _ _ => rfl⟩
theorem YG {z p o i j a b : Addr} {k : Nat} {xs ys : Array Value} {x y : Value} {Q : Value → Shared → Prop} (D : Nh z p o i j a b) (Z : Jx s.heap z p o i j a b k xs ys) (hx : xs[k]? = some x) (hy : ys[k]? = some y)
    (q : ∀ g T, Jx g z p o i j a b (k + 1) xs ys → IsPair g T x y → s.heap.objs.size ≤ T → (∀ c m, c ≠ z → c ≠ o → c ≠ i → c ≠ j → s.heap.get? c = some m → g.get? c = some m) → Q (.ref T) { s with heap := g }) :
    wpAny (model P w) A (Builtin.«zip.__next__» ⟨[.ref z], []⟩) (fun fin s' => ∃ v, fin = .done (.ret v) ∧ Q v s') E s := by
  obtain ⟨⟨u, v, hz, hu⟩, hp, ⟨x0, y0, ho⟩, h1, h2, l1, l2⟩ := Z
  show wpAny _ _ (field (.ref z) 2 >>= _) _ _ _
  refine wpAny_bind (wpAny_field hz rfl (x := .bool false) rfl ?_)
  show wpAny _ _ (field (.ref z) 3 >>= _) _ _ _
  refine wpAny_bind (wpAny_field hz rfl (x := .ref p) rfl (wpAny_bind (wpAny_seqItems hp rfl ?_)))
  show wpAny _ _ (Builtin.SmallTypes.ownedTupleIsFree (.ref z) >>= _) _ _ _
  refine wpAny_bind (wpAny_mono (Wr hz hu) (fun r s' ⟨g, v', e, hz', sb⟩ => ?_) fun _ _ z => z)
  subst e
  cases r with
  | true =>
    simp only [if_true]
    refine wpAny_bind (wpAny_rule (wpAny_bind (wpAny_field hz' rfl (x := .ref o) rfl ?_)))
    refine wpAny_bind (wpAny_setField_rec hz' (by simp) fun g1 z1 s1 => ?_)
    replace z1 : Hu g1 z p o .ellipsis v' := z1
    refine wpAny_bind ?_
    simp only [List.zipIdx_cons, List.zipIdx_nil, List.forIn_cons, List.forIn_nil]
    have b1 : ∀ c m, c ≠ z → s.heap.get? c = some m → g1.get? c = some m := fun c m n e => s1.extBut _ _ n (sb.extBut _ _ n e)
    refine wpAny_bind (wpAny_bind (wpAny_onRaise ?_))
    show wpAny _ _ (Builtin.SmallTypes.nextOf (.ref i) >>= _) _ _ _
    refine wpAny_bind (MJ (s := { s with heap := g1 }) (h1.at fun m e => b1 _ m D.iz e) (l1.at fun m e => b1 _ m D.az e) hx fun g2 i2 s2 => wpAny_pure ?_)
    have o2 : IsPair g2 o x0 y0 := s2.extBut _ _ D.oi (b1 _ _ D.oz ho)
    refine wpAny_bind (wpAny_seqItems o2 rfl (wpAny_bind (wpAny_updateSeq_pair o2 fun g3 o3 s3 => wpAny_bind (wpAny_letGo (wpAny_pure ?_)))))
    replace o3 : IsPair g3 o x y0 := o3
    have b3 : ∀ c m, c ≠ z → c ≠ i → c ≠ o → s.heap.get? c = some m → g3.get? c = some m := fun c m n1 n2 n3 e => s3.extBut _ _ n3 (s2.extBut _ _ n2 (b1 _ _ n1 e))
    refine wpAny_bind (wpAny_bind (wpAny_onRaise ?_))
    show wpAny _ _ (Builtin.SmallTypes.nextOf (.ref j) >>= _) _ _ _
    refine wpAny_bind (MJ (s := { s with heap := g3 }) (h2.at fun m e => b3 _ m D.jz D.ij.symm D.oj.symm e) (l2.at fun m e => b3 _ m D.bz D.bi D.bo e) hy fun g4 j4 s4 => wpAny_pure ?_)
    have o4 : IsPair g4 o x y0 := s4.extBut _ _ D.oj o3
    refine wpAny_bind (wpAny_seqItems o4 rfl (wpAny_bind (wpAny_updateSeq_pair o4 fun g5 o5 s5 => wpAny_bind (wpAny_letGo (wpAny_pure (wpAny_pure ?_))))))
    replace o5 : IsPair g5 o x y := o5
    have b5 : ∀ c m, c ≠ z → c ≠ o → c ≠ i → c ≠ j → s.heap.get? c = some m → g5.get? c = some m := fun c m n1 n2 n3 n4 e => s5.extBut _ _ n2 (s4.extBut _ _ n4 (b3 _ _ n1 n3 n2 e))
    have z5 : Hu g5 z p o .ellipsis v' := s5.extBut _ _ D.oz.symm (s4.extBut _ _ D.jz.symm (s3.extBut _ _ D.oz.symm (s2.extBut _ _ D.iz.symm z1)))
    have i5 : g5.IsTupleIter i a (k + 1) := i2.at fun m e => s5.extBut _ _ D.oi.symm (s4.extBut _ _ D.ij (s3.extBut _ _ D.oi.symm e))
    have j5 : g5.IsTupleIter j b (k + 1) := j4.at fun m e => s5.extBut _ _ D.oj.symm e
    have sz : g5.objs.size = s.heap.objs.size := by rw [s5.1, s4.1, s3.1, s2.1, s1.1, sb.1]
    refine wpAny_bind (wpAny_seqItems o5 rfl (wpAny_bind (wpAny_newTuple ?_)))
    show wpAny _ _ (Builtin.SmallTypes.ownedTupleHandOut (.ref z) (.ref g5.objs.size) >>= _) _ _ _
    refine wpAny_bind ?_
    unfold Builtin.SmallTypes.ownedTupleHandOut
    have z6 : Hu (g5.push { cls := .type "tuple", data := .seq #[x, y] }) z p o .ellipsis v' := Heap.get?_push_of_some _ z5
    refine wpAny_bind (wpAny_setField_rec z6 (by simp) fun g7 z7 s7 => ?_)
    replace z7 : Hu g7 z p o (rawInt g5.objs.size) v' := z7
    refine wpAny_setField_rec z7 (by simp) fun g8 z8 s8 => wpAny_pure ⟨_, rfl, ?_⟩
    replace z8 : Hu g8 z p o (rawInt g5.objs.size) (.bool false) := z8
    have b8 : ∀ c m, c ≠ z → g5.get? c = some m → g8.get? c = some m := fun c m n e => s8.extBut _ _ n (s7.extBut _ _ n (Heap.get?_push_of_some _ e))
    have lz : z < g5.objs.size := Heap.lt_size z5
    refine q g8 g5.objs.size ⟨⟨_, _, z8, .inr ⟨_, _, rfl⟩⟩, b8 _ _ D.pz (b5 _ _ D.pz D.po D.pi D.pj hp), ⟨x, y, b8 _ _ D.oz o5⟩, i5.at fun m e => b8 _ m D.iz e, j5.at fun m e => b8 _ m D.jz e, l1.at fun m e => b8 _ m D.az (b5 _ m D.az D.ao D.ai D.aj e), l2.at fun m e => b8 _ m D.bz (b5 _ m D.bz D.bo D.bi D.bj e)⟩ ?_ (by rw [sz]; exact Nat.le_refl _) fun c m n1 n2 n3 n4 e => b8 c m n1 (b5 c m n1 n2 n3 n4 e)
    exact s8.extBut _ _ (Nat.ne_of_gt lz) (s7.extBut _ _ (Nat.ne_of_gt lz) (Heap.get?_push_size _ rfl))
  | false =>
    simp only [Bool.false_eq_true, if_false]
    rw [← Array.forIn_toList]
    simp only [List.forIn_cons, List.forIn_nil]
    have b0 : ∀ c m, c ≠ z → s.heap.get? c = some m → g.get? c = some m := fun c m n e => sb.extBut _ _ n e
    refine wpAny_bind (wpAny_bind (wpAny_bind (wpAny_holding ?_)))
    show wpAny _ _ (Builtin.SmallTypes.nextOf (.ref i) >>= _) _ _ _
    refine wpAny_bind (MJ (s := { s with heap := g }) (h1.at fun m e => b0 _ m D.iz e) (l1.at fun m e => b0 _ m D.az e) hx fun g2 i2 s2 => wpAny_pure (wpAny_pure ?_))
    have b2 : ∀ c m, c ≠ z → c ≠ i → s.heap.get? c = some m → g2.get? c = some m := fun c m n1 n2 e => s2.extBut _ _ n2 (b0 _ _ n1 e)
    refine wpAny_bind (wpAny_bind (wpAny_holding ?_))
    show wpAny _ _ (Builtin.SmallTypes.nextOf (.ref j) >>= _) _ _ _
    refine wpAny_bind (MJ (s := { s with heap := g2 }) (h2.at fun m e => b2 _ m D.jz D.ij.symm e) (l2.at fun m e => b2 _ m D.bz D.bi e) hy fun g4 j4 s4 => wpAny_pure (wpAny_pure (wpAny_pure ?_)))
    have b4 : ∀ c m, c ≠ z → c ≠ i → c ≠ j → s.heap.get? c = some m → g4.get? c = some m := fun c m n1 n2 n3 e => s4.extBut _ _ n3 (b2 _ _ n1 n2 e)
    have z4 : Hu g4 z p o u v' := s4.extBut _ _ D.jz.symm (s2.extBut _ _ D.iz.symm hz')
    have i4 : g4.IsTupleIter i a (k + 1) := i2.at fun m e => s4.extBut _ _ D.ij e
    have sz : g4.objs.size = s.heap.objs.size := by rw [s4.1, s2.1, sb.1]
    have up : ∀ {c m}, g4.get? c = some m → (g4.push { cls := .type "tuple", data := .seq #[x, y] }).get? c = some m := fun e => Heap.get?_push_of_some _ e
    refine wpAny_bind (wpAny_newTuple (wpAny_pure ⟨_, rfl, ?_⟩) (show 2 ≤ sizeLine by decide))
    exact q _ g4.objs.size ⟨⟨_, _, up z4, hu⟩, up (b4 _ _ D.pz D.pi D.pj hp), ⟨x0, y0, up (b4 _ _ D.oz D.oi D.oj ho)⟩, i4.at fun m e => up e, j4.at fun m e => up e, l1.at fun m e => up (b4 _ m D.az D.ai D.aj e), l2.at fun m e => up (b4 _ m D.bz D.bi D.bj e)⟩ (Heap.get?_push_size _ rfl) (by rw [sz]; exact Nat.le_refl _) fun c m n1 n2 n3 n4 e => up (b4 c m n1 n3 n4 e)
theorem Ab3 {z p o i j a b : Addr} {k : Nat} {xs ys : Array Value} {Q : Fin → Shared → Prop} (hh : A.handled = none) (D : Nh z p o i j a b) (Z : Jx s.heap z p o i j a b k xs ys) (hx : xs[k]? = none)
    (q : ∀ g e, (∀ c m, c ≠ z → c ≠ o → c ≠ i → c ≠ j → s.heap.get? c = some m → g.get? c = some m) → (∃ m, g.get? e = some m ∧ m.cls = .type "StopIteration") → E (.ref e) { s with heap := g }) :
    wpAny (model P w) A (Builtin.«zip.__next__» ⟨[.ref z], []⟩) Q E s := by
  obtain ⟨⟨u, v, hz, hu⟩, hp, ⟨x0, y0, ho⟩, h1, h2, l1, l2⟩ := Z
  show wpAny _ _ (field (.ref z) 2 >>= _) _ _ _
  refine wpAny_bind (wpAny_field hz rfl (x := .bool false) rfl ?_)
  show wpAny _ _ (field (.ref z) 3 >>= _) _ _ _
  refine wpAny_bind (wpAny_field hz rfl (x := .ref p) rfl (wpAny_bind (wpAny_seqItems hp rfl ?_)))
  show wpAny _ _ (Builtin.SmallTypes.ownedTupleIsFree (.ref z) >>= _) _ _ _
  refine wpAny_bind (wpAny_mono (Wr hz hu) (fun r s' ⟨g, v', e, hz', sb⟩ => ?_) fun _ _ z => z)
  subst e
  cases r with
  | true =>
    simp only [if_true]
    refine wpAny_bind (wpAny_rule (wpAny_bind (wpAny_field hz' rfl (x := .ref o) rfl ?_)))
    refine wpAny_bind (wpAny_setField_rec hz' (by simp) fun g1 z1 s1 => ?_)
    replace z1 : Hu g1 z p o .ellipsis v' := z1
    refine wpAny_bind ?_
    simp only [List.zipIdx_cons, List.zipIdx_nil, List.forIn_cons, List.forIn_nil]
    have b1 : ∀ c m, c ≠ z → s.heap.get? c = some m → g1.get? c = some m := fun c m n e => s1.extBut _ _ n (sb.extBut _ _ n e)
    refine wpAny_bind (wpAny_bind (wpAny_onRaise ?_))
    show wpAny _ _ (Builtin.SmallTypes.nextOf (.ref i) >>= _) _ _ _
    refine wpAny_bind (XS (s := { s with heap := g1 }) hh (h1.at fun m e => b1 _ m D.iz e) (l1.at fun m e => b1 _ m D.az e) hx fun g2 e s2 ⟨m, he, hc⟩ => ?_)
    have z2 : Hu g2 z p o .ellipsis v' := s2 _ _ D.iz.symm z1
    have ne : e ≠ z := fun x => by subst x; rw [z2] at he; cases he; simp at hc
    exact wpAny_setField_rec z2 (by simp) fun g3 _ s3 => q g3 e (fun c m n1 _ n3 _ e => s3.extBut _ _ n1 (s2 _ _ n3 (b1 _ _ n1 e))) ⟨m, s3.extBut _ _ ne he, hc⟩
  | false =>
    simp only [Bool.false_eq_true, if_false]
    rw [← Array.forIn_toList]
    simp only [List.forIn_cons, List.forIn_nil]
    refine wpAny_bind (wpAny_bind (wpAny_bind (wpAny_holding ?_)))
    show wpAny _ _ (Builtin.SmallTypes.nextOf (.ref i) >>= _) _ _ _
    exact wpAny_bind (XS (s := { s with heap := g }) hh (h1.at fun m e => sb.extBut _ m D.iz e) (l1.at fun m e => sb.extBut _ m D.az e) hx fun g2 e s2 he => q g2 e (fun c m n1 _ n3 _ e => s2 _ _ n3 (sb.extBut _ _ n1 e)) he)
theorem Yt {z p o i j a b : Addr} {k : Nat} {xs ys : Array Value} {x y : Value} {Q : Option Value → Shared → Prop} (D : Nh z p o i j a b) (Z : Jx s.heap z p o i j a b k xs ys) (hx : xs[k]? = some x) (hy : ys[k]? = some y)
    (q : ∀ g T, Jx g z p o i j a b (k + 1) xs ys → IsPair g T x y → s.heap.objs.size ≤ T → (∀ c m, c ≠ z → c ≠ o → c ≠ i → c ≠ j → s.heap.get? c = some m → g.get? c = some m) → Q (some (.ref T)) { s with heap := g }) :
    wpAny (model P w) A (pyNext (.ref z)) Q E s := by
  obtain ⟨u, v, hz, _⟩ := Z.zip
  have ty : s.TypeIs (.ref z) "zip" := ⟨_, hz, rfl⟩
  unfold pyNext
  exact wpAny_bind (wpAny_attempt (wpAny_callSpecial?_slot (name := Str.ofString "__next__") ty F.slot_zip_next (wpAny_call_entry F.slot_zip_next ty F.entry_zip_next (YG D Z hx hy fun g T e1 e2 e3 e4 => wpAny_pure (q g T e1 e2 e3 e4)) (F.args_zip_next_1 _))))
theorem Zx {z p o i j a b : Addr} {k : Nat} {xs ys : Array Value} {Q : Option Value → Shared → Prop} (hh : A.handled = none) (D : Nh z p o i j a b) (Z : Jx s.heap z p o i j a b k xs ys) (hx : xs[k]? = none)
    (q : ∀ g, (∀ c m, c ≠ z → c ≠ o → c ≠ i → c ≠ j → s.heap.get? c = some m → g.get? c = some m) → Q none { s with heap := g }) : wpAny (model P w) A (pyNext (.ref z)) Q E s := by
  obtain ⟨u, v, hz, _⟩ := Z.zip
  have ty : s.TypeIs (.ref z) "zip" := ⟨_, hz, rfl⟩
  unfold pyNext
  refine wpAny_bind (wpAny_attempt (wpAny_callSpecial?_slot (name := Str.ofString "__next__") ty F.slot_zip_next (wpAny_call_entry F.slot_zip_next ty F.entry_zip_next (Ab3 hh D Z hx fun g e hk ⟨m, he, hc⟩ => ?_) (F.args_zip_next_1 _))))
  exact wpAny_bind (wpAny_isInstance (T := "StopIteration") (b := true) ⟨m, he, hc⟩ isSubtype_stop (wpAny_pure (q _ hk)))
theorem Ul {z p o : Addr} {u v : Value} {Q : Value → Shared → Prop} (hz : Hu s.heap z p o u v) (q : Q (.ref z) s) : wpAny (model P w) A (pyIter (.ref z)) Q E s := by
  have ty : s.TypeIs (.ref z) "zip" := ⟨_, hz, rfl⟩
  refine wpAny_pyIter_slot ty F.slot_zip_iter (wpAny_call_entry F.slot_zip_iter ty F.entry_zip_iter ?_ (F.args_zip_iter_1 _))
  show wpAny _ _ (ret (.ref z)) _ _ _
  exact wpAny_pure ⟨_, rfl, "zip", _, ty, F.slot_zip_next.lookup, q⟩
abbrev zA (h : Heap) (a : Addr) : Heap := h.push { cls := .type "tuple_iterator", data := .fields #[.ref a, .int 0 0] }
abbrev zB (h : Heap) (a b : Addr) : Heap := (zA h a).push { cls := .type "tuple_iterator", data := .fields #[.ref b, .int 0 0] }
abbrev zC (h : Heap) (a b : Addr) : Heap := (zB h a b).push { cls := .type "tuple", data := .seq #[.ref h.objs.size, .ref (zA h a).objs.size] }
abbrev zD (h : Heap) (a b : Addr) : Heap := (zC h a b).push { cls := .type "tuple", data := .seq #[.none, .none] }
abbrev zE (h : Heap) (a b : Addr) : Heap := (zD h a b).push { cls := .type "zip", data := .fields #[.none, .bool false, .bool false, .ref (zB h a b).objs.size, .ref (zC h a b).objs.size] }
theorem Abx (a b : Addr) (xs ys : Array Value) : Meets (Builtin.«zip.__new__» ⟨[.type "zip", .ref a, .ref b], []⟩) (fun _ R s => s.heap.IsTuple a xs ∧ s.heap.IsTuple b ys ∧ R (.ok (.ret (.ref (zD s.heap a b).objs.size))) { s with heap := zE s.heap a b }) :=
  .of_wp fun P w A R s h => by
    obtain ⟨hp, gs, dr, tk, os⟩ := s; obtain ⟨t1, t2, h⟩ := h
    have sz := sub_zip
    have m1 : Heap.IsTuple (Shared.heap ⟨hp, gs, dr, tk, os⟩) a xs := t1
    have m2 : Heap.IsTuple (Shared.heap ⟨hp.push { cls := .type "tuple_iterator", data := .fields #[.ref a, .int 0 0] }, gs, dr, tk, os⟩) b ys := Heap.IsTuple.push t2 _
    wp_walk using wpAny_pyIter_tuple m1, wpAny_pyIter_tuple m2
    exact ⟨_, rfl, h⟩
theorem Agy {n a b : Nat} (la : a < n) (lb : b < n) : Nh (n + 4) (n + 2) (n + 3) n (n + 1) a b where
  pz := fun e => absurd (show (n + 2 : Nat) = n + 4 from e) (by omega)
  oz := fun e => absurd (show (n + 3 : Nat) = n + 4 from e) (by omega)
  iz := fun e => absurd (show (n : Nat) = n + 4 from e) (by omega)
  jz := fun e => absurd (show (n + 1 : Nat) = n + 4 from e) (by omega)
  po := fun e => absurd (show (n + 2 : Nat) = n + 3 from e) (by omega)
  pi := fun e => absurd (show (n + 2 : Nat) = n from e) (by omega)
  pj := fun e => absurd (show (n + 2 : Nat) = n + 1 from e) (by omega)
  oi := fun e => absurd (show (n + 3 : Nat) = n from e) (by omega)
  oj := fun e => absurd (show (n + 3 : Nat) = n + 1 from e) (by omega)
  ij := fun e => absurd (show (n : Nat) = n + 1 from e) (by omega)
  az := fun e => absurd (show (a : Nat) = n + 4 from e) (by omega)
  ao := fun e => absurd (show (a : Nat) = n + 3 from e) (by omega)
  ai := fun e => absurd (show (a : Nat) = n from e) (by omega)
  aj := fun e => absurd (show (a : Nat) = n + 1 from e) (by omega)
  bz := fun e => absurd (show (b : Nat) = n + 4 from e) (by omega)
  bo := fun e => absurd (show (b : Nat) = n + 3 from e) (by omega)
  bi := fun e => absurd (show (b : Nat) = n from e) (by omega)
  bj := fun e => absurd (show (b : Nat) = n + 1 from e) (by omega)
theorem X7 {a b : Addr} {xs ys : Array Value} {Q : Value → Shared → Prop} (t1 : s.heap.IsTuple a xs) (t2 : s.heap.IsTuple b ys)
    (q : ∀ g z p o i j, Nh z p o i j a b → Jx g z p o i j a b 0 xs ys → (∀ c ∈ [z, p, o, i, j], s.heap.objs.size ≤ c) → (∀ c m, s.heap.get? c = some m → g.get? c = some m) → Q (.ref z) { s with heap := g }) :
    wpAny (model P w) A (call (.type "zip") [.ref a, .ref b]) Q E s := by
  refine callType_new F.called_zip (by decide) (F.typeCall_zip_2 _ _) (F.newCall_zip_2 _ _) (fun obj => F.args_object_init_3 obj _ _) F.entry_zip_new (Abx a b xs ys) ⟨t1, t2, ?_⟩
  have n1 : (zA s.heap a).objs.size = s.heap.objs.size + 1 := Heap.size_push ..
  have n2 : (zB s.heap a b).objs.size = s.heap.objs.size + 2 := by rw [Heap.size_push, n1]
  have n3 : (zC s.heap a b).objs.size = s.heap.objs.size + 3 := by rw [Heap.size_push, n2]
  have n4 : (zD s.heap a b).objs.size = s.heap.objs.size + 4 := by rw [Heap.size_push, n3]
  have g5 : (zE s.heap a b).get? (zD s.heap a b).objs.size = some _ := Heap.get?_push_size _ rfl
  have g4 : (zE s.heap a b).get? (zC s.heap a b).objs.size = some _ := Heap.get?_push_of_some _ (Heap.get?_push_size _ rfl)
  have g3 : (zE s.heap a b).get? (zB s.heap a b).objs.size = some _ := Heap.get?_push_of_some _ (Heap.get?_push_of_some _ (Heap.get?_push_size _ rfl))
  have g2 : (zE s.heap a b).get? (zA s.heap a).objs.size = some _ := Heap.get?_push_of_some _ (Heap.get?_push_of_some _ (Heap.get?_push_of_some _ (Heap.get?_push_size _ rfl)))
  have g1 : (zE s.heap a b).get? s.heap.objs.size = some _ := Heap.get?_push_of_some _ (Heap.get?_push_of_some _ (Heap.get?_push_of_some _ (Heap.get?_push_of_some _ (Heap.get?_push_size _ rfl))))
  have up : ∀ c m, s.heap.get? c = some m → (zE s.heap a b).get? c = some m := fun c m e => Heap.get?_push_of_some _ (Heap.get?_push_of_some _ (Heap.get?_push_of_some _ (Heap.get?_push_of_some _ (Heap.get?_push_of_some _ e))))
  have la : a < s.heap.objs.size := by obtain ⟨_, e, _⟩ := t1; exact Heap.lt_size e
  have lb : b < s.heap.objs.size := by obtain ⟨_, e, _⟩ := t2; exact Heap.lt_size e
  show _ ∧ _
  refine ⟨⟨_, g5, rfl⟩, q _ _ (zB s.heap a b).objs.size (zC s.heap a b).objs.size s.heap.objs.size (zA s.heap a).objs.size ?_ ⟨⟨_, _, g5, .inl rfl⟩, g3, ⟨_, _, g4⟩, ⟨_, g1, rfl, rfl⟩, ⟨_, g2, rfl, rfl⟩, t1.at fun m e => up _ m e, t2.at fun m e => up _ m e⟩ ?_ up⟩
  · rw [n1, n2, n3, n4]
    exact Agy la lb
  · intro c hc
    simp only [List.mem_cons, List.not_mem_nil, or_false] at hc
    rw [n1, n2, n3, n4] at hc
    rcases hc with rfl | rfl | rfl | rfl | rfl
    · exact Nat.le_add_right ..
    · exact Nat.le_add_right ..
    · exact Nat.le_add_right ..
    · exact Nat.le_refl _
    · exact Nat.le_add_right ..
end
def Itz (K : PySem.W.Frag) (a b : Addr) : It :=
  ⟨fun i H => ∃ xs ys x y, SqT K H a xs ∧ SqT K H b ys ∧ xs[i]? = some x ∧ ys[i]? = some y,
   fun i H v H' => ∃ T x y, v = .ref T ∧ H T = none ∧ H' = upd H T (.tup [x, y]) ∧ (∀ xs, SqT K H a xs → xs[i]? = some x) ∧ ∀ ys, SqT K H b ys → ys[i]? = some y,
   fun i H => ∃ xs ys, SqT K H a xs ∧ SqT K H b ys ∧ xs.length ≤ i⟩
section
variable {X : Cx} {tg : Expr} {pins : List (Addr × Obj)} {σ : St} {H : Hp} {s : Shared} {g : Heap}
theorem Inv.turnLay {ch : List Addr} {T : Addr} {o : HO} (I : Inv X pins σ H s) (k : ∀ b u, b ∉ ch → s.heap.get? b = some u → g.get? b = some u) (hch : ∀ b ∈ ch, Kp X pins H b) (hT : s.heap.objs.size ≤ T)
    (new : Gu X.prog X.w (upd H T o) g T o) : Inv X pins σ (upd H T o) { s with heap := g } := by
  have nT : H T = none := I.hok.fresh hT
  have nit : ∀ b u, H b = some u → b ∉ ch := fun b u e z => by rw [(hch b z).1] at e; cases e
  have lt : ∀ b u, s.heap.get? b = some u → b ≠ T := fun b u e => Nat.ne_of_lt (Nat.lt_of_lt_of_le (Heap.lt_size e) hT)
  refine I.step (g' := s.gens) (d' := s.drawn) (t' := s.toks) (ch := ch) (fun b hb => ?_) (fun b u _ _ hc e _ => k b u hc e) (fun b u _ _ hc e _ => ⟨u.slots, k b u hc e⟩) (fun b u _ e n => by rw [Bc (lt b u e)]; exact n)
    (fun b u hc e => ⟨u, k b u hc e⟩) (fun b xs e => by rw [Bc (Bu e nT)]; exact e) (fun b u xs e => by rw [Bc (Bu e nT)]; exact e) (fun b ps e => ⟨#[], by rw [Bc (Bu e nT), e]; simp⟩) (fun m hm => ?_) (fun b u e => ?_) I.bare
  · obtain ⟨_, f1, _, f3, f4, f5⟩ := hch b hb
    exact ⟨f3, f1, f4, f5⟩
  · obtain ⟨u, es, ep, hu, r⟩ := hm
    exact ⟨u, es, ep, k _ u (fun z => (hch _ z).2.1 rfl) hu, r⟩
  · by_cases z : b = T
    · subst z
      rw [BJ] at e; cases e
      exact new
    · rw [Bc z] at e
      refine (I.hok b u e).stay (fun c v hc q => k c v ?_ q) (fun c q => by rw [Bc (Bu q nT)]; exact q) fun c xs q => by rw [Bc (Bu q nT)]; exact q
      rcases hc with z | z
      · rw [z]; exact nit b u e
      · exact nit c _ z
theorem Inv.turnAll {ch : List Addr} (I : Inv X pins σ H s) (k : ∀ b u, b ∉ ch → s.heap.get? b = some u → g.get? b = some u) (hch : ∀ b ∈ ch, Kp X pins H b) : Inv X pins σ H { s with heap := g } := by
  have nit : ∀ b u, H b = some u → b ∉ ch := fun b u e z => by rw [(hch b z).1] at e; cases e
  refine I.step (g' := s.gens) (d' := s.drawn) (t' := s.toks) (ch := ch) (fun b hb => ?_) (fun b u _ _ hc e _ => k b u hc e) (fun b u _ _ hc e _ => ⟨u.slots, k b u hc e⟩) (fun b u _ e n => n)
    (fun b u hc e => ⟨u, k b u hc e⟩) (fun b xs e => e) (fun b u xs e => e) (fun b ps e => ⟨#[], by rw [e]; simp⟩) (fun m hm => ?_) (fun b u e => ?_) I.bare
  · obtain ⟨_, f1, _, f3, f4, f5⟩ := hch b hb
    exact ⟨f3, f1, f4, f5⟩
  · obtain ⟨u, es, ep, hu, r⟩ := hm
    exact ⟨u, es, ep, k _ u (fun z => (hch _ z).2.1 rfl) hu, r⟩
  · refine (I.hok b u e).stay (fun c v hc q => k c v ?_ q) (fun c q => q) fun c xs q => q
    rcases hc with z | z
    · rw [z]; exact nit b u e
    · exact nit c _ z
structure Wt (z p o i j a b : Addr) (k : Nat) (h : Heap) : Prop where
  zip : ∃ u v, Hu h z p o u v ∧ AeI u
  its : IsPair h p (.ref i) (.ref j)
  row : ∃ x y, IsPair h o x y
  i1 : h.IsTupleIter i a k
  i2 : h.IsTupleIter j b k
theorem Wt.on {h : Heap} {z p o i j a b : Addr} {k : Nat} {xs ys : Array Value} (Z : Wt z p o i j a b k h) (t1 : h.IsTuple a xs) (t2 : h.IsTuple b ys) : Jx h z p o i j a b k xs ys := ⟨Z.zip, Z.its, Z.row, Z.i1, Z.i2, t1, t2⟩
theorem Jx.tn {h : Heap} {z p o i j a b : Addr} {k : Nat} {xs ys : Array Value} (Z : Jx h z p o i j a b k xs ys) : Wt z p o i j a b k h := ⟨Z.zip, Z.its, Z.row, Z.i1, Z.i2⟩
theorem Zi {P : Program} {w : World} {K : PySem.W.Frag} {x : Str} {px : Pos} {z p o i j a b : Addr} (D : Nh z p o i j a b) : Turn P w K (.Name x px) (Itz K a b) [z, p, o, i, j] z (Wt z p o i j a b) where
  mem := by simp
  obj := fun n h Z c hc => by
    obtain ⟨⟨u, v, e1, _⟩, e2, ⟨x, y, e3⟩, ⟨m4, e4, _, d4⟩, ⟨m5, e5, _, d5⟩⟩ := Z
    simp only [List.mem_cons, List.not_mem_nil, or_false] at hc
    rcases hc with rfl | rfl | rfl | rfl | rfl
    · exact ⟨_, e1, fun v q => by cases (show Data.fields _ = Data.cell v from q)⟩
    · exact ⟨_, e2, fun v q => by cases (show Data.seq _ _ = Data.cell v from q)⟩
    · exact ⟨_, e3, fun v q => by cases (show Data.seq _ _ = Data.cell v from q)⟩
    · exact ⟨m4, e4, fun v q => by rw [d4] at q; cases q⟩
    · exact ⟨m5, e5, fun v q => by rw [d5] at q; cases q⟩
  keep := fun n h h' Z k => by
    obtain ⟨⟨u, v, e1, l⟩, e2, ⟨x, y, e3⟩, h4, h5⟩ := Z
    exact ⟨⟨u, v, k z (by simp) _ e1, l⟩, k p (by simp) _ e2, ⟨x, y, k o (by simp) _ e3⟩, h4.at fun m e => k i (by simp) m e, h5.at fun m e => k j (by simp) m e⟩
  item := by
    intro X hP hw hK hc n pins s σ H E I hf Z hg
    subst hP hw hK
    obtain ⟨xs, ys, x, y, q1, q2, hx, hy⟩ := hg
    obtain ⟨us, r1, p1, _⟩ := I.tuple q1
    obtain ⟨vs, r2, p2, _⟩ := I.tuple q2
    obtain ⟨u, hu, ru⟩ := r1.get hx
    obtain ⟨v, hv, rv⟩ := r2.get hy
    refine Yt D (Z.on (show s.heap.IsTuple a us.toArray from p1) (show s.heap.IsTuple b vs.toArray from p2)) (x := u) (y := v) (by simpa using hu) (by simpa using hv) fun g T Z' hT lT kk => ?_
    have nT : H T = none := I.hok.fresh lT
    have I1 : Inv X pins σ (upd H T (.tup [x, y])) { s with heap := g } := I.turnLay (ch := [z, p, o, i, j]) (fun c m nc e => by
      simp only [List.mem_cons, List.not_mem_nil, or_false, not_or] at nc
      exact kk c m nc.1 nc.2.2.1 nc.2.2.2.1 nc.2.2.2.2 e) hf lT ⟨by show 2 ≤ sizeLine; decide, [u, v], .cons ru (.cons rv .nil), ⟨_, hT, rfl, 0, rfl⟩⟩
    refine ⟨_, rfl, ?_⟩
    show wpAny (model X.prog X.w) X.A (pure ()) _ _ _
    refine wpAny_pure ⟨.ref T, _, I1, rfl, ⟨T, x, y, rfl, nT, rfl, fun xs' h' => by rw [I.tuple_inj h' q1]; exact hx, fun ys' h' => by rw [I.tuple_inj h' q2]; exact hy⟩, Z'.tn, fun c hc => ?_⟩
    have e : c ≠ T := fun z => by
      obtain ⟨m, e, _⟩ := (by
        obtain ⟨⟨u, v, e1, _⟩, e2, ⟨x, y, e3⟩, ⟨m4, e4, _⟩, ⟨m5, e5, _⟩⟩ := Z
        simp only [List.mem_cons, List.not_mem_nil, or_false] at hc
        rcases hc with rfl | rfl | rfl | rfl | rfl
        · exact ⟨_, e1, trivial⟩
        · exact ⟨_, e2, trivial⟩
        · exact ⟨_, e3, trivial⟩
        · exact ⟨_, e4, trivial⟩
        · exact ⟨_, e5, trivial⟩ : ∃ m, s.heap.get? c = some m ∧ True)
      exact absurd (Heap.lt_size e) (Nat.not_lt.mpr (by rw [z]; exact lT))
    rw [Bc e]
    exact (hf c hc).1
  done := by
    intro X hP hw hK hc n pins s σ H E I hf Z hg
    subst hP hw hK
    obtain ⟨xs, ys, q1, q2, hx⟩ := hg
    obtain ⟨us, r1, p1, _⟩ := I.tuple q1
    obtain ⟨vs, r2, p2, _⟩ := I.tuple q2
    have hl := r1.length
    exact Zx (I.ok.hd hc) D (Z.on (show s.heap.IsTuple a us.toArray from p1) (show s.heap.IsTuple b vs.toArray from p2)) (by simp; omega) fun g kk => ⟨rfl, I.turnAll (ch := [z, p, o, i, j]) (fun c m nc e => by
      simp only [List.mem_cons, List.not_mem_nil, or_false, not_or] at nc
      exact kk c m nc.1 nc.2.2.1 nc.2.2.2.1 nc.2.2.2.2 e) hf⟩
  self := fun _ _ _ _ _ Z h => by
    obtain ⟨u, v, e, _⟩ := Z.zip
    exact Ul e h
end
end L2
namespace L2
open PySem PySem.Spec PyProof.Rows PySem.SeqAt
section
variable {X : Cx} {tg : Expr}
def Ajq (K : PySem.W.Frag) (ta : TA) : TI := fun σ H R => ta σ H fun vs H1 => ∃ a b, vs = [.ref a, .ref b] ∧ (∃ xs, SqT K H1 a xs) ∧ (∃ ys, SqT K H1 b ys) ∧ R (Itz K a b) H1
theorem Aew {x : Str} {px : Pos} {a b : Expr} {ta : TA} {p pos : Pos} (hg : Gl X "zip") (hm : X.mg "zip" = none) (ha : PA X [a, b] ta) (hs : starEach [a, b] X.env = [(false, eval a X.env), (false, eval b X.env)] := by rfl) (hs2 : starEach [b] X.env = [(false, eval b X.env)] := by rfl) :
    PI X (.Name x px) (.Call (.Name "zip" p) [a, b] [] pos) (Ajq X.K ta) := by
  intro pins s σ H R I h
  refine Call_ (N5 I hg hm (u := .type "zip") rfl (PyProof.Rows.callWith_type1 (thn (ha pos pins s σ H _ I h) fun us s1 ⟨vs, H1, I1, r1, q1⟩ => ?_) (by rw [hs, hs2]) (by rw [hs2]; rfl)))
  obtain ⟨c, d, e, ⟨xs, hx⟩, ⟨ys, hy⟩, q⟩ := q1
  subst e
  cases r1 with
  | cons r rr =>
    cases rr with
    | cons r' rr =>
      cases rr
      cases r; cases r'
      obtain ⟨us, _, p1, _⟩ := I1.tuple hx
      obtain ⟨ws, _, p2, _⟩ := I1.tuple hy
      refine X7 (show s1.heap.IsTuple c us.toArray from p1) (show s1.heap.IsTuple d ws.toArray from p2) fun g z pp o i j D Z new kk => ?_
      obtain ⟨u, v, e, _⟩ := Z.zip
      refine Ul e ⟨z, [z, pp, o, i, j], _, _, H1, rfl, I1.kept (t' := s1.toks) kk, Zi D, Z.tn, fun b hb => ?_, q⟩
      exact I1.fpOk (new b hb) (I1.hok.fresh (new b hb))
def ItN (K : PySem.W.Frag) (M : Hp) (J : It) (items : List Dt) : Prop := ∀ H, Same M H →
  (∀ (k : Nat) d, items[k]? = some d → J.go k H ∧ ∀ x H', J.yld k H x H' → Same H H' ∧ ∀ G : List Addr, (∀ a ∈ G, H a ≠ none) → Same M (mask G H) → Rp K (mask G H') d x) ∧ J.stop items.length H
def lIN (K : PySem.W.Frag) (ti : DTI) : TI := fun σ H R => ∃ B F O ρ, Rep K B F O H σ ρ ∧ ti ρ fun items => ∀ J H', Same H H' → ItN K (mask (F ++ O) H') J items → R J H'
structure DIN (X : Cx) (tg iter : Expr) (ti : DTI) : Prop where
  mono : ∀ {ρ Q Q'}, (∀ d, Q d → Q' d) → ti ρ Q → ti ρ Q'
  pi : PI X tg iter (lIN X.K ti)
theorem W0 {K : PySem.W.Frag} {sl : List Nat} {ti : DTI} {dt : DTT} {de : DTE} (mi : ∀ {ρ Q Q'}, (∀ d, Q d → Q' d) → ti ρ Q → ti ρ Q') (mt : ∀ {ρ Q Q'}, (∀ d, Q d → Q' d) → dt ρ Q → dt ρ Q') (me : ∀ {ρ Q Q'}, (∀ d, Q d → Q' d) → de ρ Q → de ρ Q')
    (σ : St) (H : Hp) (Q : VK) (h : lE K (Jr sl ti dt de) σ H Q) : WM sl (lIN K ti) (lT K dt) (lE K de) σ H Q := by
  obtain ⟨B, F, O, ρ, R, h⟩ := h
  refine ⟨B, F, O, ρ, R, mi (fun items ⟨h1, h2, W, w0, st, fin⟩ J H1 s1 it => ?_) h⟩
  have R1 := R.same s1
  obtain ⟨vs, ds, ev, ed, rs⟩ := Iu R1 h2
  refine ⟨vs, ev, fun D hD => ?_⟩
  have nD : D ∉ F ++ O := fun z => R1.th D z hD
  refine ⟨fun i m acc H2 => m + i = items.length ∧ H2 D = some (.lst acc) ∧ acc.length ≤ i ∧ Same H1 H2 ∧ ∃ as, RpL K (mask (D :: (F ++ O)) H2) as acc ∧ W i as, ⟨items.length, by omega, BJ, Nat.le_refl _, Same.upd hD, [], RpL.nil, w0⟩, ?_⟩
  rintro i m acc H2 ⟨hm, e2, hl, s2, as, ra, w⟩
  have sb : Same (mask (F ++ O) H1) H2 := fun a o e => s2 a o (Cp e).2
  have sD : Same (mask (F ++ O) H1) (mask (D :: (F ++ O)) H2) := fun a o e => by
    obtain ⟨q, e⟩ := Cp e
    rw [Az fun z => by
      rcases List.mem_cons.mp z with z | z
      · rw [z, hD] at e; cases e
      · exact q z]
    exact s2 a o e
  have th2 : ∀ a ∈ D :: (F ++ O), H2 a ≠ none := fun a ha q => by
    rcases List.mem_cons.mp ha with z | z
    · rw [z, e2] at q; cases q
    · have := R1.th a z
      cases q' : H1 a with
      | none => exact this q'
      | some o => rw [s2 a o q'] at q; cases q
  obtain ⟨go, stop⟩ := it H2 sb
  by_cases hlt : i < items.length
  · refine .inr ⟨(go i items[i] (by simp [hlt])).1, fun z H3 y => ?_⟩
    obtain ⟨s3, r⟩ := (go i items[i] (by simp [hlt])).2 z H3 y
    have r := r (D :: (F ++ O)) th2 sD
    have e3 : H3 D = some (.lst acc) := s3 _ _ e2
    have th : ∀ a ∈ D :: (F ++ O), H3 a ≠ none := fun a ha q => by
      have := th2 a ha
      cases q' : H2 a with
      | none => exact this q'
      | some o => rw [s3 a o q'] at q; cases q
    have R3 := QM th r ((rs.mono sD).mono s3.mask)
    have ei : some (En.is items[i]) :: ds.map (fun d => some (En.is d)) = inner sl ρ items[i] := by unfold inner; rw [ed]
    rw [ei] at R3
    refine ⟨_, _, _, _, R3, mt (fun b q H4 s4 => ?_) (st i _ as (by simp [hlt]) w)⟩
    cases b with
    | false =>
      refine ⟨m - 1, by omega, by omega, s4 _ _ e3, by omega, (s2.trans s3).trans s4, as, (ra.mono s3.mask).mono s4.mask, q⟩
    | true =>
      refine ⟨_, _, _, _, R3.same s4, me (fun e q v5 H5 s5 r5 => ?_) q⟩
      have e5 : H5 D = some (.lst acc) := s5 _ _ (s4 _ _ e3)
      have hz : acc.length < sizeLine := by omega
      have s6 : Same (mask (D :: (F ++ O)) H5) (mask (D :: (F ++ O)) (upd H5 D (.lst (acc ++ [v5])))) := fun a o q => by
        obtain ⟨n, q⟩ := Cp q
        rw [Az n, Bc fun z => n (by rw [z]; exact List.mem_cons_self)]; exact q
      have em : mask (D :: (F ++ O) ++ []) H5 = mask (D :: (F ++ O)) H5 := by rw [List.append_nil]
      rw [em] at r5
      refine ⟨e5, hz, m - 1, by omega, by omega, BJ, by simp; omega, fun a o q => ?_, as ++ [e], ((((ra.mono s3.mask).mono s4.mask).mono s5.mask).append (RpL.cons r5 RpL.nil)).mono s6, q⟩
      rw [Bc (Bu q hD)]
      exact s5 _ _ (s4 _ _ (s3 _ _ (s2 a o q)))
  · have e : i = items.length := by omega
    subst e
    refine .inl ⟨stop, fin as (by rw [← ra.len]; exact hl) w (.ref D) H2 (s1.trans s2) (Kg ⟨D, acc, rfl, (by rw [Az nD]; exact e2), ra.mono (Gs fun a h => List.mem_cons_of_mem _ h)⟩)⟩
end
section
variable {X : Cx} {elt iter : Expr} {x : Str} {N : List Str} {sl : List Nat} {scope : Scope} {px pos : Pos}
theorem Aab {ti : DTI} {de : DTE} {y : Str} {py spos : Pos} (i : Nat) (hN : X.N.Nodup) (S : Dp X scope x N sl) (hc : X.calm = true) (hi : DIN X (.Name x px) iter ti) (he : ∀ cl C s₀ H₀ ex, DE (Bg X scope (x :: N) cl C s₀ H₀ ex) elt de)
    (hyi : X.N[i]? = some y := by rfl) (hy : X.env.scope.names.lookup y = some .local := by rfl) (hsw : swapsWith (.ListComp elt [⟨.Name x px, iter, [], 0⟩] scope pos) (some (.Name y py)) spos.line X.env = pure true := by rfl) (hs : ∀ x, foldedSetIterable iter X.env x = pure x := by intro _; rfl) :
    DS X (.Assign [.Name y py] (.ListComp elt [⟨.Name x px, iter, [], 0⟩] scope pos) spos) (Wg i sl ti Kf de) where
  mono := fun hd h => Jg (ti := ti) hi.mono (fun d q => hd.nx _ q) h
  ps := (Wd (tt := lT X.K Kf) (te := lE X.K de) S hc hN hyi hy hi.pi (fun cl C s₀ H₀ ex => Rn.pts) (fun cl C s₀ H₀ ex => (he cl C s₀ H₀ ex).pe) hsw hs).imp fun D σ H ⟨B, F, O, ρ, R, h⟩ =>
    W0 (ti := ti) (dt := Kf) (de := de) hi.mono (fun hq h => hq _ h) (he [] 0 X.s₀ X.H₀ []).mono σ H _ ⟨B, F, O, ρ, R, Jg (ti := ti) hi.mono (fun d q v H' s r => q O _ H' ((R.same s).set i r)) h⟩
def Acp (tl : DTA) : DTI := fun ρ Q => tl ρ fun ds => ∃ xs ys, ds = [.tup xs, .tup ys] ∧ xs.length = ys.length ∧ Q ((xs.zip ys).map fun p => .tup [p.1, p.2])
theorem Adr {a b : Expr} {p : Pos} {tl : DTA} (hg : Gl X "zip") (hm : X.mg "zip" = none) (ha : DA X [a, b] tl) (hs : starEach [a, b] X.env = [(false, eval a X.env), (false, eval b X.env)] := by rfl) (hs2 : starEach [b] X.env = [(false, eval b X.env)] := by rfl) :
    DIN X (.Name x px) (.Call (.Name "zip" p) [a, b] [] pos) (Acp tl) where
  mono := fun hq h => ha.mono (fun ds ⟨xs, ys, e, l, h⟩ => ⟨xs, ys, e, l, hq _ h⟩) h
  pi := (Aew hg hm ha.pa hs hs2).imp fun σ H R ⟨B, F, O, ρ, RR, h⟩ => ⟨B, F, O, ρ, RR, ha.mono (fun ds ⟨xs, ys, e, l, q⟩ vs H1 s1 r1 => by
    subst e
    obtain ⟨v1, w1, rfl, ra, r1⟩ := Ax.mp r1
    obtain ⟨v2, w2, rfl, rb, r1⟩ := Ax.mp r1
    obtain rfl := BZ.mp r1
    obtain ⟨c, us, rfl, hs1, l1⟩ := CP.mp ra
    obtain ⟨d, ws, rfl, hs2, l2⟩ := CP.mp rb
    refine ⟨c, d, rfl, ⟨us, Bs.seqT hs1⟩, ⟨ws, Bs.seqT hs2⟩, q _ H1 s1 fun H2 s2 => ⟨fun k dd e => ?_, us, ws, s2.seqT hs1, s2.seqT hs2, ?_⟩⟩
    · rw [List.getElem?_map] at e
      cases e' : (xs.zip ys)[k]? with
      | none => rw [e'] at e; cases e
      | some pr =>
        rw [e'] at e; cases e
        obtain ⟨e1, e2⟩ := List.getElem?_zip_eq_some.mp e'
        obtain ⟨u, hu, ru⟩ := l1.get e1
        obtain ⟨v, hv, rv⟩ := l2.get e2
        refine ⟨⟨us, ws, u, v, s2.seqT hs1, s2.seqT hs2, hu, hv⟩, ?_⟩
        rintro _ H3 ⟨T, y1, y2, rfl, nT, rfl, f1, f2⟩
        have g1 := f1 us (s2.seqT hs1)
        have g2 := f2 ws (s2.seqT hs2)
        rw [hu] at g1; cases g1
        rw [hv] at g2; cases g2
        refine ⟨Same.upd nT, fun G hG sM => ?_⟩
        have nG : T ∉ G := fun z => hG T z nT
        have sm : Same (mask G H2) (mask G (upd H2 T (.tup [u, v]))) := (Same.upd nT).mask
        exact CP.mpr ⟨T, [u, v], rfl, .inl (.inl (by rw [Az nG, BJ])), RpL.cons ((ru.mono sM).mono sm) (RpL.cons ((rv.mono sM).mono sm) RpL.nil)⟩
    · rw [List.length_map, List.length_zip, l1.len]
      omega) h⟩
def V9 (tl : DTA) : DTE := fun ρ Q => tl ρ fun ds => ∃ ks, ds = [.lst ks] ∧ Q (.tup ks)
theorem Qu {a : Expr} {tl : DTA} {p : Pos} (hm : X.mg "tuple" = none) (ha : DA X [a] tl) (hg : Gl X "tuple" := by rfl) (he : starEach [a] X.env = (false, eval a X.env) :: starEach [] X.env := by rfl) (hpl : (backTo pos (starEach [] X.env)).any (·.1) = false := by rfl) :
    DE X (.Call (.Name "tuple" p) [a] [] pos) (V9 tl) where
  mono := fun hq h => ha.mono (fun ds ⟨ks, e, q⟩ => ⟨ks, e, hq _ q⟩) h
  pe := (Xa Qa hg hm rfl ha.pa (he := he) (hpl := hpl)).imp fun σ H Q ⟨B, F, O, ρ, R, h⟩ => ⟨B, F, O, ρ, R, ha.mono (fun ds ⟨ks, e, q⟩ vs H1 s1 r1 => by
    subst e
    obtain ⟨v1, w1, rfl, ra, r1⟩ := Ax.mp r1
    obtain rfl := BZ.mp r1
    obtain ⟨c, us, rfl, hs, hl⟩ := Gj ra
    refine ⟨c, us, rfl, .inl ⟨Bs.seq hs, fun l hn => ?_⟩⟩
    have nl : l ∉ F ++ O := fun z => (R.same s1).th l z hn
    exact q _ _ (s1.trans (Same.upd hn)) (CP.mpr ⟨l, us, rfl, .inl (.inl (J9 nl)), hl.mono (Same.upd hn).mask⟩)) h⟩
end
end L2
namespace L2
open PySem PySem.Spec PyProof.Rows
section
variable {prog : Program} {w : World} {A : Around}
theorem RM {E : Value → Shared → Prop} {s : Shared} {x y : Value} {Q : Value → Shared → Prop}
    (h : wpAny (model prog w) A.in1 (pyIter (.ref s.heap.objs.size)) (fun it s2 => ∃ I fp wr n P St bt, it = .ref I ∧ Walks prog w A.in1 I fp wr n P St ∧ St 0 s2.heap ∧ (∀ b ∈ fp, b < s2.heap.objs.size) ∧ 0 < n ∧
      (∀ h1 : Heap, (∀ b o, s2.heap.get? b = some o → h1.get? b = some o) → RG prog w A.in1 wr s2.heap.objs.size h1 P bt) ∧
      ∀ v h' tk, P (argBest bt (n - 1)) v → (∀ b o, b ∉ wr → s2.heap.get? b = some o → h'.get? b = some o) → Q v { s2 with heap := h', toks := tk }) E { s with heap := s.heap.push { cls := .type "tuple", data := .seq #[x, y] } }) :
    wpAny (model prog w) A (call (.builtin "min") [x, y]) Q E s := by
  refine call_function_tree F.kind_min F.plain_min F.entry_min (F.args_min2 _ _) ?_; show wpAny _ A.in1 (Builtin.Builtins.bindParams "min" ["key", "default"] 0 ⟨[], []⟩ >>= _) _ _ s
  refine wpAny_bind (wpAny_of_eq (show Builtin.Builtins.bindParams "min" ["key", "default"] 0 ⟨[], []⟩ = pure [none, none] from rfl) ?_); show wpAny _ A.in1 (newTuple [x, y] >>= _) _ _ s
  refine wpAny_bind (wpAny_newObj_type ?_); refine wpAny_bind (wpAny_mono h (fun it s2 h2 => ?_) fun _ _ z => z); obtain ⟨I, fp, wr, n, P, St, bt, rfl, W, st, low, n0, less, fin⟩ := h2
  refine wpAny_bind (wpAny_newObj_type ?_); rw [Rh]
  have off : s2.heap.objs.size ∉ fp := fun z => Nat.lt_irrefl _ (low _ z)
  refine wpAny_pure ⟨plainId_quiet F.plain_min_loop _, LR W (less _ fun b o e => Heap.get?_push_of_some _ e) off n0 (W.frame _ _ _ st fun b _ o e => Heap.get?_push_of_some _ e) (Heap.get?_push_size _ rfl) fun v h' tk hv k => ?_⟩
  exact fin v h' tk hv fun b o nb e => k b o nb (Nat.ne_of_lt (Heap.lt_size e)) (Heap.get?_push_of_some _ e)
end
variable {X : Cx}
def AcA (K : PySem.W.Frag) : List V → Hp → VK → Prop := fun xs H Q => ∃ p q ns ms, xs = [.ref p, .ref q] ∧ SqT K H p (ns.map V.int) ∧ SqT K H q (ms.map V.int) ∧ Q (if HT.lexLt ms ns = true then .ref q else .ref p) H
theorem U0 (hc : X.calm = true) (hu : X.A.in1.units < cLine) : Jz X (.builtin "min") (AcA X.K) := by
  intro pins s σ H xs us Q I r h
  obtain ⟨p, q, ns, ms, rfl, hp, hq, k⟩ := h
  obtain ⟨u, u', rfl, r1, r2⟩ := vals2 r
  cases r1; cases r2
  obtain ⟨i1, v1, t1, _⟩ := I.tuple hp
  obtain ⟨i2, v2, t2, _⟩ := I.tuple hq
  have n1 := intsAre_of v1
  have n2 := intsAre_of v2
  have T0 : (s.heap.push { cls := .type "tuple", data := .seq #[.ref p, .ref q] }).IsTuple s.heap.objs.size #[.ref p, .ref q] := ⟨_, Heap.get?_push_size _ rfl, rfl, 0, rfl⟩
  have z1 : (s.heap.push { cls := .type "tuple", data := .seq #[.ref p, .ref q] }).objs.size = s.heap.objs.size + 1 := Heap.size_push ..
  refine RM (wpAny_pyIter_tuple (s := { s with heap := s.heap.push { cls := .type "tuple", data := .seq #[.ref p, .ref q] } }) T0 ?_)
  refine ⟨_, [_, s.heap.objs.size], [_], 2, fun i v => (#[Value.ref p, Value.ref q] : Array Value)[i]? = some v, _, fun i j => HT.lexLt (if i = 0 then ns else ms) (if j = 0 then ns else ms), rfl, Walks.tuple (A := X.A.in1) (I.ok.hd hc) _ s.heap.objs.size (by show s.heap.objs.size ≠ _; rw [z1]; exact Nat.ne_of_lt (Nat.lt_succ_self _)) #[Value.ref p, Value.ref q], ⟨⟨_, Heap.get?_push_size _ rfl, rfl, rfl⟩, T0.push _⟩, ?_, by decide, ?_, ?_⟩
  · intro b hb
    refine Nat.lt_of_lt_of_eq ?_ ((Heap.size_push ..).trans (congrArg (· + 1) z1)).symm
    rcases List.mem_cons.mp hb with hb | hb
    · rw [hb.trans z1]; exact Nat.lt_succ_self _
    · rw [List.mem_singleton.mp hb]; exact Nat.lt_succ_of_lt (Nat.lt_succ_self _)
  · intro h1 k1 i j x y s' Q' E' kept hx hy q'
    have go : ∀ a o, s.heap.get? a = some o → s'.heap.get? a = some o := fun a o eo => by
      have la := Heap.lt_size eo
      refine kept a o (fun z => ?_) (fun z => ?_) (k1 a o (Heap.get?_push_of_some _ (Heap.get?_push_of_some _ eo)))
      · have e2 : a = s.heap.objs.size + 1 := (List.mem_singleton.mp z).trans z1
        rw [e2] at la
        exact Nat.lt_irrefl _ (Nat.lt_of_succ_lt la)
      · have e2 : a = s.heap.objs.size + 1 + 1 := z.trans ((Heap.size_push ..).trans (congrArg (· + 1) z1))
        rw [e2] at la
        exact Nat.lt_irrefl _ (Nat.lt_of_succ_lt (Nat.lt_of_succ_lt la))
    have fact : ∀ (i : Nat) (x : Value), (#[Value.ref p, Value.ref q] : Array Value)[i]? = some x → ∃ a its2, x = .ref a ∧ IsTup s'.heap a its2 ∧ IntsAre its2.toList (if i = 0 then ns else ms) := fun i x hx => by
      match i, hx with
      | 0, hx =>
        cases hx
        obtain ⟨o, eo, rest⟩ := t1
        exact ⟨p, i1.toArray, rfl, ⟨o, go p o eo, rest⟩, by simpa using n1⟩
      | 1, hx =>
        cases hx
        obtain ⟨o, eo, rest⟩ := t2
        exact ⟨q, i2.toArray, rfl, ⟨o, go q o eo, rest⟩, by simpa using n2⟩
      | i + 2, hx => simp at hx
    obtain ⟨a, j1, rfl, t1', n1'⟩ := fact i x hx
    obtain ⟨b, j2, rfl, t2', n2'⟩ := fact j y hy
    exact HT.JL t1' t2' n1' n2' hu q'
  · intro v h' tk hv kk
    have e : argBest (fun i j => HT.lexLt (if i = 0 then ns else ms) (if j = 0 then ns else ms)) (2 - 1) = if HT.lexLt ms ns = true then 1 else 0 := by
      show (if HT.lexLt (if 1 = 0 then ns else ms) (if argBest _ 0 = 0 then ns else ms) = true then 1 else argBest _ 0) = _
      rfl
    rw [e] at hv
    have I1 : Inv X pins σ H { s with heap := h', toks := tk } := I.kept fun b o eo => kk b o (fun z => by
      have e2 : b = s.heap.objs.size + 1 := (List.mem_singleton.mp z).trans z1
      have e3 := Heap.lt_size eo
      rw [e2] at e3
      exact Nat.lt_irrefl _ (Nat.lt_of_succ_lt e3)) (Heap.get?_push_of_some _ (Heap.get?_push_of_some _ eo))
    by_cases hl : HT.lexLt ms ns = true
    · rw [if_pos hl] at hv k
      cases hv
      exact ⟨.ref q, H, I1, rfl, k⟩
    · rw [if_neg hl] at hv k
      cases hv
      exact ⟨.ref p, H, I1, rfl, k⟩
def Y9 : DL := fun ds Q => ∃ ns ms : List Int, ds = [KH ns, KH ms] ∧ Q (KH (if HT.lexLt ms ns = true then ms else ns))
theorem Aac {K : PySem.W.Frag} : Uy K (AcA K) Y9 where
  mono := fun hq ⟨ns, ms, e, h⟩ => ⟨ns, ms, e, hq _ h⟩
  ok := fun O H ds xs Q _ r ⟨ns, ms, e, h⟩ => by
    subst e
    obtain ⟨x, r', rfl, ra, r3⟩ := Ax.mp r
    obtain ⟨y, r', rfl, rb, r3⟩ := Ax.mp r3
    obtain rfl := BZ.mp r3
    obtain ⟨a, us, rfl, ha, hla⟩ := CP.mp ra
    obtain ⟨b, vs, rfl, hb, hlb⟩ := CP.mp rb
    obtain rfl := Ry hla
    obtain rfl := Ry hlb
    refine ⟨a, b, ns, ms, rfl, (Bs (O := O) (H := H)).seqT ha, (Bs (O := O) (H := H)).seqT hb, ?_⟩
    by_cases hl : HT.lexLt ms ns = true
    · rw [if_pos hl] at h ⊢
      exact h _ H (Same.refl H) rb
    · rw [if_neg hl] at h ⊢
      exact h _ H (Same.refl H) ra
theorem Abo {a b : Expr} {tl : DTA} {p pos : Pos} (hm : X.mg "min" = none) (hu : X.A.in1.units < cLine) (ha : DA X [a, b] tl) (hc : X.calm = true := by rfl) (hg : Gl X "min" := by rfl) (hv : bootBuiltins "min" = some (.builtin "min") := by rfl) (he : starEach [a, b] X.env = (false, eval a X.env) :: starEach [b] X.env := by rfl)
    (hpl : (backTo pos (starEach [b] X.env)).any (·.1) = false := by rfl) : DE X (.Call (.Name "min" p) [a, b] [] pos) (dCB Y9 tl) := Ub (U0 hc hu) Aac hg hm hv ha (he := he) (hpl := hpl)
end L2
namespace My
open PySem L2
abbrev Q9 : DSp := Ac2
abbrev I4 := Int × Int × Int × Int
abbrev I2 := Int × Int
abbrev t4 (p : I4) : Dt := T4 p.1 p.2.1 p.2.2.1 p.2.2.2
abbrev t2 (p : I2) : Dt := T2 p.1 p.2
def B4 (n : Nat) (p : I4) : Prop := Bt n p.1 ∧ Bt n p.2.1 ∧ Bt n p.2.2.1 ∧ Bt n p.2.2.2
def B2 (n : Nat) (p : I2) : Prop := Bt n p.1 ∧ Bt n p.2
def det (p : I4) : Int := p.1 * p.2.2.2 - p.2.1 * p.2.2.1
def GQ (t : I4) (p : I2) : I2 := (t.1 * p.1 + t.2.1 * p.2, t.2.2.1 * p.1 + t.2.2.2 * p.2)
def Ao (a b : I4) : I4 := (a.1 * b.1 + a.2.1 * b.2.2.1, a.1 * b.2.1 + a.2.1 * b.2.2.2, a.2.2.1 * b.1 + a.2.2.2 * b.2.2.1, a.2.2.1 * b.2.1 + a.2.2.2 * b.2.2.2)
def Ar (t : I4) : I4 := (t.2.2.2, -t.2.1, -t.2.2.1, t.1)
theorem B4.le {n m : Nat} {t : I4} (h : B4 n t) (l : n ≤ m) : B4 m t := ⟨h.1.le l, h.2.1.le l, h.2.2.1.le l, h.2.2.2.le l⟩
theorem B4.back {n : Nat} {t : I4} (h : B4 n t) : B4 n (Ar t) := ⟨h.2.2.2, h.2.1.neg, h.2.2.1.neg, h.1⟩
theorem B2.led {n m : Nat} {t : I4} {p : I2} (h : B4 n t) (q : B2 m p) : B2 (n + m + 1) (GQ t p) :=
  ⟨((h.1.mul q.1).add (h.2.1.mul q.2)).le (by omega), ((h.2.2.1.mul q.1).add (h.2.2.2.mul q.2)).le (by omega)⟩
theorem B4.then {n m : Nat} {t u : I4} (h : B4 n t) (q : B4 m u) : B4 (n + m + 1) (Ao t u) :=
  ⟨((h.1.mul q.1).add (h.2.1.mul q.2.2.1)).le (by omega), ((h.1.mul q.2.1).add (h.2.1.mul q.2.2.2)).le (by omega), ((h.2.2.1.mul q.1).add (h.2.2.2.mul q.2.2.1)).le (by omega), ((h.2.2.1.mul q.2.1).add (h.2.2.2.mul q.2.2.2)).le (by omega)⟩
theorem Cy {t : I4} : det (Ar t) = det t := by obtain ⟨a, b, c, d⟩ := t; simp only [det, Ar]; grind
theorem Ca {t u : I4} : det (Ao t u) = det t * det u := by obtain ⟨a, b, c, d⟩ := t; obtain ⟨e, f, g, h⟩ := u; simp only [det, Ao]; grind
theorem Jo {t : I4} (h : det t = 1) : Ao t (Ar t) = (1, 0, 0, 1) := by
  obtain ⟨a, b, c, d⟩ := t
  simp only [det, Ao, Ar, Prod.mk.injEq] at *
  refine ⟨?_, ?_, ?_, ?_⟩ <;> grind
theorem QS {t : I4} (h : det t = 1) : Ao (Ar t) t = (1, 0, 0, 1) := by
  obtain ⟨a, b, c, d⟩ := t
  simp only [det, Ao, Ar, Prod.mk.injEq] at *
  refine ⟨?_, ?_, ?_, ?_⟩ <;> grind
abbrev I3 := Int × Int × Int
abbrev t3 (p : I3) : Dt := T3 p.1 p.2.1 p.2.2
def B3 (n : Nat) (p : I3) : Prop := Bt n p.1 ∧ Bt n p.2.1 ∧ Bt n p.2.2
theorem B3.le {n m : Nat} {t : I3} (h : B3 n t) (l : n ≤ m) : B3 m t := ⟨h.1.le l, h.2.1.le l, h.2.2.le l⟩
def meas (f : I3) : Int := f.2.1 * f.2.1 - 4 * f.1 * f.2.2
def val (f : I3) (p : I2) : Int := f.1 * p.1 * p.1 + f.2.1 * p.1 * p.2 + f.2.2 * p.2 * p.2
def mid (f : I3) (l r : I2) : Int := 2 * f.1 * l.1 * r.1 + f.2.1 * (l.1 * r.2 + r.1 * l.2) + 2 * f.2.2 * l.2 * r.2
def mov (f : I3) (t : I4) : I3 := (val f (t.1, t.2.2.1), mid f (t.1, t.2.2.1) (t.2.1, t.2.2.2), val f (t.2.1, t.2.2.2))
theorem AiK {f : I3} {t : I4} {p : I2} : val (mov f t) p = val f (GQ t p) := by
  obtain ⟨a, b, c⟩ := f; obtain ⟨e, g, h, i⟩ := t; obtain ⟨x, y⟩ := p
  simp only [val, mov, mid, GQ]; grind
theorem Bq {f : I3} {t : I4} (h : det t = 1) : meas (mov f t) = meas f := by
  obtain ⟨a, b, c⟩ := f; obtain ⟨e, g, i, j⟩ := t
  simp only [det] at h
  have e1 : meas (mov (a, b, c) (e, g, i, j)) = (e * j - g * i) * (e * j - g * i) * meas (a, b, c) := by simp only [meas, mov, val, mid]; grind
  rw [e1, h]; simp
theorem Bd {f : I3} {t u : I4} : mov (mov f t) u = mov f (Ao t u) := by
  obtain ⟨a, b, c⟩ := f; obtain ⟨e, g, i, j⟩ := t; obtain ⟨k, l, m, n⟩ := u
  simp only [mov, val, mid, Ao, Prod.mk.injEq]
  refine ⟨?_, ?_, ?_⟩ <;> grind
theorem Cj {f : I3} : mov f (1, 0, 0, 1) = f := by
  obtain ⟨a, b, c⟩ := f
  simp only [mov, val, mid, Prod.mk.injEq]
  refine ⟨?_, ?_, ?_⟩ <;> grind
theorem AiF {s t : I3} : Dt.eq (t3 s) (t3 t) = decide (s = t) := by
  obtain ⟨a, b, c⟩ := s
  obtain ⟨e, f, g⟩ := t
  simp only [ZK, Z1, Zc, Ti, Prod.mk.injEq, Bool.and_true]
  simp only [Bool.decide_and]
theorem B3.mov {f : I3} {t : I4} {n m : Nat} (hf : B3 n f) (ht : B4 m t) : B3 (n + m + m + 5) (mov f t) := by
  obtain ⟨a, b, c⟩ := f; obtain ⟨e, g, i, j⟩ := t
  obtain ⟨ha, hb, hc⟩ := hf
  obtain ⟨he, hg, hi, hj⟩ := ht
  have h2 : Bt 2 2 := Bt.of_abs (by decide)
  refine ⟨?_, ?_, ?_⟩
  · exact ((((ha.mul he).mul he).add ((hb.mul he).mul hi)).add ((hc.mul hi).mul hi)).le (by omega)
  · exact (((((h2.mul ha).mul he).mul hg).add (hb.mul ((he.mul hj).add (hg.mul hi)))).add (((h2.mul hc).mul hi).mul hj)).le (by omega)
  · exact ((((ha.mul hg).mul hg).add ((hb.mul hg).mul hj)).add ((hc.mul hj).mul hj)).le (by omega)
def Sq (n r : Int) : Prop := 0 ≤ r ∧ r * r ≤ n ∧ n < (r + 1) * (r + 1)
theorem Sq.uniq {n r s : Int} (a : Sq n r) (b : Sq n s) : r = s := by
  obtain ⟨a0, a1, a2⟩ := a
  obtain ⟨b0, b1, b2⟩ := b
  rcases Int.lt_trichotomy r s with h | h | h
  · have := Int.mul_le_mul (show r + 1 ≤ s by omega) (show r + 1 ≤ s by omega) (by omega) b0
    omega
  · exact h
  · have := Int.mul_le_mul (show s + 1 ≤ r by omega) (show s + 1 ≤ r by omega) (by omega) a0
    omega
theorem Qm {n g : Int} (hn : 0 ≤ n) (hg : 0 < g) : n < ((g + n / g) / 2 + 1) * ((g + n / g) / 2 + 1) := by
  have h1 : n < g * (n / g) + g := Int.lt_mul_ediv_self_add hg
  have h0 : 0 ≤ n / g := Int.ediv_nonneg hn (by omega)
  generalize n / g = q at *
  have hb : g + q ≤ 2 * ((g + q) / 2) + 1 := by omega
  have hb0 : 0 ≤ (g + q) / 2 := by omega
  generalize (g + q) / 2 = b at *
  have z1 : 0 ≤ (g - q - 1) * (g - q - 1) := by
    rcases Int.le_total 0 (g - q - 1) with h | h
    · exact Int.mul_nonneg h h
    · exact Int.mul_nonneg_of_nonpos_of_nonpos h h
  have z2 : (g + q + 1) * (g + q + 1) = (g - q - 1) * (g - q - 1) + 4 * (g * q + g) := by grind
  have z3 : (g + q + 1) * (g + q + 1) ≤ (2 * (b + 1)) * (2 * (b + 1)) := Int.mul_le_mul (by omega) (by omega) (by omega) (by omega)
  have z4 : (2 * (b + 1)) * (2 * (b + 1)) = 4 * ((b + 1) * (b + 1)) := by grind
  omega
theorem Vl {n g : Int} (hg : 0 < g) (h : g ≤ (g + n / g) / 2) : g * g ≤ n := by
  have h1 : g * (n / g) ≤ n := Int.mul_ediv_self_le (by omega)
  have h2 : g ≤ n / g := by omega
  have := Int.mul_le_mul_of_nonneg_left h2 (show 0 ≤ g by omega)
  omega
theorem S8 {n g : Int} (hg : 0 < g) (h : n < g * g) : (g + n / g) / 2 < g := by
  have h2 : n / g < g := Int.ediv_lt_of_lt_mul hg (by rw [Int.mul_comm] at h; exact h)
  omega
theorem Vr {n g : Int} (hn : 1 ≤ n) (hg : 0 < g) : 0 < (g + n / g) / 2 := by
  have h0 : 0 ≤ n / g := Int.ediv_nonneg (by omega) (by omega)
  rcases Int.lt_or_le g 2 with h | h
  · have : g = 1 := by omega
    subst this
    rw [Int.ediv_one]; omega
  · omega
theorem TV {n : Int} (hn : 0 ≤ n) : n < (1 * 2 ^ ((((Builtin.Int.intBits n : Nat) : Int) + 1).fdiv 2).toNat + 1) * (1 * 2 ^ ((((Builtin.Int.intBits n : Nat) : Int) + 1).fdiv 2).toNat + 1) := by
  have h1 : n.natAbs < 2 ^ Builtin.Int.intBits n := intBits_le_iff.mp (Nat.le_refl _)
  generalize Builtin.Int.intBits n = b at *
  have e : ((((b : Nat) : Int) + 1).fdiv 2).toNat = (b + 1) / 2 := by
    rw [Int.fdiv_eq_ediv_of_nonneg _ (by decide)]; omega
  rw [e]
  generalize hk : (b + 1) / 2 = k
  have h2 : 2 ^ b ≤ 2 ^ k * 2 ^ k := by rw [← Nat.pow_add]; exact Nat.pow_le_pow_right (by decide) (by omega)
  have h3 : n < ((2 ^ k * 2 ^ k : Nat) : Int) := by omega
  have h4 : ((2 ^ k * 2 ^ k : Nat) : Int) = (2 ^ k : Int) * 2 ^ k := by push_cast; rfl
  rw [h4] at h3
  have h5 : (0 : Int) ≤ 2 ^ k := Int.pow_nonneg (by decide)
  generalize (2 ^ k : Int) = z at *
  have : (1 * z + 1) * (1 * z + 1) = z * z + 2 * z + 1 := by grind
  omega
theorem Ms {n : Int} (h : Bt 4000 n) : Xp 1 ((((Builtin.Int.intBits n : Nat) : Int) + 1).fdiv 2) ∧ Bt 2001 (1 * 2 ^ ((((Builtin.Int.intBits n : Nat) : Int) + 1).fdiv 2).toNat) ∧ 0 < (1 * 2 ^ ((((Builtin.Int.intBits n : Nat) : Int) + 1).fdiv 2).toNat : Int) := by
  have hb : Builtin.Int.intBits n ≤ 4000 := intBits_le_iff.mpr h
  generalize Builtin.Int.intBits n = b at *
  rw [Int.fdiv_eq_ediv_of_nonneg _ (by decide)]
  refine ⟨⟨by omega, by omega, by decide⟩, ?_, ?_⟩
  · have e : (((b : Int) + 1) / 2).toNat ≤ 2000 := by omega
    generalize (((b : Int) + 1) / 2).toNat = k at *
    unfold Bt
    rw [Int.one_mul, Int.natAbs_pow]
    exact Nat.pow_lt_pow_right (by decide) (by omega)
  · rw [Int.one_mul]
    exact Int.pow_pos (by decide)
theorem QW {n g : Int} (hg : 0 < g) : (g + n.fdiv g).fdiv 2 = (g + n / g) / 2 := by
  rw [Int.fdiv_eq_ediv_of_nonneg _ (by decide), Int.fdiv_eq_ediv_of_nonneg _ (by omega)]
def HY (n : Int) : Prop := ∃ r : Int, r * r = n
theorem Aaj {n r : Int} (h : Sq n r) : HY n ↔ r * r = n := by
  refine ⟨fun ⟨s, e⟩ => ?_, fun e => ⟨r, e⟩⟩
  have hs : Sq n (s.natAbs : Int) := by
    have e2 : (s.natAbs : Int) * (s.natAbs : Int) = n := (Int.natAbs_mul_self' s).trans e
    refine ⟨by omega, by omega, ?_⟩
    have : ((s.natAbs : Int) + 1) * ((s.natAbs : Int) + 1) = (s.natAbs : Int) * (s.natAbs : Int) + 2 * (s.natAbs : Int) + 1 := by grind
    omega
  rw [h.uniq hs]
  exact (Int.natAbs_mul_self' s).trans e
theorem Og {n : Int} (h : n < 0) : ¬ HY n := fun ⟨r, e⟩ => by
  have : 0 ≤ r * r := by
    rcases Int.le_total 0 r with h | h
    · exact Int.mul_nonneg h h
    · exact Int.mul_nonneg_of_nonpos_of_nonpos h h
  omega
abbrev MK : DSp := spec (fun n : Int => [.int n]) (fun n => 0 ≤ n ∧ Bt 4000 n) fun n d => ∃ r, d = .int r ∧ Sq n r ∧ Bt 2001 r
abbrev HF : DSp := spec (fun n : Int => [.int n]) (fun n => Bt 4000 n) fun n d => ∃ b : Bool, d = .bl b ∧ (b = true ↔ HY n)
theorem Dh (a b : Int) : a.fmod b = a - b * a.fdiv b := Int.fmod_def a b
theorem HJ {a b : Int} (h : b ≠ 0) : (a.fmod b).natAbs < b.natAbs := by
  rcases Int.lt_or_lt_of_ne h with h | h
  · have e : a.fmod b = -((-a).fmod (-b)) := by rw [Dh, Dh, Int.neg_fdiv_neg]; grind
    have h1 := Int.fmod_nonneg_of_pos (-a) (show 0 < -b by omega)
    have h2 := Int.fmod_lt_of_pos (-a) (show 0 < -b by omega)
    omega
  · have h1 := Int.fmod_nonneg_of_pos a h
    have h2 := Int.fmod_lt_of_pos a h
    omega
theorem KY (a b : Int) : Int.gcd b (a.fmod b) = Int.gcd a b := by
  rw [Dh]
  have : a - b * a.fdiv b = a + b * (-(a.fdiv b)) := by grind
  rw [this, Int.gcd_comm]
  first
    | rw [Int.gcd_add_mul_left_left]
    | simp
theorem JR {n : Nat} {a b : Int} (ha : Bt n a) (hb : Bt n b) : Bt n ((Int.gcd a b : Nat) : Int) := by
  unfold Bt at *
  rw [Int.natAbs_natCast]
  by_cases h : a = 0
  · subst h; rw [Int.gcd_zero_left]; exact hb
  · have := Int.gcd_le_natAbs_left b h
    omega
def g3 (f : I3) : Nat := Int.gcd ((Int.gcd f.1 f.2.1 : Nat) : Int) f.2.2
theorem AbI {f : I3} (h : g3 f = 0) : f = (0, 0, 0) := by
  obtain ⟨a, b, c⟩ := f
  have h1 := Int.gcd_eq_zero_iff.mp h
  have h2 := Int.gcd_eq_zero_iff.mp (show Int.gcd a b = 0 by have := h1.1; simp only at this; omega)
  have h3 : c = 0 := h1.2
  rw [h2.1, h2.2, h3]
theorem Yv (f : I3) : (g3 f : Int) ∣ f.1 ∧ (g3 f : Int) ∣ f.2.1 ∧ (g3 f : Int) ∣ f.2.2 := by
  have h1 : (g3 f : Int) ∣ ((Int.gcd f.1 f.2.1 : Nat) : Int) := Int.gcd_dvd_left _ _
  exact ⟨Int.dvd_trans h1 (Int.gcd_dvd_left _ _), Int.dvd_trans h1 (Int.gcd_dvd_right _ _), Int.gcd_dvd_right _ _⟩
inductive YC (f : I3) : Dt → Prop
  | flat : HY (meas f) → YC f (.str "flat")
  | saddle : ¬ HY (meas f) → 0 < meas f → YC f (.str "saddle")
  | bowl : ¬ HY (meas f) → ¬ 0 < meas f → 0 < f.1 → YC f (.str "bowl")
  | dome : ¬ HY (meas f) → ¬ 0 < meas f → ¬ 0 < f.1 → YC f (.str "dome")
def Pt (x y : Int) : Prop := ¬ (x = 0 ∧ y = 0)
structure Ci (f : I3) : Prop where
  pos : 0 < f.1
  lo : -f.1 ≤ f.2.1
  hi : f.2.1 ≤ f.1
  ac : f.1 ≤ f.2.2
  edge : f.2.1 = -f.1 ∨ f.1 = f.2.2 → 0 ≤ f.2.1
theorem sq_pos {x : Int} (h : x ≠ 0) : 1 ≤ x * x := by
  rcases Int.lt_or_lt_of_ne h with h | h
  · have := Int.mul_le_mul_of_nonneg_left (show 1 ≤ -x by omega) (show 0 ≤ -x by omega)
    have e : (-x) * (-x) = x * x := by grind
    omega
  · have := Int.mul_le_mul_of_nonneg_left (show 1 ≤ x by omega) (show 0 ≤ x by omega)
    omega
theorem V3 {a b c x y : Int} (ha : 0 < a) (h1 : -a ≤ b) (h2 : b ≤ a) (hc : a ≤ c) (hx : x ≠ 0) (hy : y ≠ 0) : c ≤ val (a, b, c) (x, y) := by
  have key : ∀ X Y B : Int, 1 ≤ X → 1 ≤ Y → 0 ≤ B → B ≤ a → a + c - B ≤ a * (X * X) - B * (X * Y) + c * (Y * Y) := fun X Y B hX hY hB0 hB => by
    have sX : 1 ≤ X * X := sq_pos (by omega)
    have sY : 1 ≤ Y * Y := sq_pos (by omega)
    rcases Int.le_total Y X with h | h
    · have z1 : X * Y ≤ X * X := Int.mul_le_mul_of_nonneg_left h (by omega)
      have z2 : B * (X * Y) ≤ B * (X * X) := Int.mul_le_mul_of_nonneg_left z1 hB0
      have z3 : (a - B) * 1 ≤ (a - B) * (X * X) := Int.mul_le_mul_of_nonneg_left sX (by omega)
      have z4 : c * 1 ≤ c * (Y * Y) := Int.mul_le_mul_of_nonneg_left sY (by omega)
      have z5 : (a - B) * (X * X) = a * (X * X) - B * (X * X) := by grind
      omega
    · have z1 : X * Y ≤ Y * Y := Int.mul_le_mul_of_nonneg_right h (by omega)
      have z2 : B * (X * Y) ≤ B * (Y * Y) := Int.mul_le_mul_of_nonneg_left z1 hB0
      have z3 : (c - B) * 1 ≤ (c - B) * (Y * Y) := Int.mul_le_mul_of_nonneg_left sY (by omega)
      have z4 : a * 1 ≤ a * (X * X) := Int.mul_le_mul_of_nonneg_left sX (by omega)
      have z5 : (c - B) * (Y * Y) = c * (Y * Y) - B * (Y * Y) := by grind
      omega
  have hX : 1 ≤ (x.natAbs : Int) := by omega
  have hY : 1 ≤ (y.natAbs : Int) := by omega
  have k := key x.natAbs y.natAbs b.natAbs hX hY (by omega) (by omega)
  have e1 : (x.natAbs : Int) * x.natAbs = x * x := Int.natAbs_mul_self' x
  have e2 : (y.natAbs : Int) * y.natAbs = y * y := Int.natAbs_mul_self' y
  have e3 : -((b.natAbs : Int) * ((x.natAbs : Int) * y.natAbs)) ≤ b * (x * y) := by
    have : ((b.natAbs : Int) * ((x.natAbs : Int) * y.natAbs)) = ((b * (x * y)).natAbs : Int) := by rw [Int.natAbs_mul, Int.natAbs_mul]; push_cast; rfl
    rw [this]; omega
  rw [e1, e2] at k
  have e4 : val (a, b, c) (x, y) = a * (x * x) + b * (x * y) + c * (y * y) := by simp only [val]; grind
  rw [e4]
  omega
theorem JQ {a b c x : Int} : val (a, b, c) (x, 0) = a * (x * x) := by simp only [val]; grind
theorem UL {a b c y : Int} : val (a, b, c) (0, y) = c * (y * y) := by simp only [val]; grind
theorem Ci.min {f : I3} (L : Ci f) {x y : Int} (h : Pt x y) : f.1 ≤ val f (x, y) := by
  obtain ⟨a, b, c⟩ := f
  obtain ⟨h0, h1, h2, h3, _⟩ := L
  simp only at h0 h1 h2 h3 ⊢
  by_cases hy : y = 0
  · subst hy
    have hx : x ≠ 0 := fun z => h ⟨z, rfl⟩
    rw [JQ]
    have := Int.mul_le_mul_of_nonneg_left (sq_pos hx) (show 0 ≤ a by omega)
    omega
  · by_cases hx : x = 0
    · subst hx
      rw [UL]
      have := Int.mul_le_mul_of_nonneg_left (sq_pos hy) (show 0 ≤ c by omega)
      omega
    · have := V3 h0 h1 h2 h3 hx hy
      omega
theorem Ci.low {f : I3} (L : Ci f) {x y : Int} (h : val f (x, y) < f.2.2) : y = 0 := by
  obtain ⟨a, b, c⟩ := f
  obtain ⟨h0, h1, h2, h3, _⟩ := L
  simp only at h0 h1 h2 h3 h ⊢
  by_cases hy : y = 0
  · exact hy
  · exfalso
    by_cases hx : x = 0
    · subst hx
      rw [UL] at h
      have := Int.mul_le_mul_of_nonneg_left (sq_pos hy) (show 0 ≤ c by omega)
      omega
    · have := V3 h0 h1 h2 h3 hx hy
      omega
theorem ZQ {t : I4} (h : det t = 1) : Pt t.1 t.2.2.1 := fun ⟨h1, h2⟩ => by
  obtain ⟨p, q, r, s⟩ := t
  simp only [det] at h h1 h2
  rw [h1, h2] at h
  simp at h
theorem Bv {f : I3} {t : I4} (h : det t = 1) : mov (mov f t) (Ar t) = f := by rw [Bd, Jo h, Cj]
theorem W8 {x : Int} (h : x * x = 1) : x = 1 ∨ x = -1 := by
  rcases Int.lt_or_le x 0 with z | z
  · have : (-x) * (-x) = 1 := by grind
    rcases Int.lt_or_le (-x) 2 with w | w
    · exact .inr (by omega)
    · have := Int.mul_le_mul w w (by decide) (by omega)
      omega
  · rcases Int.lt_or_le x 2 with w | w
    · rcases Int.lt_or_le x 1 with v | v
      · have : x = 0 := by omega
        rw [this] at h; simp at h
      · exact .inl (by omega)
    · have := Int.mul_le_mul w w (by decide) z
      omega
theorem Ci.fix {f : I3} {t : I4} (L : Ci f) (M : Ci (mov f t)) (h : det t = 1) (ha : (mov f t).1 = f.1) (hc : f.1 < f.2.2) : t = (1, 0, 0, 1) ∨ t = (-1, 0, 0, -1) := by
  obtain ⟨a, b, c⟩ := f
  obtain ⟨p, q, r, s⟩ := t
  have e1 : (mov (a, b, c) (p, q, r, s)).1 = val (a, b, c) (p, r) := rfl
  have hr : r = 0 := L.low (x := p) (by rw [← e1, ha]; exact hc)
  subst hr
  rw [e1, JQ] at ha
  have h0 : 0 < a := L.pos
  simp only at ha
  have hpp : p * p = 1 := by
    have : a * (p * p) = a * 1 := by rw [ha]; omega
    exact Int.eq_of_mul_eq_mul_left (by omega) this
  have hps : p * s = 1 := by simp only [det] at h; omega
  have hb : (mov (a, b, c) (p, q, 0, s)).2.1 = 2 * (a * (p * q)) + b := by
    show 2 * a * p * q + b * (p * s + q * 0) + 2 * c * 0 * s = _
    rw [hps]; grind
  have m1 : -a ≤ 2 * (a * (p * q)) + b := by
    have := M.lo
    rw [hb, e1, JQ, hpp] at this
    omega
  have m2 : 2 * (a * (p * q)) + b ≤ a := by
    have := M.hi
    rw [hb, e1, JQ, hpp] at this
    omega
  have m3 : 2 * (a * (p * q)) + b = -a → 0 ≤ 2 * (a * (p * q)) + b := fun z => by
    have := M.edge (.inl (by rw [hb, e1, JQ, hpp]; omega))
    rw [hb] at this
    exact this
  have l1 : -a ≤ b := L.lo
  have l2 : b ≤ a := L.hi
  have l3 : b = -a → 0 ≤ b := fun z => L.edge (.inl z)
  have hq : p * q = 0 := by
    generalize p * q = k at *
    rcases Int.lt_trichotomy k 0 with z | z | z
    · have := Int.mul_le_mul_of_nonneg_left (show k ≤ -1 by omega) (show 0 ≤ a by omega)
      omega
    · exact z
    · have := Int.mul_le_mul_of_nonneg_left (show 1 ≤ k by omega) (show 0 ≤ a by omega)
      omega
  rcases W8 hpp with rfl | rfl
  · have h1 : q = 0 := by omega
    have h2 : s = 1 := by omega
    rw [h1, h2]; exact .inl rfl
  · have h1 : q = 0 := by omega
    have h2 : s = -1 := by omega
    rw [h1, h2]; exact .inr rfl
theorem Ci.one {f : I3} {t : I4} (L : Ci f) (M : Ci (mov f t)) (h : det t = 1) : mov f t = f := by
  have d1 : f.1 ≤ (mov f t).1 := by
    have e1 : (mov f t).1 = val f (t.1, t.2.2.1) := rfl
    rw [e1]; exact L.min (ZQ h)
  have hk : det (Ar t) = 1 := Cy.trans h
  have d2 : (mov f t).1 ≤ f.1 := by
    have := M.min (ZQ hk)
    have e1 : (mov (mov f t) (Ar t)).1 = val (mov f t) ((Ar t).1, (Ar t).2.2.1) := rfl
    rw [← e1, Bv h] at this
    exact this
  have ha : (mov f t).1 = f.1 := by omega
  have hm := Bq (f := f) h
  by_cases hc : f.1 < f.2.2
  · rcases L.fix M h ha hc with e | e
    · rw [e, Cj]
    · rw [e]
      obtain ⟨a, b, c⟩ := f
      simp only [mov, val, mid, Prod.mk.injEq]
      refine ⟨?_, ?_, ?_⟩ <;> grind
  · by_cases hc' : (mov f t).1 < (mov f t).2.2
    · exfalso
      have L' : Ci (mov (mov f t) (Ar t)) := by rw [Bv h]; exact L
      have ha' : (mov (mov f t) (Ar t)).1 = (mov f t).1 := by rw [Bv h]; exact ha.symm
      rcases M.fix L' hk ha' hc' with e | e
      · have : f = mov f t := by
          have z := Bv (f := f) h
          rw [e, Cj] at z
          exact z.symm
        rw [← this] at hc'
        exact hc hc'
      · have : f = mov f t := by
          have z := Bv (f := f) h
          rw [e] at z
          have z2 : mov (mov f t) (-1, 0, 0, -1) = mov f t := by
            obtain ⟨a, b, c⟩ := mov f t
            simp only [mov, val, mid, Prod.mk.injEq]
            refine ⟨?_, ?_, ?_⟩ <;> grind
          rw [z2] at z
          exact z.symm
        rw [← this] at hc'
        exact hc hc'
    · have l3 := L.ac
      have m3 := M.ac
      have l5 := L.edge (.inr (by omega))
      have m5 := M.edge (.inr (by omega))
      have l0 := L.pos
      have e2 : f.2.2 = f.1 := by omega
      have e3 : (mov f t).2.2 = f.1 := by omega
      generalize mov f t = g at *
      obtain ⟨a, b, c⟩ := f
      obtain ⟨a', b', c'⟩ := g
      simp only at *
      subst ha e2 e3
      simp only [meas] at hm
      have hbb : b' * b' = b * b := by omega
      have : b' = b := by
        rcases Int.lt_trichotomy b' b with z | z | z
        · have z1 : b' * b' ≤ b' * b := Int.mul_le_mul_of_nonneg_left (by omega) m5
          have z2 : b' * b < b * b := Int.mul_lt_mul_of_pos_right z (by omega)
          omega
        · exact z
        · have z1 : b * b ≤ b * b' := Int.mul_le_mul_of_nonneg_left (by omega) l5
          have z2 : b * b' < b' * b' := Int.mul_lt_mul_of_pos_right z (by omega)
          omega
      rw [this]
theorem Yp (ns : List Int) (lo hi : Option Int) : ∃ cs : List Int, cutD (ns.map Dt.int) lo hi = cs.map Dt.int ∧ cs.length ≤ ns.length := by
  refine ⟨(ns.drop (HT.sIx (ns.map Dt.int).length 0 lo)).take (HT.sIx (ns.map Dt.int).length (ns.map Dt.int).length hi - HT.sIx (ns.map Dt.int).length 0 lo), by unfold cutD; rw [List.map_take, List.map_drop], ?_⟩
  rw [List.length_take, List.length_drop]; omega
theorem Dn (x : Int) {m : Int} (h : 0 < m) : 0 ≤ x.fmod m ∧ x.fmod m < m := ⟨Int.fmod_nonneg_of_pos x h, Int.fmod_lt_of_pos x h⟩
theorem AbO {zs : List Int} {k : Int} {P : Int → Prop} (h0 : 0 ≤ k) (h1 : k < zs.length) (hP : ∀ z ∈ zs, P z) : ∃ z, ixD k (.lst (zs.map Dt.int)) = some (.int z) ∧ P z := by
  refine ⟨_, RZ h0 h1, hP _ ?_⟩
  have : k.toNat < zs.length := by omega
  simp [this]
theorem sq_nonneg (x : Int) : 0 ≤ x * x := by
  rcases Int.le_total 0 x with h | h
  · exact Int.mul_nonneg h h
  · exact Int.mul_nonneg_of_nonpos_of_nonpos h h
end My
namespace My
open PySem L2
def Bf (f : I3) : Prop := 0 < f.1 ∧ meas f < 0
def stands (f : I3) : Bool := decide (-f.1 ≤ f.2.1 ∧ f.2.1 ≤ f.1 ∧ f.1 ≤ f.2.2) && (decide (0 ≤ f.2.1) || (decide (f.2.1 ≠ -f.1) && decide (f.1 ≠ f.2.2)))
theorem Bo {f : I3} (h : 0 < f.1) (s : stands f = true) : Ci f := by
  simp only [stands, Bool.and_eq_true, Bool.or_eq_true, decide_eq_true_eq] at s
  obtain ⟨⟨h1, h2, h3⟩, h4⟩ := s
  exact ⟨h, h1, h2, h3, fun z => by rcases h4 with h4 | ⟨h4, h5⟩; exact h4; rcases z with z | z; exact absurd z h4; exact absurd z h5⟩
theorem Ci.bowl {f : I3} (L : Ci f) : Bf f := by
  obtain ⟨a, b, c⟩ := f
  refine ⟨L.pos, ?_⟩
  have h0 : 0 < a := L.pos
  have h1 : -a ≤ b := L.lo
  have h2 : b ≤ a := L.hi
  have h3 : a ≤ c := L.ac
  have h4 : b * b ≤ a * a := by
    have e1 : (b.natAbs : Int) * b.natAbs = b * b := Int.natAbs_mul_self' b
    have := Int.mul_le_mul (show (b.natAbs : Int) ≤ a by omega) (show (b.natAbs : Int) ≤ a by omega) (by omega) (by omega)
    omega
  have h5 : a * a ≤ a * c := Int.mul_le_mul_of_nonneg_left h3 (by omega)
  have h6 : 1 ≤ a * a := sq_pos (by omega)
  show b * b - 4 * a * c < 0
  have e : 4 * a * c = 4 * (a * c) := by grind
  omega
theorem Ci.bt {f : I3} {n : Nat} (L : Ci f) (h : Bt n (meas f)) : B3 n f := by
  obtain ⟨a, b, c⟩ := f
  have h0 : 0 < a := L.pos
  have h1 : -a ≤ b := L.lo
  have h2 : b ≤ a := L.hi
  have h3 : a ≤ c := L.ac
  have h4 : b * b ≤ a * a := by
    have e1 : (b.natAbs : Int) * b.natAbs = b * b := Int.natAbs_mul_self' b
    have := Int.mul_le_mul (show (b.natAbs : Int) ≤ a by omega) (show (b.natAbs : Int) ≤ a by omega) (by omega) (by omega)
    omega
  have h5 : a * a ≤ a * c := Int.mul_le_mul_of_nonneg_left h3 (by omega)
  have h6 : 1 * c ≤ a * c := Int.mul_le_mul_of_nonneg_right (by omega) (by omega)
  have hm : meas (a, b, c) = b * b - 4 * (a * c) := by simp only [meas]; grind
  have hc : Bt n c := by unfold Bt at *; rw [hm] at h; omega
  refine ⟨?_, ?_, hc⟩
  · show Bt n a
    unfold Bt at *; omega
  · show Bt n b
    unfold Bt at *; omega
def oft (f : I3) : Int := (f.1 - f.2.1).fdiv (2 * f.1)
def Dj (f : I3) : I4 := if oft f ≠ 0 then (1, oft f, 0, 1) else (0, -1, 1, 0)
theorem Qz {f : I3} : det (Dj f) = 1 := by
  unfold Dj
  split <;> simp [det]
theorem TX {a b c k : Int} : mov (a, b, c) (1, k, 0, 1) = (a, b + 2 * a * k, a * k * k + b * k + c) := by
  simp only [mov, val, mid, Prod.mk.injEq]
  refine ⟨?_, ?_, ?_⟩ <;> grind
theorem Tf {a b c : Int} : mov (a, b, c) (0, -1, 1, 0) = (c, -b, a) := by
  simp only [mov, val, mid, Prod.mk.injEq]
  refine ⟨?_, ?_, ?_⟩ <;> grind
theorem Ji {a b : Int} (h : 0 < a) : -a < b + 2 * a * ((a - b).fdiv (2 * a)) ∧ b + 2 * a * ((a - b).fdiv (2 * a)) ≤ a := by
  rw [Int.fdiv_eq_ediv_of_nonneg _ (by omega)]
  have h1 := Int.lt_mul_ediv_self_add (x := a - b) (show 0 < 2 * a by omega)
  have h2 := Int.mul_ediv_self_le (x := a - b) (k := 2 * a) (by omega)
  omega
theorem TJ {a b : Int} (h : 0 < a) (z : (a - b).fdiv (2 * a) = 0) : -a < b ∧ b ≤ a := by
  have := Ji (b := b) h
  rw [z] at this
  omega
def msr (f : I3) : Nat := 4 * f.1.toNat + (if -f.1 < f.2.1 ∧ f.2.1 ≤ f.1 then 0 else 2) + (if f.2.1 < 0 then 1 else 0)
theorem Ls {f : I3} (h : Bf f) : 0 < f.2.2 := by
  obtain ⟨a, b, c⟩ := f
  obtain ⟨h0, h1⟩ := h
  simp only [meas] at h0 h1 ⊢
  rcases Int.lt_or_le 0 c with h | h
  · exact h
  · exfalso
    have h2 : 0 ≤ b * b := sq_nonneg b
    have h3 : a * c ≤ a * 0 := Int.mul_le_mul_of_nonneg_left h (by omega)
    have e : 4 * a * c = 4 * (a * c) := by grind
    omega
theorem Ku {f : I3} {t : I4} (h : Bf f) (d : det t = 1) : Bf (mov f t) := by
  have hm := Bq (f := f) d
  refine ⟨?_, by rw [hm]; exact h.2⟩
  obtain ⟨a, b, c⟩ := f
  obtain ⟨p, q, r, s⟩ := t
  obtain ⟨h0, h1⟩ := h
  show 0 < val (a, b, c) (p, r)
  simp only [meas] at h0 h1
  have e : 4 * (a * val (a, b, c) (p, r)) = (2 * a * p + b * r) * (2 * a * p + b * r) - (b * b - 4 * a * c) * (r * r) := by simp only [val]; grind
  have z1 := sq_nonneg (2 * a * p + b * r)
  have z2 : 0 ≤ (4 * a * c - b * b) * (r * r) := Int.mul_nonneg (by omega) (sq_nonneg r)
  have e2 : (4 * a * c - b * b) * (r * r) = -((b * b - 4 * a * c) * (r * r)) := by grind
  rcases Int.lt_or_le 0 (val (a, b, c) (p, r)) with h | h
  · exact h
  · exfalso
    have z3 : a * val (a, b, c) (p, r) ≤ a * 0 := Int.mul_le_mul_of_nonneg_left h (by omega)
    have hr : r * r = 0 := by
      by_cases hr : r = 0
      · rw [hr]; rfl
      · exfalso
        have := Int.mul_le_mul (show 1 ≤ 4 * a * c - b * b by omega) (sq_pos hr) (by omega) (by omega)
        omega
    have hr0 : r = 0 := by
      by_cases hr0 : r = 0
      · exact hr0
      · have := sq_pos hr0; omega
    subst hr0
    have hp : p ≠ 0 := fun hp => by subst hp; simp [det] at d
    have hp1 := sq_pos hp
    have e3 : val (a, b, c) (p, 0) = a * (p * p) := JQ
    rw [e3] at h
    have := Int.mul_le_mul_of_nonneg_left hp1 (show 0 ≤ a by omega)
    omega
theorem W9 {f : I3} (h : Bf f) (s : stands f = false) : msr (mov f (Dj f)) < msr f := by
  obtain ⟨a, b, c⟩ := f
  have ha : 0 < a := h.1
  have hc : 0 < c := Ls h
  unfold Dj
  by_cases ho : oft (a, b, c) = 0
  · rw [if_neg (by simpa using ho), Tf]
    have ⟨h1, h2⟩ : -a < b ∧ b ≤ a := TJ ha ho
    have hs : c < a ∨ (a = c ∧ b < 0) := by
      simp only [stands, Bool.and_eq_false_iff, Bool.or_eq_false_iff, decide_eq_false_iff_not] at s
      omega
    unfold msr
    simp only
    rw [if_pos (show -a < b ∧ b ≤ a from ⟨h1, h2⟩)]
    rcases hs with hs | ⟨hs, hb⟩
    · split <;> split <;> split <;> omega
    · subst hs
      rw [if_pos (show -a < -b ∧ -b ≤ a by omega), if_pos hb, if_neg (by omega)]
      omega
  · rw [if_pos ho, TX]
    have ⟨h1, h2⟩ := Ji (b := b) ha
    have hn : ¬ (-a < b ∧ b ≤ a) := fun z => ho (by
      show (a - b).fdiv (2 * a) = 0
      rw [Int.fdiv_eq_ediv_of_nonneg _ (by omega)]
      exact Int.ediv_eq_zero_of_lt (by omega) (by omega))
    unfold msr
    simp only
    show 4 * a.toNat + (if -a < b + 2 * a * ((a - b).fdiv (2 * a)) ∧ b + 2 * a * ((a - b).fdiv (2 * a)) ≤ a then 0 else 2) + (if b + 2 * a * ((a - b).fdiv (2 * a)) < 0 then 1 else 0) < _
    rw [if_pos ⟨h1, h2⟩, if_neg hn]
    split <;> split <;> omega
theorem ZW {f : I3} {n : Nat} (h : Bf f) (s : stands f = false) (b1 : Bt n f.1) (b2 : Bt n f.2.1) : Bt n (mov f (Dj f)).1 ∧ Bt n (mov f (Dj f)).2.1 := by
  obtain ⟨a, b, c⟩ := f
  have ha : 0 < a := h.1
  have hc : 0 < c := Ls h
  have b1 : Bt n a := b1
  have b2 : Bt n b := b2
  unfold Dj
  by_cases ho : oft (a, b, c) = 0
  · rw [if_neg (by simpa using ho), Tf]
    have ⟨h1, h2⟩ : -a < b ∧ b ≤ a := TJ ha ho
    have hs : c ≤ a := by
      simp only [stands, Bool.and_eq_false_iff, Bool.or_eq_false_iff, decide_eq_false_iff_not] at s
      omega
    refine ⟨?_, b2.neg⟩
    show Bt n c
    unfold Bt at *; omega
  · rw [if_pos ho, TX]
    have ⟨h1, h2⟩ := Ji (b := b) ha
    refine ⟨b1, ?_⟩
    show Bt n (b + 2 * a * ((a - b).fdiv (2 * a)))
    unfold Bt at *; omega
theorem V0 {f : I3} {n m : Nat} (h : Bf f) (b1 : Bt n f.1) (b2 : Bt n f.2.1) (hm : Bt m (meas f)) : B3 (n + n + m + 1) f := by
  obtain ⟨a, b, c⟩ := f
  have ha : 0 < a := h.1
  have hc : 0 < c := Ls h
  refine ⟨b1.le (by omega), b2.le (by omega), ?_⟩
  have z := (b2.mul b2).sub hm
  have e : b * b - meas (a, b, c) = 4 * (a * c) := by simp only [meas]; grind
  have z1 : 1 * c ≤ a * c := Int.mul_le_mul_of_nonneg_right (by omega) (by omega)
  have z' : Bt (max (n + n) m + 1) (4 * (a * c)) := by rw [← e]; exact z
  have z2 : Bt (max (n + n) m + 1) c := by unfold Bt at *; omega
  exact z2.le (by omega)
theorem AcR {n : Nat} {x : Int} (h : x * x < 2 ^ (2 * n)) : Bt n x := by
  unfold Bt
  rcases Nat.lt_or_ge x.natAbs (2 ^ n) with z | z
  · exact z
  · exfalso
    have := Nat.mul_le_mul z z
    rw [← Nat.pow_add, show n + n = 2 * n by omega] at this
    have e1 : (x.natAbs : Int) * x.natAbs = x * x := Int.natAbs_mul_self' x
    have : ((2 ^ (2 * n) : Nat) : Int) ≤ (x.natAbs : Int) * x.natAbs := by exact_mod_cast this
    rw [e1] at this
    push_cast at this
    omega
theorem Uj {f : I3} {n m k : Nat} {x y : Int} (h : Bf f) (hb : B3 n f) (hv : Bt m (val f (x, y))) (hk : n + m + 2 ≤ 2 * k) : B2 k (x, y) := by
  obtain ⟨a, b, c⟩ := f
  have ha : 0 < a := h.1
  have hc : 0 < c := Ls h
  have hm : b * b - 4 * a * c < 0 := h.2
  obtain ⟨h1, h2, h3⟩ := hb
  have h4 : Bt 3 4 := Bt.of_abs (by decide)
  have e1 : 4 * (a * val (a, b, c) (x, y)) = (2 * a * x + b * y) * (2 * a * x + b * y) + (4 * a * c - b * b) * (y * y) := by simp only [val]; grind
  have e2 : 4 * (c * val (a, b, c) (x, y)) = (2 * c * y + b * x) * (2 * c * y + b * x) + (4 * a * c - b * b) * (x * x) := by simp only [val]; grind
  have k1 : y * y ≤ 4 * (a * val (a, b, c) (x, y)) := by
    have z1 := sq_nonneg (2 * a * x + b * y)
    have z2 := Int.mul_le_mul_of_nonneg_right (show 1 ≤ 4 * a * c - b * b by omega) (sq_nonneg y)
    omega
  have k2 : x * x ≤ 4 * (c * val (a, b, c) (x, y)) := by
    have z1 := sq_nonneg (2 * c * y + b * x)
    have z2 := Int.mul_le_mul_of_nonneg_right (show 1 ≤ 4 * a * c - b * b by omega) (sq_nonneg x)
    omega
  have up : ∀ {z w : Int}, Bt n z → w ≤ 4 * (z * val (a, b, c) (x, y)) → w < 2 ^ (2 * k) := fun {z w} hz hw => by
    have h5 := hz.mul hv
    have h6 : Bt (n + m) (z * val (a, b, c) (x, y)) := h5
    have h7 : (4 : Int) * 2 ^ (n + m) ≤ 2 ^ (2 * k) := by
      have : (4 : Int) * 2 ^ (n + m) = 2 ^ (n + m + 2) := by rw [show n + m + 2 = (n + m) + 1 + 1 from rfl, Int.pow_succ, Int.pow_succ]; omega
      rw [this]
      have := Nat.pow_le_pow_right (show 0 < 2 by decide) hk
      exact_mod_cast this
    unfold Bt at h6
    have h8 : z * val (a, b, c) (x, y) < 2 ^ (n + m) := by
      have : ((z * val (a, b, c) (x, y)).natAbs : Int) < ((2 ^ (n + m) : Nat) : Int) := by exact_mod_cast h6
      push_cast at this
      omega
    omega
  exact ⟨AcR (up h3 k2), AcR (up h1 k1)⟩
theorem Aa6 {f : I3} {t : I4} {n m k : Nat} (h : Bf f) (hb : B3 n f) (hg : B3 m (mov f t)) (hk : n + m + 2 ≤ 2 * k) : B4 k t := by
  have p1 := Uj (x := t.1) (y := t.2.2.1) h hb hg.1 hk
  have p2 := Uj (x := t.2.1) (y := t.2.2.2) h hb hg.2.2 hk
  exact ⟨p1.1, p2.1, p1.2, p2.2⟩
theorem O9 {f : I3} (h : oft f = 0) : Dj f = (0, -1, 1, 0) := by unfold Dj; rw [if_neg (by simpa using h)]
theorem Nr {f : I3} (h : ¬ oft f = 0) : Dj f = (1, oft f, 0, 1) := by unfold Dj; rw [if_pos h]
theorem Zj {f : I3} {n : Nat} (h : 0 < f.1) (b1 : Bt n f.1) (b2 : Bt n f.2.1) : B4 (n + 1) (Dj f) := by
  obtain ⟨a, b, c⟩ := f
  have h : 0 < a := h
  have b1 : Bt n a := b1
  have b2 : Bt n b := b2
  have one : Bt (n + 1) 1 := Bt.one.le (by omega)
  by_cases ho : oft (a, b, c) = 0
  · rw [O9 ho]
    exact ⟨Bt.zero.le (by omega), one.neg, one, Bt.zero.le (by omega)⟩
  · rw [Nr ho]
    refine ⟨one, ?_, Bt.zero.le (by omega), one⟩
    have ⟨h1, h2⟩ := Ji (b := b) h
    show Bt (n + 1) ((a - b).fdiv (2 * a))
    generalize (a - b).fdiv (2 * a) = k at *
    have e : 2 * a * k = 2 * (a * k) := by grind
    have z : (k.natAbs : Int) ≤ ((a * k).natAbs : Int) := by
      rw [Int.natAbs_mul]
      have := Nat.mul_le_mul_right k.natAbs (show 1 ≤ a.natAbs by omega)
      omega
    unfold Bt at *
    rw [Nat.pow_succ]
    omega
end My
namespace My
open PySem L2
structure Sad (f : I3) : Prop where
  no : ¬ HY (meas f)
  pos : 0 < meas f
  most : meas f ≤ 4000
def Level (f : I3) (far : Int) : Prop := (0 < f.2.1 ∧ f.2.1 ≤ far) ∧ far - f.2.1 < 2 * (if f.1 < 0 then -f.1 else f.1) ∧ 2 * (if f.1 < 0 then -f.1 else f.1) ≤ far + f.2.1
instance {f : I3} {far : Int} : Decidable (Level f far) := by unfold Level; infer_instance
theorem Sad.mov {f : I3} {t : I4} (h : Sad f) (d : det t = 1) : Sad (mov f t) := by
  have e := Bq (f := f) d
  exact ⟨by rw [e]; exact h.no, by rw [e]; exact h.pos, by rw [e]; exact h.most⟩
end My
namespace My
open PySem L2
abbrev ab (x : Int) : Int := if x < 0 then -x else x
theorem Aw (x : Int) : (0 ≤ x ∧ ab x = x) ∨ (x < 0 ∧ ab x = -x) := by
  rcases Int.lt_or_le x 0 with h | h
  · exact .inr ⟨h, if_pos h⟩
  · exact .inl ⟨h, if_neg (by omega)⟩
theorem BW (x : Int) : 0 ≤ ab x := by rcases Aw x with ⟨h, e⟩ | ⟨h, e⟩ <;> omega
theorem V1 {n : Nat} {x : Int} (h : Bt n x) : Bt n (ab x) := by
  rcases Aw x with ⟨_, e⟩ | ⟨_, e⟩ <;> rw [e]
  · exact h
  · exact h.neg
theorem Wh {n : Nat} {x y : Int} (h : Bt n y) (l : ab x ≤ ab y) : Bt n x := by
  unfold Bt at *
  rcases Aw x with ⟨_, e⟩ | ⟨_, e⟩ <;> rcases Aw y with ⟨_, e'⟩ | ⟨_, e'⟩ <;> omega
theorem Qo {n : Nat} {x k : Int} (l : ab x ≤ k) (hk : k < 2 ^ n) : Bt n x := by
  rcases Aw x with ⟨_, e⟩ | ⟨_, e⟩ <;> exact Bt.of (by omega) (by omega)
def dB (f : I3) (top : Int) : Int := top - (top + f.2.1).fmod (2 * ab f.2.2)
def kB (f : I3) (top : Int) : Int := (f.2.1 + dB f top).fdiv (2 * f.2.2)
def Ce (f : I3) (top : Int) : I4 := (0, -1, 1, kB f top)
theorem Ck {f : I3} {top : Int} : det (Ce f top) = 1 := by simp [det, Ce]
theorem IK {f : I3} {top : Int} (h : f.2.2 ≠ 0) : top - 2 * ab f.2.2 < dB f top ∧ dB f top ≤ top := by
  have hc : 0 < 2 * ab f.2.2 := by rcases Aw f.2.2 with ⟨_, e⟩ | ⟨_, e⟩ <;> omega
  have := Dn (top + f.2.1) hc
  unfold dB
  omega
theorem G8 {f : I3} {top : Int} (h : f.2.2 ≠ 0) : 2 * f.2.2 * kB f top = f.2.1 + dB f top := by
  unfold kB dB
  have e := Int.fmod_def (top + f.2.1) (2 * ab f.2.2)
  generalize (top + f.2.1).fdiv (2 * ab f.2.2) = q at *
  have e1 : f.2.1 + (top - (top + f.2.1).fmod (2 * ab f.2.2)) = 2 * ab f.2.2 * q := by omega
  rw [e1]
  rcases Aw f.2.2 with ⟨_, e2⟩ | ⟨_, e2⟩
  · rw [e2, Int.mul_fdiv_cancel_left _ (by omega)]
  · have e3 : 2 * ab f.2.2 * q = 2 * f.2.2 * (-q) := by rw [e2]; grind
    rw [e3, Int.mul_fdiv_cancel_left _ (by omega)]
theorem Kr {f : I3} {top : Int} (h : f.2.2 ≠ 0) : ∃ e, mov f (Ce f top) = (f.2.2, dB f top, e) := by
  have hk := G8 (top := top) h
  obtain ⟨a, b, c⟩ := f
  refine ⟨(mov (a, b, c) (Ce (a, b, c) top)).2.2, ?_⟩
  have e1 : (mov (a, b, c) (Ce (a, b, c) top)).1 = c := by simp only [mov, val, Ce]; grind
  have e2 : (mov (a, b, c) (Ce (a, b, c) top)).2.1 = dB (a, b, c) top := by
    simp only [mov, mid, Ce]
    simp only at hk
    generalize kB (a, b, c) top = k at *
    have : 2 * a * 0 * -1 + b * (0 * k + -1 * 1) + 2 * c * 1 * k = 2 * c * k - b := by grind
    omega
  ext1
  · exact e1
  · ext1
    · exact e2
    · rfl
theorem Vp {D far : Int} (r : Sq D far) (n : ¬ HY D) : far * far < D := by
  rcases Int.lt_or_le (far * far) D with h | h
  · exact h
  · exact absurd ⟨far, by have := r.2.1; omega⟩ n
theorem Nz {D far : Int} (r : Sq D far) (m : D ≤ 4000) : far ≤ 63 := by
  rcases Int.lt_or_le far 64 with h | h
  · omega
  · have := Int.mul_le_mul h h (by decide) r.1
    have := r.2.1
    omega
theorem Ge {f : I3} (S : Sad f) : f.2.2 ≠ 0 := fun h => S.no ⟨f.2.1, by
  obtain ⟨a, b, c⟩ := f
  simp only at h
  subst h
  simp only [meas]
  omega⟩
theorem V5 {f : I3} (S : Sad f) : f.1 ≠ 0 := fun h => S.no ⟨f.2.1, by
  obtain ⟨a, b, c⟩ := f
  simp only at h
  subst h
  simp only [meas]
  omega⟩
theorem Nt (x y : Int) : ab x * ab y = ab (x * y) := by
  rcases Aw x with ⟨h1, e1⟩ | ⟨h1, e1⟩ <;> rcases Aw y with ⟨h2, e2⟩ | ⟨h2, e2⟩ <;> rw [e1, e2]
  · have := Int.mul_nonneg h1 h2
    exact (if_neg (by omega)).symm
  · have := Int.mul_nonneg h1 (show 0 ≤ -y by omega)
    have e : x * -y = -(x * y) := by grind
    by_cases h : x * y < 0
    · rw [ab, if_pos h, e]
    · rw [ab, if_neg h]; omega
  · have := Int.mul_nonneg (show 0 ≤ -x by omega) h2
    have e : -x * y = -(x * y) := by grind
    by_cases h : x * y < 0
    · rw [ab, if_pos h, e]
    · rw [ab, if_neg h]; omega
  · have := Int.mul_nonneg (show 0 ≤ -x by omega) (show 0 ≤ -y by omega)
    have e : -x * -y = x * y := by grind
    rw [ab, if_neg (by omega), e]
theorem Jf {x k : Int} (h : ab x ≤ k) : x * x ≤ k * k := by
  have e : x * x = ab x * ab x := by
    rcases Aw x with ⟨_, e⟩ | ⟨_, e⟩ <;> rw [e]
    grind
  rw [e]
  have := BW x
  exact Int.mul_le_mul h h this (by omega)
theorem last_eq {c d e D : Int} (h : meas (c, d, e) = D) : 4 * (ab c * ab e) = ab (d * d - D) := by
  have : d * d - D = 4 * (c * e) := by rw [← h]; simp only [meas]; grind
  rw [this, Nt]
  rcases Aw (c * e) with ⟨h1, e1⟩ | ⟨h1, e1⟩
  · rw [e1, ab, if_neg (by omega)]
  · rw [e1, ab, if_pos (by omega)]; omega
theorem Aax {c d e D far : Int} (r : Sq D far) (D0 : 0 < D) (h : meas (c, d, e) = D) (hc : far < ab c) (h1 : -ab c < d) (h2 : d ≤ ab c) : 4 * ab e ≤ ab c := by
  have k := last_eq h
  have hd : d * d ≤ ab c * ab c := by
    refine Jf ?_
    rcases Aw d with ⟨_, e1⟩ | ⟨_, e1⟩ <;> omega
  have hD : D ≤ ab c * ab c := by
    have := Int.mul_le_mul (show far + 1 ≤ ab c by omega) (show far + 1 ≤ ab c by omega) (by have := r.1; omega) (BW c)
    have := r.2.2
    omega
  have h0 := sq_nonneg d
  have : ab (d * d - D) ≤ ab c * ab c := by
    rcases Aw (d * d - D) with ⟨_, e1⟩ | ⟨_, e1⟩ <;> omega
  have hc0 : 0 < ab c := by have := r.1; omega
  rcases Int.lt_or_le (ab c) (4 * ab e) with z | z
  · exfalso
    have := Int.mul_lt_mul_of_pos_left z hc0
    have e2 : ab c * (4 * ab e) = 4 * (ab c * ab e) := by grind
    omega
  · exact z
theorem Ze {c d e D far : Int} (r : Sq D far) (n : ¬ HY D) (h : meas (c, d, e) = D) (hc : ab c ≤ far) (hc2 : far < 2 * ab c) (h1 : far - 2 * ab c < d) (h2 : d ≤ far) : 2 * ab e ≤ far := by
  have k := last_eq h
  have hf := Vp r n
  have hd : d * d ≤ far * far := by
    refine Jf ?_
    rcases Aw d with ⟨_, e1⟩ | ⟨_, e1⟩ <;> omega
  have h0 := sq_nonneg d
  have hD := r.2.2
  have : ab (d * d - D) < (far + 1) * (far + 1) := by
    rcases Aw (d * d - D) with ⟨_, e1⟩ | ⟨_, e1⟩ <;> omega
  rcases Int.lt_or_le far (2 * ab e) with z | z
  · exfalso
    have := Int.mul_le_mul (show far + 1 ≤ 2 * ab c by omega) (show far + 1 ≤ 2 * ab e by omega) (by have := r.1; omega) (by have := BW c; omega)
    have e2 : 2 * ab c * (2 * ab e) = 4 * (ab c * ab e) := by grind
    omega
  · exact z
theorem WQ {c d e far : Int} (hc : 2 * ab c ≤ far) (h1 : far - 2 * ab c < d) (h2 : d ≤ far) : Level (c, d, e) far := by
  refine ⟨⟨?_, h2⟩, ?_, ?_⟩
  · show 0 < d; omega
  · show far - d < 2 * ab c; omega
  · show 2 * ab c ≤ far + d; omega
theorem U5 {c d e D far : Int} (r : Sq D far) (hm : D ≤ 4000) (D0 : 0 < D) (h : meas (c, d, e) = D) (c0 : c ≠ 0) (hd : ab d ≤ far) : ab e ≤ 1000 := by
  have k := last_eq h
  have h2 : d * d ≤ far * far := Jf hd
  have h0 := sq_nonneg d
  have h3 := r.2.1
  have : ab (d * d - D) ≤ 4000 := by
    rcases Aw (d * d - D) with ⟨_, e1⟩ | ⟨_, e1⟩ <;> omega
  have hc : 1 ≤ ab c := by rcases Aw c with ⟨_, e1⟩ | ⟨_, e1⟩ <;> omega
  have := Int.mul_le_mul_of_nonneg_right hc (BW e)
  omega
theorem Ib {f : I3} {far : Int} (r : Sq (meas f) far) (n : ¬ HY (meas f)) (L : Level f far) : far - f.2.1 < 2 * ab f.2.2 ∧ 2 * ab f.2.2 ≤ far + f.2.1 := by
  obtain ⟨a, b, c⟩ := f
  obtain ⟨⟨l1, l2⟩, l3, l4⟩ := L
  have l1 : 0 < b := l1
  have l2 : b ≤ far := l2
  have l3 : far - b < 2 * ab a := l3
  have l4 : 2 * ab a ≤ far + b := l4
  show far - b < 2 * ab c ∧ 2 * ab c ≤ far + b
  have hf := Vp r n
  have hD := r.2.2
  have k : 4 * (ab a * ab c) = ab (b * b - meas (a, b, c)) := last_eq (c := a) (d := b) (e := c) rfl
  generalize meas (a, b, c) = D at *
  have hb : b * b ≤ far * far := Int.mul_le_mul l2 l2 (by omega) (by omega)
  have k2 : (2 * ab a) * (2 * ab c) = D - b * b := by
    have e1 : (2 * ab a) * (2 * ab c) = 4 * (ab a * ab c) := by grind
    rcases Aw (b * b - D) with ⟨_, e⟩ | ⟨_, e⟩ <;> omega
  generalize 2 * ab a = A at *
  have hC0 : 0 ≤ 2 * ab c := by have := BW c; omega
  generalize 2 * ab c = C at *
  constructor
  · rcases Int.lt_or_le (far - b) C with z | z
    · exact z
    · exfalso
      have z1 : A * C ≤ (far + b) * (far - b) := Int.mul_le_mul l4 z hC0 (by omega)
      have e1 : (far + b) * (far - b) = far * far - b * b := by grind
      omega
  · rcases Int.lt_or_le (far + b) C with z | z
    · exfalso
      have z1 : (far - b + 1) * (far + b + 1) ≤ A * C := Int.mul_le_mul (by omega) (by omega) (by omega) (by omega)
      have e1 : (far - b + 1) * (far + b + 1) = (far + 1) * (far + 1) - b * b := by grind
      omega
    · exact z
theorem Ux {f : I3} {far : Int} (S : Sad f) (r : Sq (meas f) far) (L : Level f far) : Level (mov f (Ce f far)) far := by
  have hc := Ge S
  obtain ⟨e, he⟩ := Kr (top := far) hc
  rw [he]
  have ⟨d1, d2⟩ := IK (top := far) hc
  have ⟨c1, c2⟩ := Ib r S.no L
  obtain ⟨⟨l1, l2⟩, _, _⟩ := L
  have hk := G8 (top := far) hc
  have d3 : far - 2 * ab f.2.2 < dB f far := d1
  by_cases hC : 2 * ab f.2.2 ≤ far
  · exact WQ hC d1 d2
  ·
    have hd : dB f far = 2 * ab f.2.2 - f.2.1 := by
      have e1 : f.2.1 + dB f far = 2 * (f.2.2 * kB f far) := by rw [← hk]; grind
      have hx : ab (f.2.2 * kB f far) = ab f.2.2 * ab (kB f far) := (Nt _ _).symm
      have hpos : 0 < f.2.2 * kB f far := by omega
      have hx2 : f.2.2 * kB f far = ab f.2.2 * ab (kB f far) := by rw [← hx, ab, if_neg (by omega)]
      have hk0 : 0 < ab (kB f far) := by
        rcases Int.lt_or_le 0 (ab (kB f far)) with z | z
        · exact z
        · have : ab (kB f far) = 0 := by have := BW (kB f far); omega
          rw [this] at hx2
          omega
      have hk1 : ab (kB f far) = 1 := by
        rcases Int.lt_or_le (ab (kB f far)) 2 with z | z
        · omega
        · exfalso
          have := Int.mul_le_mul_of_nonneg_left z (BW f.2.2)
          omega
      rw [hk1] at hx2
      omega
    refine ⟨⟨?_, d2⟩, ?_, ?_⟩
    · show 0 < dB f far; omega
    · show far - dB f far < 2 * ab f.2.2; omega
    · show 2 * ab f.2.2 ≤ far + dB f far; omega
theorem Ka {f : I3} {far : Int} (S : Sad f) (r : Sq (meas f) far) (L : Level f far) : B3 7 f := by
  have ⟨c1, c2⟩ := Ib r S.no L
  have h6 := Nz r S.most
  obtain ⟨⟨l1, l2⟩, l3, l4⟩ := L
  have l4 : 2 * ab f.1 ≤ far + f.2.1 := l4
  exact ⟨Qo (k := 63) (by omega) (by decide), Bt.of (by omega) (by omega), Qo (k := 63) (by omega) (by decide)⟩
end My
namespace My
open PySem L2
abbrev bl (x : Int) : Nat := Builtin.Int.intBits x
theorem Wj {x : Int} : Bt (bl x) x := intBits_le_iff.mp (Nat.le_refl _)
theorem Wz {n : Nat} {x : Int} (h : Bt n x) : bl x ≤ n := intBits_le_iff.mpr h
theorem U9 {x : Int} (h : x ≠ 0) : 1 ≤ bl x := by
  rcases Nat.lt_or_ge 0 (bl x) with z | z
  · exact z
  · have := Wj (x := x)
    unfold Bt at this
    rw [show bl x = 0 by omega] at this
    omega
theorem Zf {x : Int} (h : x ≠ 0) : 2 ^ (bl x - 1) ≤ x.natAbs := by
  rcases Nat.lt_or_ge x.natAbs (2 ^ (bl x - 1)) with z | z
  · have := Wz (n := bl x - 1) z
    have := U9 h
    omega
  · exact z
theorem WX {x y : Int} (h : 4 * ab x ≤ ab y) (hy : y ≠ 0) : bl x + 2 ≤ bl y ∨ x = 0 := by
  by_cases hx : x = 0
  · exact .inr hx
  · refine .inl ?_
    have h1 := Zf hx
    have h2 := Wj (x := y)
    unfold Bt at h2
    have p := U9 hx
    rcases Nat.lt_or_ge (bl y) (bl x + 2) with z | z
    · exfalso
      have h3 : 2 ^ bl y ≤ 2 ^ (bl x - 1 + 2) := Nat.pow_le_pow_right (by decide) (by omega)
      rw [Nat.pow_add] at h3
      have h4 : 4 * x.natAbs ≤ y.natAbs := by
        rcases Aw x with ⟨_, e⟩ | ⟨_, e⟩ <;> rcases Aw y with ⟨_, e'⟩ | ⟨_, e'⟩ <;> omega
      omega
    · exact z
theorem Sh {b c d k : Int} {x : Nat} (hc : c ≠ 0) (hb : Bt x b) (hx : bl c ≤ x) (hd : ab d ≤ ab c) (hk : 2 * c * k = b + d) : Bt (x + 1 - bl c) k := by
  have h1 := Zf hc
  have h2 := Wj (x := c)
  have hp := U9 hc
  unfold Bt at *
  have e1 : 2 * (c.natAbs * k.natAbs) = (b + d).natAbs := by
    rw [← hk, Int.mul_assoc, Int.natAbs_mul, Int.natAbs_mul]; rfl
  have e2 : (b + d).natAbs < 2 ^ x + 2 ^ bl c := by
    rcases Aw d with ⟨_, e⟩ | ⟨_, e⟩ <;> rcases Aw c with ⟨_, e'⟩ | ⟨_, e'⟩ <;> omega
  have e3 : 2 ^ bl c ≤ 2 ^ x := Nat.pow_le_pow_right (by decide) hx
  rcases Nat.lt_or_ge k.natAbs (2 ^ (x + 1 - bl c)) with z | z
  · exact z
  · exfalso
    have := Nat.mul_le_mul h1 z
    rw [← Nat.pow_add, show bl c - 1 + (x + 1 - bl c) = x by omega] at this
    omega
theorem O8 {f : I3} {top : Int} {m : Nat} (h : Bt m (kB f top)) (hm : 1 ≤ m) : B4 m (Ce f top) := ⟨Bt.zero.le (by omega), (Bt.one.le hm).neg, Bt.one.le hm, h⟩
def Mu (n : Nat) (far : Int) (f0 : I3) (t : I4) : Prop :=
  det t = 1 ∧ B3 n (mov f0 t) ∧
  (if far < ab (mov f0 t).2.2 then ∃ β x, B4 β t ∧ Bt x (mov f0 t).2.1 ∧ bl (mov f0 t).2.2 ≤ x ∧ β + x + bl (mov f0 t).2.2 ≤ 2 * n + 1
   else if Level (mov f0 t) far then B4 (5 * n + 30) t else if far < 2 * ab (mov f0 t).2.2 then B4 (3 * n + 10) t else B4 (4 * n + 20) t)
def eM (far : Int) (f : I3) : Nat := if far < ab f.2.2 then (ab f.2.2).toNat + 3 else if Level f far then 0 else if far < 2 * ab f.2.2 then 2 else 1
theorem Mu.b4 {n : Nat} {far : Int} {f0 : I3} {t : I4} (h : Mu n far f0 t) : B4 (5 * n + 30) t := by
  obtain ⟨_, _, h⟩ := h
  split at h
  · obtain ⟨β, x, hb, _, _, _⟩ := h
    exact hb.le (by omega)
  · split at h
    · exact h
    · split at h
      · exact h.le (by omega)
      · exact h.le (by omega)
theorem Mu.start {n : Nat} {far : Int} {f : I3} (hn : 1 ≤ n) (hf : B3 n f) : Mu n far f (1, 0, 0, 1) := by
  have one : B4 1 (1, 0, 0, 1) := ⟨Bt.one, Bt.zero.le (by omega), Bt.zero.le (by omega), Bt.one⟩
  unfold Mu
  rw [Cj]
  refine ⟨rfl, hf, ?_⟩
  split
  · exact ⟨1, n, one, hf.2.1, Wz hf.2.2, by have := Wz hf.2.2; omega⟩
  · split
    · exact one.le (by omega)
    · split
      · exact one.le (by omega)
      · exact one.le (by omega)
theorem Ql {n : Nat} {far : Int} {f0 : I3} {t : I4} (hn : 12 ≤ n) (S : Sad f0) (r : Sq (meas f0) far) (I : Mu n far f0 t) (nl : ¬ Level (mov f0 t) far) :
    Mu n far f0 (Ao t (Ce (mov f0 t) (if far > ab (mov f0 t).2.2 then far else ab (mov f0 t).2.2))) ∧
    eM far (mov f0 (Ao t (Ce (mov f0 t) (if far > ab (mov f0 t).2.2 then far else ab (mov f0 t).2.2)))) < eM far (mov f0 t) ∧
    B4 (n + 3) (Ce (mov f0 t) (if far > ab (mov f0 t).2.2 then far else ab (mov f0 t).2.2)) := by
  have hb4 := I.b4
  obtain ⟨hd, hb, hI⟩ := I
  have Sf := S.mov hd
  have hm := Bq (f := f0) hd
  have rf : Sq (meas (mov f0 t)) far := by rw [hm]; exact r
  have f63 := Nz rf Sf.most
  have far0 := r.1
  simp only [Mu, ← Bd]
  rw [Ca, hd, Ck]
  generalize hf : mov f0 t = f at *
  have hc := Ge Sf
  have c1 : 1 ≤ ab f.2.2 := by rcases Aw f.2.2 with ⟨_, e1⟩ | ⟨_, e1⟩ <;> omega
  by_cases h1 : far < ab f.2.2
  ·
    rw [if_pos h1] at hI
    obtain ⟨β, x, hβ, hx, hlx, hsum⟩ := hI
    rw [if_neg (show ¬ far > ab f.2.2 by omega)]
    have ⟨d1, d2⟩ := IK (top := ab f.2.2) hc
    have hk := G8 (top := ab f.2.2) hc
    obtain ⟨e, he⟩ := Kr (top := ab f.2.2) hc
    have hme : meas (f.2.2, dB f (ab f.2.2), e) = meas f := by rw [← he, Bq Ck]
    have hdc : ab (dB f (ab f.2.2)) ≤ ab f.2.2 := by rcases Aw (dB f (ab f.2.2)) with ⟨_, e1⟩ | ⟨_, e1⟩ <;> omega
    have h4 := Aax rf Sf.pos hme h1 (by omega) d2
    have kbt := Sh hc hx hlx hdc hk
    have k1 : 1 ≤ x + 1 - bl f.2.2 := by omega
    have hbeh := O8 kbt k1
    have hxn : bl f.2.2 ≤ n := Wz hb.2.2
    have hS' := Sf.mov (t := Ce f (ab f.2.2)) Ck
    rw [he] at hS'
    have he0 : e ≠ 0 := Ge hS'
    have hfour := (WX h4 hc).resolve_right he0
    have hβ' := B4.then hβ hbeh
    rw [he]
    refine ⟨⟨rfl, ⟨hb.2.2, Wh hb.2.2 hdc, Wh hb.2.2 (show ab e ≤ ab f.2.2 by have := BW e; omega)⟩, ?_⟩, ?_, ?_⟩
    · show if far < ab e then _ else _
      split
      · refine ⟨_, bl f.2.2, hβ', ?_, ?_, ?_⟩
        · exact Wh Wj hdc
        · show bl e ≤ bl f.2.2; omega
        · show _ + bl f.2.2 + bl e ≤ _; omega
      · split
        · exact hβ'.le (by omega)
        · split
          · exact hβ'.le (by omega)
          · exact hβ'.le (by omega)
    · unfold eM
      rw [if_pos h1]
      show (if far < ab e then (ab e).toNat + 3 else _) < _
      split
      · have := BW e; omega
      · split
        · omega
        · split <;> omega
    ·
      have : Bt (n + 1 - bl f.2.2) (kB f (ab f.2.2)) := Sh hc hb.2.1 hxn hdc hk
      exact (O8 this (by omega)).le (by omega)
  · rw [if_neg h1, if_neg nl] at hI
    have etop : (if far > ab f.2.2 then far else ab f.2.2) = far := by split <;> omega
    rw [etop]
    have ⟨d1, d2⟩ := IK (top := far) hc
    have hk := G8 (top := far) hc
    obtain ⟨e, he⟩ := Kr (top := far) hc
    have hme : meas (f.2.2, dB f far, e) = meas f := by rw [← he, Bq Ck]
    have hdf : ab (dB f far) ≤ far := by rcases Aw (dB f far) with ⟨_, e1⟩ | ⟨_, e1⟩ <;> omega
    have hel := U5 rf Sf.most Sf.pos hme hc hdf
    have kb : Bt (n + 2) (kB f far) := by
      have e1 : 2 * (ab f.2.2 * ab (kB f far)) = ab (f.2.1 + dB f far) := by
        rw [← hk, Nt]
        have : 2 * f.2.2 * kB f far = 2 * (f.2.2 * kB f far) := by grind
        rw [this]
        rcases Aw (f.2.2 * kB f far) with ⟨h1, e1⟩ | ⟨h1, e1⟩
        · rw [e1, ab, if_neg (by omega)]
        · rw [e1, ab, if_pos (by omega)]; omega
      have e2 := Int.mul_le_mul_of_nonneg_right c1 (BW (kB f far))
      have e3 : Bt (n + 1) (f.2.1 + dB f far) := by
        have := (hb.2.1).add (show Bt 7 (dB f far) from Qo (k := 63) (by omega) (by decide))
        exact this.le (by omega)
      refine Bt.le (n := n + 1) (Wh e3 ?_) (by omega)
      have := BW (kB f far)
      omega
    have hbeh := O8 kb (by omega)
    rw [he]
    have hB : B3 n (f.2.2, dB f far, e) := ⟨hb.2.2, Bt.le (n := 7) (Qo (k := 63) (show ab (dB f far) ≤ 63 by omega) (by decide)) (by omega), Bt.le (n := 12) (Qo (x := e) hel (by decide)) (by omega)⟩
    by_cases h2 : far < 2 * ab f.2.2
    · rw [if_pos h2] at hI
      have hβ' := B4.then hI hbeh
      have hh := Ze rf Sf.no hme (by omega) h2 (by omega) d2
      have h3 : ¬ far < ab e := by have := BW e; omega
      refine ⟨⟨rfl, hB, ?_⟩, ?_, hbeh.le (by omega)⟩
      · show if far < ab e then _ else _
        rw [if_neg h3]
        split
        · exact hβ'.le (by omega)
        · rw [if_neg (show ¬ far < 2 * ab (f.2.2, dB f far, e).2.2 by show ¬ far < 2 * ab e; omega)]
          exact hβ'.le (by omega)
      · unfold eM
        rw [if_neg h1, if_neg nl, if_pos h2]
        show (if far < ab e then _ else _) < 2
        rw [if_neg h3]
        split
        · omega
        · rw [if_neg (show ¬ far < 2 * ab (f.2.2, dB f far, e).2.2 by show ¬ far < 2 * ab e; omega)]
          omega
    · rw [if_neg h2] at hI
      have hβ' := B4.then hI hbeh
      have hL : Level (f.2.2, dB f far, e) far := WQ (by omega) d1 d2
      have h3 : ¬ far < ab e := by
        have := (Ib (f := (f.2.2, dB f far, e)) (by rw [hme]; exact rf) (by rw [hme]; exact Sf.no) hL).2
        simp only at this
        omega
      refine ⟨⟨rfl, hB, ?_⟩, ?_, hbeh.le (by omega)⟩
      · show if far < ab e then _ else _
        rw [if_neg h3, if_pos hL]
        exact hβ'.le (by omega)
      · unfold eM
        rw [if_neg h1, if_neg nl, if_neg h2]
        show (if far < ab e then _ else _) < 1
        rw [if_neg h3, if_pos hL]
        omega
end My
namespace My
open PySem L2
def Riv (f : I3) : Prop := (0 < f.1 ∧ f.2.2 < 0) ∧ ¬ HY (meas f)
abbrev tR : I4 := (1, 1, 0, 1)
abbrev tL : I4 := (1, 0, 1, 1)
def sm (f : I3) : Int := f.1 + f.2.1 + f.2.2
theorem Y4 {a b c : Int} : mov (a, b, c) tR = (a, b + 2 * a, a + b + c) := by
  simp only [mov, val, mid, Prod.mk.injEq]
  refine ⟨?_, ?_, ?_⟩ <;> grind
theorem X3 {a b c : Int} : mov (a, b, c) tL = (a + b + c, b + 2 * c, c) := by
  simp only [mov, val, mid, Prod.mk.injEq]
  refine ⟨?_, ?_, ?_⟩ <;> grind
theorem AcH {f : I3} (n : ¬ HY (meas f)) : sm f ≠ 0 := fun h => n ⟨f.1 - f.2.2, by
  obtain ⟨a, b, c⟩ := f
  simp only [sm, meas] at *
  have : b = -(a + c) := by omega
  subst this
  grind⟩
def stT (f : I3) : I4 := if sm f < 0 then tR else tL
def nx (f : I3) : I3 := mov f (stT f)
theorem Aep {f : I3} : det (stT f) = 1 := by unfold stT; split <;> rfl
theorem Riv.next {f : I3} (h : Riv f) : Riv (nx f) := by
  have hm := Bq (f := f) (Aep (f := f))
  refine ⟨?_, by unfold nx; rw [hm]; exact h.2⟩
  have hs := AcH h.2
  obtain ⟨a, b, c⟩ := f
  obtain ⟨⟨h1, h2⟩, _⟩ := h
  by_cases h : sm (a, b, c) < 0
  · have e : nx (a, b, c) = (a, b + 2 * a, a + b + c) := by unfold nx; rw [show stT (a, b, c) = tR from if_pos h]; exact Y4
    rw [e]; exact ⟨h1, h⟩
  · have e : nx (a, b, c) = (a + b + c, b + 2 * c, c) := by unfold nx; rw [show stT (a, b, c) = tL from if_neg h]; exact X3
    rw [e]
    refine ⟨?_, h2⟩
    simp only [sm] at h hs ⊢
    omega
structure NN (t : I4) : Prop where
  p : 1 ≤ t.1
  q : 0 ≤ t.2.1
  r : 0 ≤ t.2.2.1
  s : 1 ≤ t.2.2.2
  d : det t = 1
def sz (t : I4) : Nat := (t.1 + t.2.1 + t.2.2.1 + t.2.2.2).toNat
theorem NN.split {t : I4} (h : NN t) : t = (1, 0, 0, 1) ∨ (∃ u, NN u ∧ t = Ao tR u ∧ sz u < sz t) ∨ (∃ u, NN u ∧ t = Ao tL u ∧ sz u < sz t) := by
  obtain ⟨p, q, r, s⟩ := t
  obtain ⟨hp, hq, hr, hs, hd⟩ := h
  simp only [det] at *
  by_cases c1 : r ≤ p ∧ s ≤ q
  · refine .inr (.inl ⟨(p - r, q - s, r, s), ⟨?_, by simp only; omega, hr, hs, ?_⟩, ?_, ?_⟩)
    · show 1 ≤ p - r
      have e : (p - r) * s - (q - s) * r = 1 := by grind
      have z := Int.mul_nonneg (show 0 ≤ q - s by omega) hr
      rcases Int.lt_or_le (p - r) 1 with w | w
      · have : (p - r) * s ≤ 0 * s := Int.mul_le_mul_of_nonneg_right (by omega) (by omega)
        omega
      · exact w
    · show (p - r) * s - (q - s) * r = 1
      grind
    · simp only [Ao, Prod.mk.injEq]
      refine ⟨?_, ?_, ?_, ?_⟩ <;> omega
    · simp only [sz]; omega
  · by_cases c2 : p ≤ r ∧ q ≤ s
    · refine .inr (.inr ⟨(p, q, r - p, s - q), ⟨hp, hq, by simp only; omega, ?_, ?_⟩, ?_, ?_⟩)
      · show 1 ≤ s - q
        have e : p * (s - q) - q * (r - p) = 1 := by grind
        have z := Int.mul_nonneg hq (show 0 ≤ r - p by omega)
        rcases Int.lt_or_le (s - q) 1 with w | w
        · have : p * (s - q) ≤ p * 0 := Int.mul_le_mul_of_nonneg_left (by omega) (by omega)
          omega
        · exact w
      · show p * (s - q) - q * (r - p) = 1
        grind
      · simp only [Ao, Prod.mk.injEq]
        refine ⟨?_, ?_, ?_, ?_⟩ <;> omega
      · simp only [sz]; omega
    · rcases Int.lt_or_le r p with w | w
      ·
        have w2 : q < s := by omega
        have z := Int.mul_le_mul (show r + 1 ≤ p by omega) (show q + 1 ≤ s by omega) (by omega) (by omega)
        have e : (r + 1) * (q + 1) = r * q + r + q + 1 := by grind
        have e2 : r * q = q * r := Int.mul_comm r q
        have r0 : r = 0 := by omega
        have q0 : q = 0 := by omega
        subst r0 q0
        left
        have hps : p * s = 1 := by omega
        have p1 : p = 1 := by
          rcases Int.lt_or_le p 2 with v | v
          · omega
          · have := Int.mul_le_mul v hs (by decide) (by omega)
            omega
        subst p1
        have : s = 1 := by omega
        rw [this]
      ·
        have w2 : s < q := by omega
        have w3 : p < r := by
          rcases Int.lt_or_le p r with v | v
          · exact v
          · have : p = r := by omega
            subst this
            exfalso
            have e : p * s - q * p = p * (s - q) := by grind
            have := Int.mul_le_mul_of_nonneg_left (show s - q ≤ -1 by omega) (show 0 ≤ p by omega)
            omega
        exfalso
        have z := Int.mul_le_mul (show p ≤ r - 1 by omega) (show s ≤ q - 1 by omega) (by omega) (by omega)
        have e : (r - 1) * (q - 1) = q * r - r - q + 1 := by grind
        omega
def wd : Nat → I3 → I4
  | 0, _ => (1, 0, 0, 1)
  | n + 1, f => Ao (stT f) (wd n (nx f))
def nxs : Nat → I3 → I3
  | 0, f => f
  | n + 1, f => nxs n (nx f)
theorem Hj {t : I4} : Ao (1, 0, 0, 1) t = t := by
  obtain ⟨p, q, r, s⟩ := t
  simp only [Ao, Prod.mk.injEq]
  refine ⟨?_, ?_, ?_, ?_⟩ <;> omega
theorem Gk {t : I4} : Ao t (1, 0, 0, 1) = t := by
  obtain ⟨p, q, r, s⟩ := t
  simp only [Ao, Prod.mk.injEq]
  refine ⟨?_, ?_, ?_, ?_⟩ <;> omega
theorem then_assoc {t u v : I4} : Ao (Ao t u) v = Ao t (Ao u v) := by
  obtain ⟨a, b, c, d⟩ := t; obtain ⟨e, f, g, h⟩ := u; obtain ⟨i, j, k, l⟩ := v
  simp only [Ao, Prod.mk.injEq]
  refine ⟨?_, ?_, ?_, ?_⟩ <;> grind
theorem JX : ∀ (n : Nat) (f : I3), mov f (wd n f) = nxs n f
  | 0, f => Cj
  | n + 1, f => by rw [wd, ← Bd]; exact JX n (nx f)
theorem Wa {a b c x y : Int} (ha : 0 < a) (hb : 0 < b) (hc : 0 < c) (hx : 0 ≤ x) (hy : 0 ≤ y) : 0 ≤ val (a, b, c) (x, y) := by
  have e : val (a, b, c) (x, y) = a * (x * x) + b * (x * y) + c * (y * y) := by simp only [val]; grind
  have h1 := Int.mul_nonneg (show 0 ≤ a by omega) (Int.mul_nonneg hx hx)
  have h2 := Int.mul_nonneg (show 0 ≤ b by omega) (Int.mul_nonneg hx hy)
  have h3 := Int.mul_nonneg (show 0 ≤ c by omega) (Int.mul_nonneg hy hy)
  omega
theorem neg_val {a b c x y : Int} (ha : a < 0) (hb : b < 0) (hc : c < 0) (hx : 0 ≤ x) (hy : 0 ≤ y) : val (a, b, c) (x, y) ≤ 0 := by
  have := Wa (a := -a) (b := -b) (c := -c) (by omega) (by omega) (by omega) hx hy
  have e : val (-a, -b, -c) (x, y) = -val (a, b, c) (x, y) := by simp only [val]; grind
  omega
theorem along : ∀ (m : Nat) (f : I3) (t : I4), sz t ≤ m → Riv f → NN t → Riv (mov f t) → ∃ n, t = wd n f := by
  intro m
  induction m with
  | zero =>
    intro f t hs _ hN _
    exfalso
    have := hN.p; have := hN.q; have := hN.r; have := hN.s
    unfold sz at hs
    omega
  | succ m ih =>
    intro f t hs hf hN hg
    rcases hN.split with e | ⟨u, hu, e, hl⟩ | ⟨u, hu, e, hl⟩
    · exact ⟨0, e⟩
    · have hsm : sm f < 0 := by
        have hne := AcH hf.2
        rcases Int.lt_or_le (sm f) 0 with z | z
        · exact z
        · exfalso
          rw [e, ← Bd] at hg
          obtain ⟨a, b, c⟩ := f
          obtain ⟨p, q, r, s⟩ := u
          rw [Y4] at hg
          have h1 : (mov (a, b + 2 * a, a + b + c) (p, q, r, s)).2.2 < 0 := hg.1.2
          have h2 : 0 < a := hf.1.1
          have h3 : c < 0 := hf.1.2
          simp only [sm] at hne z
          have h4 : 0 ≤ val (a, b + 2 * a, a + b + c) (q, s) := Wa h2 (by omega) (by omega) hu.q (by have := hu.s; simp only at this; omega)
          have h5 : (mov (a, b + 2 * a, a + b + c) (p, q, r, s)).2.2 = val (a, b + 2 * a, a + b + c) (q, s) := rfl
          omega
      have hst : stT f = tR := by unfold stT; rw [if_pos hsm]
      have hnx : nx f = mov f tR := by unfold nx; rw [hst]
      have hr := hf.next
      obtain ⟨n, en⟩ := ih (nx f) u (by omega) hr hu (by rw [hnx, Bd, ← e]; exact hg)
      exact ⟨n + 1, by rw [wd, hst, ← en]; exact e⟩
    · have hsm : ¬ sm f < 0 := by
        intro z
        rw [e, ← Bd] at hg
        obtain ⟨a, b, c⟩ := f
        obtain ⟨p, q, r, s⟩ := u
        rw [X3] at hg
        have h1 : 0 < (mov (a + b + c, b + 2 * c, c) (p, q, r, s)).1 := hg.1.1
        have h2 : 0 < a := hf.1.1
        have h3 : c < 0 := hf.1.2
        simp only [sm] at z
        have h4 : val (a + b + c, b + 2 * c, c) (p, r) ≤ 0 := neg_val (by omega) (by omega) h3 (by have := hu.p; simp only at this; omega) hu.r
        have h5 : (mov (a + b + c, b + 2 * c, c) (p, q, r, s)).1 = val (a + b + c, b + 2 * c, c) (p, r) := rfl
        omega
      have hst : stT f = tL := by unfold stT; rw [if_neg hsm]
      have hnx : nx f = mov f tL := by unfold nx; rw [hst]
      have hr := hf.next
      obtain ⟨n, en⟩ := ih (nx f) u (by omega) hr hu (by rw [hnx, Bd, ← e]; exact hg)
      exact ⟨n + 1, by rw [wd, hst, ← en]; exact e⟩
def Gv (t : I4) : I4 := (-t.1, -t.2.1, -t.2.2.1, -t.2.2.2)
theorem M4 {f : I3} {t : I4} : mov f (Gv t) = mov f t := by
  obtain ⟨a, b, c⟩ := f; obtain ⟨p, q, r, s⟩ := t
  simp only [mov, val, mid, Gv, Prod.mk.injEq]
  refine ⟨?_, ?_, ?_⟩ <;> grind
theorem neg_neg {t : I4} : Gv (Gv t) = t := by
  obtain ⟨p, q, r, s⟩ := t
  simp only [Gv, Prod.mk.injEq]
  refine ⟨?_, ?_, ?_, ?_⟩ <;> omega
theorem AbZ {t : I4} : det (Gv t) = det t := by
  obtain ⟨p, q, r, s⟩ := t
  simp only [det, Gv]; grind
theorem Ss {t : I4} : Ar (Gv t) = Gv (Ar t) := by
  obtain ⟨p, q, r, s⟩ := t
  simp only [Ar, Gv]
theorem signs {f : I3} {t : I4} (hf : Riv f) (hd : det t = 1) (hg : Riv (mov f t)) (hp : 0 ≤ t.1) : NN t ∨ NN (Ar t) := by
  obtain ⟨a, b, c⟩ := f
  obtain ⟨p, q, r, s⟩ := t
  have ha : 0 < a := hf.1.1
  have hc : c < 0 := hf.1.2
  have hu : 0 < val (a, b, c) (p, r) := hg.1.1
  have hv : val (a, b, c) (q, s) < 0 := hg.1.2
  have hp : 0 ≤ p := hp
  have p0 : p ≠ 0 := fun e => by
    subst e
    rw [UL] at hu
    have := Int.mul_nonneg (show 0 ≤ -c by omega) (sq_nonneg r)
    have e : -c * (r * r) = -(c * (r * r)) := by grind
    omega
  have s0 : s ≠ 0 := fun e => by
    subst e
    rw [JQ] at hv
    have := Int.mul_nonneg (show 0 ≤ a by omega) (sq_nonneg q)
    omega
  have hd' : p * s - q * r = 1 := hd
  have key : val (a, b, c) (p, r) * (q * s) - val (a, b, c) (q, s) * (p * r) = (p * s - q * r) * (a * (p * q) - c * (r * s)) := by simp only [val]; grind
  have hs : 0 < s := by
    rcases Int.lt_or_le 0 s with z | z
    · exact z
    · exfalso
      have z : s ≤ -1 := by omega
      have h1 : p * s ≤ 1 * -1 := by
        have := Int.mul_le_mul_of_nonneg_left z (show 0 ≤ p by omega)
        omega
      have hqr : q * r ≤ -2 := by omega
      rw [hd', Int.one_mul] at key
      rcases Int.lt_or_le q 0 with hq | hq
      · have hr : 0 < r := by
          rcases Int.lt_or_le 0 r with w | w
          · exact w
          · have := Int.mul_nonneg_of_nonpos_of_nonpos (show q ≤ 0 by omega) w
            omega
        have k1 := Int.mul_pos hu (Int.mul_pos_of_neg_of_neg hq (show s < 0 by omega))
        have k2 := Int.mul_neg_of_neg_of_pos hv (Int.mul_pos (show 0 < p by omega) hr)
        have k3 := Int.mul_neg_of_pos_of_neg ha (Int.mul_neg_of_pos_of_neg (show 0 < p by omega) hq)
        have k4 := Int.mul_pos_of_neg_of_neg hc (Int.mul_neg_of_pos_of_neg hr (show s < 0 by omega))
        omega
      · have hq' : 0 < q := by
          rcases Int.lt_or_le 0 q with w | w
          · exact w
          · have : q = 0 := by omega
            subst this
            omega
        have hr : r < 0 := by
          rcases Int.lt_or_le r 0 with w | w
          · exact w
          · have := Int.mul_nonneg hq w
            omega
        have k1 := Int.mul_neg_of_pos_of_neg hu (Int.mul_neg_of_pos_of_neg hq' (show s < 0 by omega))
        have k2 := Int.mul_pos_of_neg_of_neg hv (Int.mul_neg_of_pos_of_neg (show 0 < p by omega) hr)
        have k3 := Int.mul_pos ha (Int.mul_pos (show 0 < p by omega) hq')
        have k4 := Int.mul_neg_of_neg_of_pos hc (Int.mul_pos_of_neg_of_neg hr (show s < 0 by omega))
        omega
  have hps := Int.mul_le_mul (show 1 ≤ p by omega) (show 1 ≤ s by omega) (by decide) (by omega)
  by_cases hq : 0 ≤ q ∧ 0 ≤ r
  · exact .inl ⟨by simp only; omega, hq.1, hq.2, by simp only; omega, hd⟩
  · right
    have hqr : q ≤ 0 ∧ r ≤ 0 := by
      rcases Int.lt_trichotomy q 0 with w | w | w
      · refine ⟨by omega, ?_⟩
        rcases Int.lt_or_le 0 r with v | v
        · have := Int.mul_neg_of_neg_of_pos w v; omega
        · exact v
      · omega
      · exfalso
        have : r < 0 := by omega
        have := Int.mul_neg_of_pos_of_neg w this
        omega
    exact ⟨by simp only [Ar]; omega, by simp only [Ar]; omega, by simp only [Ar]; omega, by simp only [Ar]; omega, Cy.trans hd⟩
theorem Ag8 {f : I3} {t : I4} (hf : Riv f) (hd : det t = 1) (hg : Riv (mov f t)) :
    (∃ n, t = wd n f ∨ t = Gv (wd n f)) ∨ (∃ n, Ar t = wd n (mov f t) ∨ Ar t = Gv (wd n (mov f t))) := by
  have core : ∀ t : I4, det t = 1 → Riv (mov f t) → 0 ≤ t.1 → (∃ n, t = wd n f) ∨ (∃ n, Ar t = wd n (mov f t)) := fun t hd hg hp => by
    rcases signs hf hd hg hp with h | h
    · exact .inl (along _ f t (Nat.le_refl _) hf h hg)
    · exact .inr (along _ (mov f t) (Ar t) (Nat.le_refl _) hg h (by rw [Bv hd]; exact hf))
  rcases Int.le_total 0 t.1 with hp | hp
  · rcases core t hd hg hp with ⟨n, h⟩ | ⟨n, h⟩
    · exact .inl ⟨n, .inl h⟩
    · exact .inr ⟨n, .inl h⟩
  · rcases core (Gv t) (AbZ.trans hd) (by rw [M4]; exact hg) (by show 0 ≤ -t.1; omega) with ⟨n, h⟩ | ⟨n, h⟩
    · exact .inl ⟨n, .inr (by rw [← h, neg_neg])⟩
    · rw [M4, Ss] at h
      exact .inr ⟨n, .inr (by rw [← h, neg_neg])⟩
end My
namespace My
open PySem L2
structure Lv (far : Int) (f : I3) : Prop where
  S : Sad f
  r : Sq (meas f) far
  L : Level f far
abbrev aft (far : Int) (f : I3) : I3 := mov f (Ce f far)
theorem Lv.next {far : Int} {f : I3} (h : Lv far f) : Lv far (aft far f) :=
  ⟨h.S.mov Ck, by rw [Bq Ck]; exact h.r, Ux h.S h.r h.L⟩
theorem Lv.ac {far : Int} {f : I3} (h : Lv far f) : f.1 * f.2.2 < 0 := by
  have hf := Vp h.r h.S.no
  obtain ⟨⟨l1, l2⟩, _, _⟩ := h.L
  obtain ⟨a, b, c⟩ := f
  have l1 : 0 < b := l1
  have l2 : b ≤ far := l2
  have hb : b * b ≤ far * far := Int.mul_le_mul l2 l2 (by omega) (by omega)
  have e : meas (a, b, c) = b * b - 4 * (a * c) := by simp only [meas]; grind
  show a * c < 0
  omega
theorem Lv.neg {far : Int} {f : I3} (h : Lv far f) (ha : 0 < f.1) : f.2.2 < 0 := by
  rcases Int.lt_or_le f.2.2 0 with z | z
  · exact z
  · have := h.ac
    have := Int.mul_nonneg (show 0 ≤ f.1 by omega) z
    omega
theorem Lv.pos {far : Int} {f : I3} (h : Lv far f) (ha : f.1 < 0) : 0 < f.2.2 := by
  rcases Int.lt_or_le 0 f.2.2 with z | z
  · exact z
  · have := h.ac
    have := Int.mul_nonneg_of_nonpos_of_nonpos (show f.1 ≤ 0 by omega) z
    omega
theorem Gh {far : Int} {f : I3} (h : Lv far f) : (aft far f).1 = f.2.2 ∧ (aft far f).2.1 = dB f far ∧ (aft far f).2.2 = f.1 - f.2.1 * kB f far + f.2.2 * (kB f far * kB f far) := by
  obtain ⟨e, he⟩ := Kr (top := far) (Ge h.S)
  refine ⟨by show (mov f (Ce f far)).1 = _; rw [he], by show (mov f (Ce f far)).2.1 = _; rw [he], ?_⟩
  show val f (-1, kB f far) = _
  simp only [val]; grind
theorem Lv.riv {far : Int} {f : I3} (h : Lv far f) (ha : 0 < f.1) : Riv f := ⟨⟨ha, h.neg ha⟩, h.S.no⟩
theorem VN {far : Int} {f g : I3} (hf : Lv far f) (hg : Lv far g) (hm : meas f = meas g) (h : aft far f = aft far g) : f = g := by
  have ⟨f1, f2, _⟩ := Gh hf
  have ⟨g1, g2, _⟩ := Gh hg
  have hc : f.2.2 = g.2.2 := by rw [← f1, h, g1]
  have hd : dB f far = dB g far := by rw [← f2, h, g2]
  have kf := G8 (top := far) (Ge hf.S)
  have kg := G8 (top := far) (Ge hg.S)
  have cf := (Ib hf.r hf.S.no hf.L).1
  have cg := (Ib hg.r hg.S.no hg.L).1
  have lf := hf.L.1.2
  have lg := hg.L.1.2
  have c0 := Ge hf.S
  obtain ⟨a, b, c⟩ := f
  obtain ⟨a', b', c'⟩ := g
  simp only at hc hd kf kg cf cg lf lg c0
  subst hc
  rw [← hd] at kg
  have hb : b = b' := by
    have e : b - b' = 2 * (c * (kB (a, b, c) far - kB (a', b', c) far)) := by
      have : 2 * (c * (kB (a, b, c) far - kB (a', b', c) far)) = 2 * c * kB (a, b, c) far - 2 * c * kB (a', b', c) far := by grind
      omega
    generalize kB (a, b, c) far - kB (a', b', c) far = k at *
    have hx : ab (c * k) = ab c * ab k := (Nt c k).symm
    have hk : ab k = 0 := by
      rcases Int.lt_or_le (ab k) 1 with z | z
      · have := BW k; omega
      · exfalso
        have := Int.mul_le_mul_of_nonneg_left z (BW c)
        rcases Aw (c * k) with ⟨_, e1⟩ | ⟨_, e1⟩ <;> omega
    rw [hk] at hx
    have : c * k = 0 := by rcases Aw (c * k) with ⟨_, e1⟩ | ⟨_, e1⟩ <;> omega
    omega
  subst hb
  have e1 : 4 * c * a = 4 * c * a' := by
    simp only [meas] at hm
    have x1 : 4 * a * c = 4 * c * a := by grind
    have x2 : 4 * a' * c = 4 * c * a' := by grind
    omega
  have : a = a' := Int.eq_of_mul_eq_mul_left (show 4 * c ≠ 0 by omega) e1
  rw [this]
theorem Aib : ∀ (k : Nat) (a b c : Int), (∀ j : Nat, 1 ≤ j → j ≤ k → 0 < a + b * j + c * (j * j)) → wd k (a, b, c) = (1, 0, (k : Int), 1)
  | 0, _, _, _, _ => rfl
  | k + 1, a, b, c, h => by
    have h1 := h 1 (by omega) (by omega)
    have hs : ¬ sm (a, b, c) < 0 := by simp only [sm]; simp at h1; omega
    have e : nx (a, b, c) = (a + b + c, b + 2 * c, c) := by unfold nx; rw [show stT (a, b, c) = tL from if_neg hs]; exact X3
    rw [wd, e, show stT (a, b, c) = tL from if_neg hs, Aib k _ _ _ fun j j1 jk => ?_]
    · simp only [Ao, Prod.mk.injEq]
      refine ⟨by omega, by omega, by push_cast; omega, by omega⟩
    · have := h (j + 1) (by omega) (by omega)
      have e2 : a + b + c + (b + 2 * c) * (j : Int) + c * ((j : Int) * j) = a + b * ((j + 1 : Nat) : Int) + c * (((j + 1 : Nat) : Int) * ((j + 1 : Nat) : Int)) := by push_cast; grind
      rw [e2]; exact this
theorem Agp : ∀ (k : Nat) (a b c : Int), (∀ j : Nat, 1 ≤ j → j ≤ k → a * (j * j) + b * j + c < 0) → wd k (a, b, c) = (1, (k : Int), 0, 1)
  | 0, _, _, _, _ => rfl
  | k + 1, a, b, c, h => by
    have h1 := h 1 (by omega) (by omega)
    have hs : sm (a, b, c) < 0 := by simp only [sm]; simp at h1; omega
    have e : nx (a, b, c) = (a, b + 2 * a, a + b + c) := by unfold nx; rw [show stT (a, b, c) = tR from if_pos hs]; exact Y4
    rw [wd, e, show stT (a, b, c) = tR from if_pos hs, Agp k _ _ _ fun j j1 jk => ?_]
    · simp only [Ao, Prod.mk.injEq]
      refine ⟨by omega, by push_cast; omega, by omega, by omega⟩
    · have := h (j + 1) (by omega) (by omega)
      have e2 : a * ((j : Int) * j) + (b + 2 * a) * (j : Int) + (a + b + c) = a * (((j + 1 : Nat) : Int) * ((j + 1 : Nat) : Int)) + b * ((j + 1 : Nat) : Int) + c := by push_cast; grind
      rw [e2]; exact this
theorem Vb : ∀ (m n : Nat) (f : I3), wd (m + n) f = Ao (wd m f) (wd n (nxs m f))
  | 0, n, f => by rw [Nat.zero_add]; exact Hj.symm
  | m + 1, n, f => by
    rw [show m + 1 + n = (m + n) + 1 by omega, wd, Vb m n (nx f), wd, then_assoc]; rfl
theorem R6 : ∀ (m n : Nat) (f : I3), nxs (m + n) f = nxs n (nxs m f)
  | 0, n, f => by rw [Nat.zero_add]; rfl
  | m + 1, n, f => by rw [show m + 1 + n = (m + n) + 1 by omega]; exact R6 m n (nx f)
theorem AhB {a b c k j : Int} (hc : c ≤ 0) (h0 : 0 < a) (hk : 0 < a + b * k + c * (k * k)) (j0 : 0 ≤ j) (jk : j ≤ k) (k0 : 0 < k) : 0 < a + b * j + c * (j * j) := by
  have e : k * (a + b * j + c * (j * j)) = (k - j) * a + j * (a + b * k + c * (k * k)) + (-c) * (j * (k - j) * k) := by grind
  have h1 := Int.mul_nonneg (show 0 ≤ k - j by omega) (show 0 ≤ a by omega)
  have h2 := Int.mul_nonneg j0 (show 0 ≤ a + b * k + c * (k * k) by omega)
  have h3 := Int.mul_nonneg (show 0 ≤ -c by omega) (Int.mul_nonneg (Int.mul_nonneg j0 (show 0 ≤ k - j by omega)) (show 0 ≤ k by omega))
  have h4 : 0 < (k - j) * a + j * (a + b * k + c * (k * k)) := by
    by_cases z : j = k
    · subst z
      have := Int.mul_pos k0 hk
      omega
    · have := Int.mul_pos (show 0 < k - j by omega) h0
      omega
  rcases Int.lt_or_le 0 (a + b * j + c * (j * j)) with z | z
  · exact z
  · have := Int.mul_le_mul_of_nonneg_left z (show 0 ≤ k by omega)
    omega
theorem Lv.k_sign {far : Int} {f : I3} (h : Lv far f) : (0 < f.1 → kB f far < 0) ∧ (f.1 < 0 → 0 < kB f far) := by
  have hk := G8 (top := far) (Ge h.S)
  have hd : 0 < dB f far := by
    have := h.next.L.1.1
    rw [(Gh h).2.1] at this
    exact this
  have hb := h.L.1.1
  constructor
  · intro ha
    have hc := h.neg ha
    rcases Int.lt_or_le (kB f far) 0 with z | z
    · exact z
    · have := Int.mul_nonneg (show 0 ≤ -(2 * f.2.2) by omega) z
      have e : -(2 * f.2.2) * kB f far = -(2 * f.2.2 * kB f far) := by grind
      omega
  · intro ha
    have hc := h.pos ha
    rcases Int.lt_or_le 0 (kB f far) with z | z
    · exact z
    · have := Int.mul_nonneg (show 0 ≤ 2 * f.2.2 by omega) (show 0 ≤ -kB f far by omega)
      have e : 2 * f.2.2 * -kB f far = -(2 * f.2.2 * kB f far) := by grind
      omega
theorem Xw {far : Int} {f : I3} (h : Lv far f) (ha : 0 < f.1) :
    ∃ N : Nat, 2 ≤ N ∧ nxs N f = aft far (aft far f) ∧ wd N f = Gv (Ao (Ce f far) (Ce (aft far f) far)) ∧ ∀ j, 0 < j → j < N → ¬ Lv far (nxs j f) := by
  have h' := h.next
  have h'' := h'.next
  have hc := h.neg ha
  have ⟨g1, g2, g3⟩ := Gh h
  have a' : (aft far f).1 < 0 := by rw [g1]; exact hc
  have he := h'.pos a'
  have ⟨q1, q2, q3⟩ := Gh h'
  have a'' : 0 < (aft far (aft far f)).1 := by rw [q1]; exact he
  have he'' := h''.neg a''
  have kn := h.k_sign.1 ha
  have kp := h'.k_sign.2 a'
  have hk1 := G8 (top := far) (Ge h.S)
  have hk2 := G8 (top := far) (Ge h'.S)
  have lb := h.L.1.2
  have ld' := h''.L.1.2
  rw [q2] at ld'
  rw [g2] at hk2
  rw [q3, g1, g2] at he''
  rw [g3] at he
  have hbeh1 : Ce f far = (0, -1, 1, kB f far) := rfl
  have hbeh2 : Ce (aft far f) far = (0, -1, 1, kB (aft far f) far) := rfl
  rw [hbeh1, hbeh2]
  have e22 : (aft far f).2.2 = f.1 - f.2.1 * kB f far + f.2.2 * (kB f far * kB f far) := g3
  generalize hF : aft far (aft far f) = F at *
  generalize hd' : dB (aft far f) far = d' at *
  generalize hk2' : kB (aft far f) far = k2 at *
  have hform : nxs 0 f = f := rfl
  generalize hg : aft far f = g at *
  generalize hd : dB f far = d at *
  generalize hk1' : kB f far = k1 at *
  obtain ⟨a, b, c⟩ := f
  have ha : 0 < a := ha
  have hc : c < 0 := hc
  have lb : b ≤ far := lb
  have he : 0 < a - b * k1 + c * (k1 * k1) := he
  have hk1 : 2 * c * k1 = b + d := hk1
  have he'' : c - d * k2 + g.2.2 * (k2 * k2) < 0 := he''
  have e22 : g.2.2 = a - b * k1 + c * (k1 * k1) := e22
  rw [e22] at he'' hk2
  obtain ⟨n1, hn1⟩ : ∃ n : Nat, -k1 = n := ⟨(-k1).toNat, by omega⟩
  obtain ⟨n2, hn2⟩ : ∃ n : Nat, k2 = n := ⟨k2.toNat, by omega⟩
  have hk1n : k1 = -(n1 : Int) := by omega
  have hw1 : ∀ i : Nat, i ≤ n1 → wd i (a, b, c) = (1, 0, (i : Int), 1) := fun i hi => Aib i a b c fun j j1 ji => by
    refine AhB (k := n1) (by omega) ha ?_ (by omega) (by omega) (by omega)
    have : a + b * (n1 : Int) + c * ((n1 : Int) * n1) = a - b * k1 + c * (k1 * k1) := by rw [hk1n]; grind
    omega
  have hF1 : nxs n1 (a, b, c) = (a - b * k1 + c * (k1 * k1), -d, c) := by
    rw [← JX, hw1 n1 (Nat.le_refl _)]
    have e1 : -d = b + 2 * c * n1 := by
      have : 2 * c * (n1 : Int) = -(2 * c * k1) := by rw [hk1n]; grind
      omega
    rw [e1, hk1n]
    simp only [mov, val, mid, Prod.mk.injEq]
    refine ⟨?_, ?_, ?_⟩ <;> grind
  generalize hee : a - b * k1 + c * (k1 * k1) = e at *
  have hw2 : ∀ i : Nat, i ≤ n2 → wd i (e, -d, c) = (1, (i : Int), 0, 1) := fun i hi => Agp i e (-d) c fun j j1 ji => by
    have := AhB (a := -c) (b := d) (c := -e) (k := n2) (j := j) (by omega) (by omega) (by
      have : -c + d * (n2 : Int) + -e * ((n2 : Int) * n2) = -(c - d * k2 + e * (k2 * k2)) := by rw [hn2]; grind
      omega) (by omega) (by omega) (by omega)
    have e1 : e * ((j : Int) * j) + -d * j + c = -(-c + d * (j : Int) + -e * ((j : Int) * j)) := by grind
    omega
  have hF2 : ∀ i : Nat, i ≤ n2 → nxs (n1 + i) (a, b, c) = (e, -d + 2 * e * i, e * ((i : Int) * i) - d * i + c) := fun i hi => by
    rw [R6, hF1, ← JX, hw2 i hi]
    simp only [mov, val, mid, Prod.mk.injEq]
    refine ⟨?_, ?_, ?_⟩ <;> grind
  have hwd : wd (n1 + n2) (a, b, c) = Gv (Ao (0, -1, 1, k1) (0, -1, 1, k2)) := by
    rw [Vb, hF1, hw1 n1 (Nat.le_refl _), hw2 n2 (Nat.le_refl _), hk1n, hn2]
    simp only [Ao, Gv, Prod.mk.injEq]
    refine ⟨?_, ?_, ?_, ?_⟩ <;> grind
  refine ⟨n1 + n2, by omega, ?_, hwd, ?_⟩
  · rw [← JX, hwd, M4, ← Bd, ← hF, ← hg]
    show mov (mov (a, b, c) (0, -1, 1, k1)) (0, -1, 1, k2) = _
    rw [← hk1', ← hk2', ← hg]; rfl
  · intro j j0 jn hL
    rcases Nat.lt_or_ge n1 j with z | z
    · obtain ⟨i, rfl⟩ : ∃ i, j = n1 + i := ⟨j - n1, by omega⟩
      rw [hF2 i (by omega)] at hL
      have l1 := hL.L.2.1
      have l1 : far - (-d + 2 * e * i) < 2 * ab e := l1
      rw [show ab e = e from if_neg (by omega)] at l1
      have hi : (i : Int) ≤ n2 - 1 := by omega
      have := Int.mul_le_mul_of_nonneg_left hi (show 0 ≤ 2 * e by omega)
      have e1 : 2 * e * ((n2 : Int) - 1) = 2 * e * k2 - 2 * e := by rw [hn2]; grind
      omega
    · have hj : nxs j (a, b, c) = (a + b * j + c * ((j : Int) * j), b + 2 * c * j, c) := by
        rw [← JX, hw1 j z]
        simp only [mov, val, mid, Prod.mk.injEq]
        refine ⟨?_, ?_, ?_⟩ <;> grind
      rw [hj] at hL
      have l1 := (Ib hL.r hL.S.no hL.L).1
      have l1 : far - (b + 2 * c * j) < 2 * ab c := l1
      rw [show ab c = -c from if_pos hc] at l1
      have := Int.mul_le_mul_of_nonneg_left (show (1 : Int) ≤ j by omega) (show 0 ≤ -(2 * c) by omega)
      have e1 : -(2 * c) * (j : Int) = -(2 * c * j) := by grind
      omega
end My
namespace My
open PySem L2
def Sg (t u : I4) : Prop := t = u ∨ t = Gv u
theorem Ug {t u : I4} : Ao (Gv t) u = Gv (Ao t u) := by
  obtain ⟨a, b, c, d⟩ := t; obtain ⟨e, f, g, h⟩ := u
  simp only [Ao, Gv, Prod.mk.injEq]
  refine ⟨?_, ?_, ?_, ?_⟩ <;> grind
theorem Sv {t u : I4} : Ao t (Gv u) = Gv (Ao t u) := by
  obtain ⟨a, b, c, d⟩ := t; obtain ⟨e, f, g, h⟩ := u
  simp only [Ao, Gv, Prod.mk.injEq]
  refine ⟨?_, ?_, ?_, ?_⟩ <;> grind
theorem Fp {t : I4} : Ar (Ar t) = t := by
  obtain ⟨a, b, c, d⟩ := t
  simp only [Ar, Prod.mk.injEq]
  refine ⟨trivial, ?_, ?_, trivial⟩ <;> omega
theorem Ob {t u : I4} : Ar (Ao t u) = Ao (Ar u) (Ar t) := by
  obtain ⟨a, b, c, d⟩ := t; obtain ⟨e, f, g, h⟩ := u
  simp only [Ao, Ar, Prod.mk.injEq]
  refine ⟨?_, ?_, ?_, ?_⟩ <;> grind
theorem Sg.refl {t : I4} : Sg t t := .inl rfl
theorem Sg.trans {t u v : I4} (h : Sg t u) (k : Sg u v) : Sg t v := by
  rcases h with rfl | rfl <;> rcases k with rfl | rfl
  · exact .inl rfl
  · exact .inr rfl
  · exact .inr rfl
  · exact .inl neg_neg
theorem Sg.then {t u t' u' : I4} (h : Sg t t') (k : Sg u u') : Sg (Ao t u) (Ao t' u') := by
  rcases h with rfl | rfl <;> rcases k with rfl | rfl
  · exact .inl rfl
  · exact .inr Sv
  · exact .inr Ug
  · exact .inl (by rw [Ug, Sv, neg_neg])
theorem Sg.back {t u : I4} (h : Sg t u) : Sg (Ar t) (Ar u) := by
  rcases h with rfl | rfl
  · exact .inl rfl
  · exact .inr Ss
theorem Sg.mov {f : I3} {t u : I4} (h : Sg t u) : mov f t = mov f u := by
  rcases h with rfl | rfl
  · rfl
  · exact M4
def rF (far : Int) : Nat → I3 → I3
  | 0, f => f
  | n + 1, f => rF far n (aft far f)
def rT (far : Int) : Nat → I3 → I4
  | 0, _ => (1, 0, 0, 1)
  | n + 1, f => Ao (Ce f far) (rT far n (aft far f))
theorem Gb {far : Int} : ∀ (n : Nat) (f : I3), mov f (rT far n f) = rF far n f
  | 0, _ => Cj
  | n + 1, f => by rw [rT, ← Bd]; exact Gb n (aft far f)
theorem N6 {far : Int} : ∀ (n : Nat) (f : I3), det (rT far n f) = 1
  | 0, _ => rfl
  | n + 1, f => by rw [rT, Ca, Ck, N6 n (aft far f)]; rfl
theorem Ez {far : Int} : ∀ (m n : Nat) (f : I3), rF far (m + n) f = rF far n (rF far m f)
  | 0, n, f => by rw [Nat.zero_add]; rfl
  | m + 1, n, f => by rw [show m + 1 + n = (m + n) + 1 by omega]; exact Ez m n (aft far f)
theorem RT {far : Int} : ∀ (m n : Nat) (f : I3), rT far (m + n) f = Ao (rT far m f) (rT far n (rF far m f))
  | 0, n, f => by rw [Nat.zero_add]; exact Hj.symm
  | m + 1, n, f => by rw [show m + 1 + n = (m + n) + 1 by omega, rT, RT m n (aft far f), rT, then_assoc]; rfl
theorem Rg {far : Int} {n : Nat} {f : I3} : rF far (n + 1) f = aft far (rF far n f) := by rw [Ez]; rfl
theorem VJ {far : Int} {n : Nat} {f : I3} : rT far (n + 1) f = Ao (rT far n f) (Ce (rF far n f) far) := by
  rw [RT]
  show Ao _ (Ao _ (1, 0, 0, 1)) = _
  rw [Gk]
theorem Lv.rF {far : Int} : ∀ (n : Nat) {f : I3}, Lv far f → Lv far (rF far n f)
  | 0, _, h => h
  | n + 1, _, h => Lv.rF n h.next
theorem Kq {far : Int} (n : Nat) (f : I3) : meas (rF far n f) = meas f := by rw [← Gb, Bq (N6 n f)]
theorem Wi {far : Int} : ∀ (n : Nat) (f : I3), Lv far f → 0 < f.1 → Lv far (nxs n f) → ∃ m, Sg (wd n f) (rT far m f) := by
  intro n
  induction n using Nat.strongRecOn with
  | ind n ih =>
    intro f hf ha hg
    by_cases h0 : n = 0
    · subst h0
      exact ⟨0, Sg.refl⟩
    · obtain ⟨N, hN, e1, e2, e3⟩ := Xw hf ha
      have hn : N ≤ n := by
        rcases Nat.lt_or_ge n N with z | z
        · exact absurd hg (e3 n (by omega) z)
        · exact z
      obtain ⟨k, rfl⟩ : ∃ k, n = N + k := ⟨n - N, by omega⟩
      have a2 : 0 < (aft far (aft far f)).1 := by
        rw [(Gh hf.next).1]
        exact hf.next.pos (by rw [(Gh hf).1]; exact hf.neg ha)
      rw [R6, e1] at hg
      obtain ⟨m, hm⟩ := ih k (by omega) (aft far (aft far f)) hf.next.next a2 hg
      refine ⟨m + 2, ?_⟩
      rw [Vb, e1, e2]
      show Sg _ (Ao (Ce f far) (Ao (Ce (aft far f) far) (rT far m (aft far (aft far f)))))
      rw [← then_assoc]
      exact Sg.then (.inr rfl) hm
def Ring (far : Int) (f g : I3) (t : I4) : Prop := (∃ m, Sg t (rT far m f)) ∨ (∃ m, Sg (Ar t) (rT far m g))
theorem Ring.swap {far : Int} {f g : I3} {t : I4} (h : Ring far f g t) : Ring far g f (Ar t) := by
  rcases h with ⟨m, h⟩ | ⟨m, h⟩
  · exact .inr ⟨m, by rw [Fp]; exact h⟩
  · exact .inl ⟨m, h⟩
theorem Wv {far : Int} {f g : I3} {t : I4} (hf : Lv far f) (hg : Lv far g) (hd : det t = 1) (e : mov f t = g) (fa : 0 < f.1) (ga : 0 < g.1) : Ring far f g t := by
  have hr : Riv (mov f t) := by rw [e]; exact hg.riv ga
  rcases Ag8 (hf.riv fa) hd hr with ⟨n, h⟩ | ⟨n, h⟩
  · have hs : Sg t (wd n f) := h
    have hn : Lv far (nxs n f) := by rw [← JX, ← hs.mov, e]; exact hg
    obtain ⟨m, hm⟩ := Wi n f hf fa hn
    exact .inl ⟨m, hs.trans hm⟩
  · rw [e] at h
    have hs : Sg (Ar t) (wd n g) := h
    have hn : Lv far (nxs n g) := by rw [← JX, ← hs.mov, ← e, Bv hd]; exact hf
    obtain ⟨m, hm⟩ := Wi n g hg ga hn
    exact .inr ⟨m, hs.trans hm⟩
theorem VP {far : Int} {f g : I3} {t : I4} {m : Nat} (hf : Lv far f) (hg : Lv far g) (hm : meas f = meas g) (h : Sg (Ao t (Ce g far)) (rT far m f)) (e : rF far m f = aft far g) : (∃ k, Sg t (rT far k f)) ∨ Sg t (Ar (Ce g far)) := by
  have cancel : ∀ {u : I4}, Sg (Ao t (Ce g far)) (Ao u (Ce g far)) → Sg t u := fun {u} h => by
    have := Sg.then h (Sg.refl (t := Ar (Ce g far)))
    rw [then_assoc, then_assoc, Jo Ck, Gk, Gk] at this
    exact this
  match m, h, e with
  | 0, h, e =>
    right
    refine cancel (h.trans ?_)
    rw [QS Ck]
    exact Sg.refl
  | m + 1, h, e =>
    left
    rw [Rg] at e
    have e' := VN (Lv.rF m hf) hg (by rw [Kq]; exact hm) e
    rw [VJ, e'] at h
    exact ⟨m, cancel h⟩
theorem Rv {far : Int} {f g : I3} {t : I4} (hf : Lv far f) (hg : Lv far g) (hd : det t = 1) (e : mov f t = g) (fa : 0 < f.1) (ga : g.1 < 0) : Ring far f g t := by
  have hm : meas f = meas g := by rw [← e, Bq hd]
  have hd' : det (Ao t (Ce g far)) = 1 := by rw [Ca, hd, Ck]; rfl
  have e' : mov f (Ao t (Ce g far)) = aft far g := by rw [← Bd, e]
  have ga' : 0 < (aft far g).1 := by rw [(Gh hg).1]; exact hg.pos ga
  rcases Wv hf hg.next hd' e' fa ga' with ⟨m, h⟩ | ⟨m, h⟩
  · have er : rF far m f = aft far g := by rw [← Gb, ← h.mov, e']
    rcases VP hf hg hm h er with h | h
    · exact .inl h
    · refine .inr ⟨1, ?_⟩
      have := h.back
      rw [Fp] at this
      show Sg _ (Ao (Ce g far) (1, 0, 0, 1))
      rw [Gk]
      exact this
  · refine .inr ⟨m + 1, ?_⟩
    have h2 := Sg.then (Sg.refl (t := Ce g far)) h
    rw [Ob, ← then_assoc, Jo Ck, Hj] at h2
    exact h2
theorem Oi {far : Int} {f g : I3} {t : I4} (hf : Lv far f) (hg : Lv far g) (hd : det t = 1) (e : mov f t = g) : Ring far f g t := by
  have fa := V5 hf.S
  have ga := V5 hg.S
  have eb : mov g (Ar t) = f := by rw [← e, Bv hd]
  have hdb : det (Ar t) = 1 := Cy.trans hd
  rcases Int.lt_or_lt_of_ne fa with fa | fa
  · rcases Int.lt_or_lt_of_ne ga with ga | ga
    ·
      have fa' : 0 < (aft far f).1 := by rw [(Gh hf).1]; exact hf.pos fa
      have hd' : det (Ao (Ar (Ce f far)) t) = 1 := by rw [Ca, Cy, Ck, hd]; rfl
      have e' : mov (aft far f) (Ao (Ar (Ce f far)) t) = g := by
        rw [← Bd, Bv Ck, e]
      have hm : meas g = meas f := by rw [← e, Bq hd]
      rcases Rv hf.next hg hd' e' fa' ga with ⟨m, h⟩ | ⟨m, h⟩
      · refine .inl ⟨m + 1, ?_⟩
        have h2 := Sg.then (Sg.refl (t := Ce f far)) h
        rw [← then_assoc, Jo Ck, Hj] at h2
        exact h2
      · rw [Ob, Fp] at h
        have er : rF far m g = aft far f := by rw [← Gb, ← h.mov, ← Bd, eb]
        rcases VP hg hf hm h er with h | h
        · exact .inr h
        · refine .inl ⟨1, ?_⟩
          have := h.back
          rw [Fp, Fp] at this
          show Sg _ (Ao (Ce f far) (1, 0, 0, 1))
          rw [Gk]
          exact this
    · have := (Rv hg hf hdb eb ga fa).swap
      rw [Fp] at this
      exact this
  · rcases Int.lt_or_lt_of_ne ga with ga | ga
    · exact Rv hf hg hd e fa ga
    · exact Wv hf hg hd e fa ga
theorem AdC : ∀ (M : Nat) (x : Nat → Nat), (∀ i, i ≤ M → x i < M) → ∃ i j, i < j ∧ j ≤ M ∧ x i = x j := by
  intro M
  induction M with
  | zero => intro x h; exact absurd (h 0 (Nat.le_refl _)) (by omega)
  | succ M ih =>
    intro x h
    by_cases hex : ∃ i j, i < j ∧ j ≤ M + 1 ∧ x i = x j
    · exact hex
    · have ne : ∀ i j, i < j → j ≤ M + 1 → x i ≠ x j := fun i j h1 h2 h3 => hex ⟨i, j, h1, h2, h3⟩
      obtain ⟨i, j, h1, h2, h3⟩ := ih (fun i => if x i = M then x (M + 1) else x i) (fun i hi => by
        have h1 := h i (by omega)
        have h2 := h (M + 1) (Nat.le_refl _)
        have h3 := ne i (M + 1) (by omega) (Nat.le_refl _)
        show (if x i = M then x (M + 1) else x i) < M
        split <;> omega)
      exfalso
      have n1 := ne i j h1 (by omega)
      have n2 := ne i (M + 1) (by omega) (Nat.le_refl _)
      have n3 := ne j (M + 1) (by omega) (Nat.le_refl _)
      have h3 : (if x i = M then x (M + 1) else x i) = (if x j = M then x (M + 1) else x j) := h3
      split at h3 <;> split at h3 <;> omega
theorem K6 {far : Int} : ∀ (i : Nat) {f g : I3}, Lv far f → Lv far g → meas f = meas g → rF far i f = rF far i g → f = g
  | 0, _, _, _, _, _, h => h
  | i + 1, f, g, hf, hg, hm, h => VN hf hg hm (K6 i hf.next hg.next (by rw [Bq Ck, Bq Ck]; exact hm) h)
def Sd (f : I3) : Nat := ((f.1 + 63) * 64 + f.2.1).toNat
theorem Lv.range {far : Int} {f : I3} (h : Lv far f) : (-63 ≤ f.1 ∧ f.1 ≤ 63) ∧ (0 < f.2.1 ∧ f.2.1 ≤ 63) := by
  have h6 := Nz h.r h.S.most
  obtain ⟨⟨l1, l2⟩, _, l4⟩ := h.L
  have l4 : 2 * ab f.1 ≤ far + f.2.1 := l4
  rcases Aw f.1 with ⟨_, e⟩ | ⟨_, e⟩ <;> omega
theorem code_inj {far : Int} {f g : I3} (hf : Lv far f) (hg : Lv far g) (hm : meas f = meas g) (h : Sd f = Sd g) : f = g := by
  have rf := hf.range
  have rg := hg.range
  have ha := V5 hf.S
  obtain ⟨a, b, c⟩ := f
  obtain ⟨a', b', c'⟩ := g
  simp only [Sd] at h rf rg ha
  have e1 : a = a' := by omega
  have e2 : b = b' := by omega
  subst e1 e2
  have e3 : 4 * a * c = 4 * a * c' := by simp only [meas] at hm; omega
  have : c = c' := Int.eq_of_mul_eq_mul_left (show 4 * a ≠ 0 by omega) e3
  rw [this]
theorem Ml {far : Int} {f : I3} (h : Lv far f) : ∃ N, 0 < N ∧ N ≤ 8128 ∧ rF far N f = f ∧ ∀ j, 0 < j → j < N → rF far j f ≠ f := by
  have ex : ∃ N, 0 < N ∧ N ≤ 8128 ∧ rF far N f = f := by
    obtain ⟨i, j, hij, hj, e⟩ := AdC 8128 (fun i => Sd (rF far i f)) (fun i _ => by
      have := (Lv.rF i h).range
      unfold Sd
      omega)
    have e' := code_inj (Lv.rF i h) (Lv.rF j h) (by rw [Kq, Kq]) e
    obtain ⟨k, rfl⟩ : ∃ k, j = k + i := ⟨j - i, by omega⟩
    rw [Ez k i f] at e'
    have := K6 i h (Lv.rF k h) (by rw [Kq]) e'
    exact ⟨k, by omega, by omega, this.symm⟩
  have least : ∀ M, (∃ N, 0 < N ∧ N ≤ M ∧ rF far N f = f) → ∃ N, 0 < N ∧ N ≤ M ∧ rF far N f = f ∧ ∀ j, 0 < j → j < N → rF far j f ≠ f := by
    intro M
    induction M with
    | zero => intro ⟨N, h1, h2, _⟩; omega
    | succ M ih =>
      intro hN
      by_cases hM : ∃ N, 0 < N ∧ N ≤ M ∧ rF far N f = f
      · obtain ⟨N, h1, h2, h3, h4⟩ := ih hM
        exact ⟨N, h1, by omega, h3, h4⟩
      · obtain ⟨N, h1, h2, h3⟩ := hN
        exact ⟨N, h1, h2, h3, fun j j0 jN e => hM ⟨j, j0, by omega, e⟩⟩
  exact least 8128 ex
theorem Wy {f : I3} {far : Int} (h : Lv far f) : Bt 9 (kB f far) := by
  have hc := Ge h.S
  have hk := G8 (top := far) hc
  have ⟨d1, d2⟩ := IK (top := far) hc
  have h6 := Nz h.r h.S.most
  have ⟨c1, c2⟩ := Ib h.r h.S.no h.L
  obtain ⟨⟨l1, l2⟩, _, _⟩ := h.L
  have e1 : 2 * (ab f.2.2 * ab (kB f far)) = ab (f.2.1 + dB f far) := by
    rw [← hk, Nt]
    have : 2 * f.2.2 * kB f far = 2 * (f.2.2 * kB f far) := by grind
    rw [this]
    rcases Aw (f.2.2 * kB f far) with ⟨h1, e1⟩ | ⟨h1, e1⟩
    · rw [e1, ab, if_neg (by omega)]
    · rw [e1, ab, if_pos (by omega)]; omega
  have c0 : 1 ≤ ab f.2.2 := by rcases Aw f.2.2 with ⟨_, e1⟩ | ⟨_, e1⟩ <;> omega
  have e2 := Int.mul_le_mul_of_nonneg_right c0 (BW (kB f far))
  have e3 : ab (f.2.1 + dB f far) ≤ 252 := by rcases Aw (f.2.1 + dB f far) with ⟨_, e1⟩ | ⟨_, e1⟩ <;> omega
  have := BW (kB f far)
  exact Qo (k := 252) (by omega) (by decide)
theorem Ac6 {far : Int} : ∀ (n : Nat) {f : I3}, Lv far f → B4 (10 * n + 1) (rT far n f)
  | 0, _, _ => ⟨Bt.one, Bt.zero.le (by omega), Bt.zero.le (by omega), Bt.one⟩
  | n + 1, f, h => by
    have h1 := O8 (Wy h) (by decide)
    exact (B4.then h1 (Ac6 n h.next)).le (by omega)
end My
namespace My
open PySem L2
def tr (t : I4) : Int := t.1 + t.2.2.2
theorem Abn {t x : I4} (h : det x = 1) : tr (Ao (Ao x t) (Ar x)) = tr t := by
  obtain ⟨p, q, r, s⟩ := t; obtain ⟨a, b, c, d⟩ := x
  simp only [det] at h
  have : tr (Ao (Ao (a, b, c, d) (p, q, r, s)) (Ar (a, b, c, d))) = (a * d - b * c) * (p + s) := by simp only [tr, Ao, Ar]; grind
  rw [this, h, Int.one_mul]; rfl
theorem XQ {t x : I4} (h : det x = 1) : tr (Ao (Ao (Ar x) t) x) = tr t := by
  have := Abn (t := t) (x := Ar x) (Cy.trans h)
  rw [Fp] at this
  exact this
theorem AdU {f : I3} (h : f.1 ≠ 0) : 0 < g3 f := by
  rcases Nat.lt_or_ge 0 (g3 f) with z | z
  · exact z
  · have := AbI (show g3 f = 0 by omega)
    rw [this] at h
    exact absurd rfl h
theorem Ad4 {f : I3} {d : Int} (h1 : d ∣ f.1) (h2 : d ∣ f.2.1) (h3 : d ∣ f.2.2) : d ∣ (g3 f : Int) := Int.dvd_coe_gcd (Int.dvd_coe_gcd h1 h2) h3
theorem Ni {f : I3} {t : I4} : (g3 f : Int) ∣ (g3 (mov f t) : Int) := by
  obtain ⟨⟨x, hx⟩, ⟨y, hy⟩, ⟨z, hz⟩⟩ := Yv f
  refine Ad4 ⟨val (x, y, z) (t.1, t.2.2.1), ?_⟩ ⟨mid (x, y, z) (t.1, t.2.2.1) (t.2.1, t.2.2.2), ?_⟩ ⟨val (x, y, z) (t.2.1, t.2.2.2), ?_⟩
  · show val f (t.1, t.2.2.1) = _
    simp only [val]; rw [hx, hy, hz]; grind
  · show mid f (t.1, t.2.2.1) (t.2.1, t.2.2.2) = _
    simp only [mid]; rw [hx, hy, hz]; grind
  · show val f (t.2.1, t.2.2.2) = _
    simp only [val]; rw [hx, hy, hz]; grind
theorem K9 {f : I3} {t : I4} (h : det t = 1) : g3 (mov f t) = g3 f := by
  have h1 : (g3 f : Int) ∣ (g3 (mov f t) : Int) := Ni
  have h2 : (g3 (mov f t) : Int) ∣ (g3 f : Int) := by
    have := Ni (f := mov f t) (t := Ar t)
    rw [Bv h] at this
    exact this
  exact Nat.dvd_antisymm (Int.ofNat_dvd.mp h2) (Int.ofNat_dvd.mp h1)
def pl (f : I3) : I3 := (f.1 / (g3 f : Int), f.2.1 / (g3 f : Int), f.2.2 / (g3 f : Int))
theorem Ai6 (f : I3) : f.1 = (g3 f : Int) * (pl f).1 ∧ f.2.1 = (g3 f : Int) * (pl f).2.1 ∧ f.2.2 = (g3 f : Int) * (pl f).2.2 := by
  obtain ⟨h1, h2, h3⟩ := Yv f
  exact ⟨(Int.mul_ediv_cancel' h1).symm, (Int.mul_ediv_cancel' h2).symm, (Int.mul_ediv_cancel' h3).symm⟩
theorem WK {far : Int} {f : I3} {N m : Nat} (e : rF far N f = f) : tr (rT far N (rF far m f)) = tr (rT far N f) := by
  have h1 := RT (far := far) m N f
  have h2 := RT (far := far) N m f
  rw [e, Nat.add_comm N m] at h2
  have hd := N6 (far := far) m f
  have : rT far N (rF far m f) = Ao (Ao (Ar (rT far m f)) (rT far N f)) (rT far m f) := by
    rw [then_assoc, ← h2, h1, ← then_assoc, QS hd, Hj]
  rw [this, XQ hd]
theorem T8 {far : Int} {f : I3} {N M m : Nat} (h : Lv far f) (e : rF far N f = f) (min : ∀ j, 0 < j → j < N → rF far j f ≠ f) (e' : rF far M (rF far m f) = rF far m f) (min' : ∀ j, 0 < j → j < M → rF far j (rF far m f) ≠ rF far m f) (hN : 0 < N) (hM : 0 < M) : N = M := by
  have a1 : rF far M f = f := by
    rw [← Ez, Nat.add_comm, Ez] at e'
    exact K6 m (Lv.rF M h) h (by rw [Kq]) e'
  have a2 : rF far N (rF far m f) = rF far m f := by rw [← Ez, Nat.add_comm, Ez, e]
  rcases Nat.lt_trichotomy N M with z | z | z
  · exact absurd a2 (min' N hN z)
  · exact z
  · exact absurd a1 (min M hM z)
theorem QL {far : Int} {f g : I3} {t : I4} {N M : Nat} (hf : Lv far f) (hg : Lv far g) (hd : det t = 1) (e : mov f t = g) (eN : rF far N f = f) (minN : ∀ j, 0 < j → j < N → rF far j f ≠ f) (eM : rF far M g = g) (minM : ∀ j, 0 < j → j < M → rF far j g ≠ g) (hN : 0 < N) (hM : 0 < M) : N = M ∧ tr (rT far M g) = tr (rT far N f) := by
  rcases Oi hf hg hd e with ⟨m, h⟩ | ⟨m, h⟩
  · have eg : rF far m f = g := by rw [← Gb, ← h.mov, e]
    subst eg
    have := T8 hf eN minN eM minM hN hM
    subst this
    exact ⟨rfl, WK eN⟩
  · have ef : rF far m g = f := by rw [← Gb, ← h.mov, ← e, Bv hd]
    subst ef
    have := T8 hg eM minM eN minN hM hN
    subst this
    exact ⟨rfl, (WK eM).symm⟩
end My
namespace My
open PySem L2
def FA (p q : I4) : I3 := (p.1 * q.2.1 - p.2.1 * q.1, p.1 * q.2.2.2 - p.2.2.2 * q.1 + p.2.2.1 * q.2.1 - p.2.1 * q.2.2.1, p.2.2.1 * q.2.2.2 - p.2.2.2 * q.2.2.1)
def FB (p q : I4) : I3 := (p.1 * q.2.2.1 - p.2.2.1 * q.1, p.1 * q.2.2.2 - p.2.2.2 * q.1 + p.2.1 * q.2.2.1 - p.2.2.1 * q.2.1, p.2.1 * q.2.2.2 - p.2.2.2 * q.2.1)
def FC (p q : I4) : I3 := (q.2.1 * q.2.2.1 - q.1 * q.2.2.2, p.1 * q.2.2.2 + p.2.2.2 * q.1 - p.2.1 * q.2.2.1 - p.2.2.1 * q.2.1, p.2.1 * p.2.2.1 - p.1 * p.2.2.2)
def Comp (f g F : I3) : Prop := ∃ p q : I4, FA p q = f ∧ FB p q = g ∧ FC p q = F
theorem Ad5 {f g : I3} (h1 : f.1 = g.1) (h2 : f.2.1 = g.2.1) (h3 : f.2.2 = g.2.2) : f = g := Prod.ext h1 (Prod.ext h2 h3)
theorem Comp.swap {f g F : I3} (h : Comp f g F) : Comp g f F := by
  obtain ⟨⟨p0, p1, p2, p3⟩, ⟨q0, q1, q2, q3⟩, rfl, rfl, rfl⟩ := h
  refine ⟨(p0, p2, p1, p3), (q0, q2, q1, q3), ?_, ?_, ?_⟩ <;> simp only [FA, FB, FC, Prod.mk.injEq] <;> (refine ⟨?_, ?_, ?_⟩ <;> grind)
theorem Comp.meas {f g F : I3} (h : Comp f g F) : meas f = meas g ∧ meas F = meas g := by
  obtain ⟨⟨p0, p1, p2, p3⟩, ⟨q0, q1, q2, q3⟩, rfl, rfl, rfl⟩ := h
  constructor <;> simp only [FA, FB, FC, My.meas] <;> grind
def NT (p : I4) (t : I4) : I4 := (t.1 * p.1 + t.2.2.1 * p.2.2.1, t.1 * p.2.1 + t.2.2.1 * p.2.2.2, t.2.1 * p.1 + t.2.2.2 * p.2.2.1, t.2.1 * p.2.1 + t.2.2.2 * p.2.2.2)
theorem AkQ {p q t : I4} : FA (NT p t) (NT q t) = mov (FA p q) t := by
  obtain ⟨p0, p1, p2, p3⟩ := p; obtain ⟨q0, q1, q2, q3⟩ := q; obtain ⟨a, b, c, d⟩ := t
  simp only [FA, NT, mov, val, mid, Prod.mk.injEq]
  refine ⟨?_, ?_, ?_⟩ <;> grind
theorem Aj4 {p q t : I4} (h : det t = 1) : FB (NT p t) (NT q t) = FB p q := by
  obtain ⟨p0, p1, p2, p3⟩ := p; obtain ⟨q0, q1, q2, q3⟩ := q; obtain ⟨a, b, c, d⟩ := t
  have h : a * d - b * c = 1 := h
  have e : ∀ x : Int, x = (a * d - b * c) * x := fun x => by rw [h]; omega
  simp only [FB, NT, Prod.mk.injEq]
  refine ⟨?_, ?_, ?_⟩
  · rw [e (p0 * q2 - p2 * q0)]; grind
  · rw [e (p0 * q3 - p3 * q0 + p1 * q2 - p2 * q1)]; grind
  · rw [e (p1 * q3 - p3 * q1)]; grind
theorem Akf {p q t : I4} (h : det t = 1) : FC (NT p t) (NT q t) = FC p q := by
  obtain ⟨p0, p1, p2, p3⟩ := p; obtain ⟨q0, q1, q2, q3⟩ := q; obtain ⟨a, b, c, d⟩ := t
  have h : a * d - b * c = 1 := h
  have e : ∀ x : Int, x = (a * d - b * c) * x := fun x => by rw [h]; omega
  simp only [FC, NT, Prod.mk.injEq]
  refine ⟨?_, ?_, ?_⟩
  · rw [e (q1 * q2 - q0 * q3)]; grind
  · rw [e (p0 * q3 + p3 * q0 - p1 * q2 - p2 * q1)]; grind
  · rw [e (p1 * p2 - p0 * p3)]; grind
theorem Comp.movL {f g F : I3} {t : I4} (h : Comp f g F) (dt : det t = 1) : Comp (mov f t) g F := by
  obtain ⟨p, q, rfl, rfl, rfl⟩ := h
  exact ⟨NT p t, NT q t, AkQ, Aj4 dt, Akf dt⟩
theorem Comp.movR {f g F : I3} {t : I4} (h : Comp f g F) (dt : det t = 1) : Comp f (mov g t) F := (h.swap.movL dt).swap
def Le (p q t : I4) : I4 := (t.2.2.2 * p.1 - t.2.1 * q.1, t.2.2.2 * p.2.1 - t.2.1 * q.2.1, t.2.2.2 * p.2.2.1 - t.2.1 * q.2.2.1, t.2.2.2 * p.2.2.2 - t.2.1 * q.2.2.2)
def Ln (p q t : I4) : I4 := (t.1 * q.1 - t.2.2.1 * p.1, t.1 * q.2.1 - t.2.2.1 * p.2.1, t.1 * q.2.2.1 - t.2.2.1 * p.2.2.1, t.1 * q.2.2.2 - t.2.2.1 * p.2.2.2)
theorem AgW {p q t : I4} (h : det t = 1) : FA (Le p q t) (Ln p q t) = FA p q := by
  obtain ⟨p0, p1, p2, p3⟩ := p; obtain ⟨q0, q1, q2, q3⟩ := q; obtain ⟨a, b, c, d⟩ := t
  have h : a * d - b * c = 1 := h
  have e : ∀ x : Int, x = (a * d - b * c) * x := fun x => by rw [h]; omega
  simp only [FA, Le, Ln, Prod.mk.injEq]
  refine ⟨?_, ?_, ?_⟩
  · rw [e (p0 * q1 - p1 * q0)]; grind
  · rw [e (p0 * q3 - p3 * q0 + p2 * q1 - p1 * q2)]; grind
  · rw [e (p2 * q3 - p3 * q2)]; grind
theorem Aik {p q t : I4} (h : det t = 1) : FB (Le p q t) (Ln p q t) = FB p q := by
  obtain ⟨p0, p1, p2, p3⟩ := p; obtain ⟨q0, q1, q2, q3⟩ := q; obtain ⟨a, b, c, d⟩ := t
  have h : a * d - b * c = 1 := h
  have e : ∀ x : Int, x = (a * d - b * c) * x := fun x => by rw [h]; omega
  simp only [FB, Le, Ln, Prod.mk.injEq]
  refine ⟨?_, ?_, ?_⟩
  · rw [e (p0 * q2 - p2 * q0)]; grind
  · rw [e (p0 * q3 - p3 * q0 + p1 * q2 - p2 * q1)]; grind
  · rw [e (p1 * q3 - p3 * q1)]; grind
theorem Aeu {p q t : I4} : FC (Le p q t) (Ln p q t) = mov (FC p q) t := by
  obtain ⟨p0, p1, p2, p3⟩ := p; obtain ⟨q0, q1, q2, q3⟩ := q; obtain ⟨a, b, c, d⟩ := t
  simp only [FC, Le, Ln, mov, val, mid, Prod.mk.injEq]
  refine ⟨?_, ?_, ?_⟩ <;> grind
theorem Comp.movF {f g F : I3} {t : I4} (h : Comp f g F) (dt : det t = 1) : Comp f g (mov F t) := by
  obtain ⟨p, q, rfl, rfl, rfl⟩ := h
  exact ⟨Le p q t, Ln p q t, AgW dt, Aik dt, Aeu⟩
theorem bez : ∀ (n : Nat) (a b : Int), b.natAbs ≤ n → ∃ u v : Int, u * a + v * b = (Int.gcd a b : Int)
  | n, a, b, h => by
    by_cases hb : b = 0
    · subst hb
      rw [Int.gcd_zero_right]
      rcases Int.lt_or_le a 0 with z | z
      · exact ⟨-1, 0, by omega⟩
      · exact ⟨1, 0, by omega⟩
    · have l := HJ (a := a) hb
      match n, h with
      | 0, h => omega
      | n + 1, h =>
        obtain ⟨u, v, e⟩ := bez n b (a.fmod b) (by omega)
        rw [KY] at e
        refine ⟨v, u - v * a.fdiv b, ?_⟩
        rw [← e, Int.fmod_def]
        grind
theorem AdB {f : I3} (h : g3 f = 1) : ∃ i j k : Int, i * f.1 + j * f.2.1 + k * f.2.2 = 1 := by
  obtain ⟨u, v, e1⟩ := bez _ f.1 f.2.1 (Nat.le_refl _)
  obtain ⟨x, y, e2⟩ := bez _ ((Int.gcd f.1 f.2.1 : Nat) : Int) f.2.2 (Nat.le_refl _)
  have e3 : ((Int.gcd ((Int.gcd f.1 f.2.1 : Nat) : Int) f.2.2 : Nat) : Int) = 1 := by
    have : (g3 f : Int) = 1 := by rw [h]; rfl
    exact this
  rw [e3, ← e1] at e2
  exact ⟨x * u, x * v, y, by rw [← e2]; grind⟩
theorem Gd {pm pi pj qm qi qj rm ri rj sm si sj : Int} (h1 : pm * qi - pi * qm = rm * si - ri * sm) (h2 : pm * qj - pj * qm = rm * sj - rj * sm) (h3 : pi * qj - pj * qi = ri * sj - rj * si) :
    rm * (pi * qj - pj * qi) = pm * (ri * qj - rj * qi) + qm * (pi * rj - pj * ri) := by
  have a1 : rm * (pi * qj - pj * qi) = rm * (ri * sj - rj * si) := by rw [h3]
  have a2 : ri * (pm * qj - pj * qm) = ri * (rm * sj - rj * sm) := by rw [h2]
  have a3 : rj * (pm * qi - pi * qm) = rj * (rm * si - ri * sm) := by rw [h1]
  grind
theorem Gg {pm pi pj qm qi qj rm ri rj sm si sj : Int} (h1 : pm * qi - pi * qm = rm * si - ri * sm) (h2 : pm * qj - pj * qm = rm * sj - rj * sm) (h3 : pi * qj - pj * qi = ri * sj - rj * si) :
    sm * (pi * qj - pj * qi) = pm * (si * qj - sj * qi) + qm * (pi * sj - pj * si) := by
  have a1 : sm * (pi * qj - pj * qi) = sm * (ri * sj - rj * si) := by rw [h3]
  have a2 : si * (pm * qj - pj * qm) = si * (rm * sj - rj * sm) := by rw [h2]
  have a3 : sj * (pm * qi - pi * qm) = sj * (rm * si - ri * sm) := by rw [h1]
  grind
theorem IW {pm qm rm A B C D c1 c2 c3 c4 x1 x2 x3 x4 y1 y2 y3 y4 : Int} (e1 : rm * A = pm * x1 + qm * y1) (e2 : rm * B = pm * x2 + qm * y2) (e3 : rm * C = pm * x3 + qm * y3) (e4 : rm * D = pm * x4 + qm * y4) (h : c1 * A + c2 * B + c3 * C + c4 * D = 1) :
    rm = (c1 * x1 + c2 * x2 + c3 * x3 + c4 * x4) * pm + (c1 * y1 + c2 * y2 + c3 * y3 + c4 * y4) * qm := by
  have : rm = rm * (c1 * A + c2 * B + c3 * C + c4 * D) := by rw [h]; omega
  have e : rm * (c1 * A + c2 * B + c3 * C + c4 * D) = c1 * (rm * A) + c2 * (rm * B) + c3 * (rm * C) + c4 * (rm * D) := by grind
  rw [e, e1, e2, e3, e4] at this
  rw [this]
  grind
theorem Xm {p q r s : I4} (ha : FA p q = FA r s) (hb : FB p q = FB r s) (pl : g3 (FA p q) = 1) : ∃ t : I4, det t = 1 ∧ r = Le p q t ∧ s = Ln p q t := by
  obtain ⟨i, j, k, hijk⟩ := AdB pl
  obtain ⟨p0, p1, p2, p3⟩ := p
  obtain ⟨q0, q1, q2, q3⟩ := q
  obtain ⟨r0, r1, r2, r3⟩ := r
  obtain ⟨s0, s1, s2, s3⟩ := s
  simp only [FA, FB, Prod.mk.injEq] at ha hb hijk
  obtain ⟨m01, mA, m23⟩ := ha
  obtain ⟨m02, mB, m13⟩ := hb
  have m03 : p0 * q3 - p3 * q0 = r0 * s3 - r3 * s0 := by omega
  have m12 : p1 * q2 - p2 * q1 = r1 * s2 - r2 * s1 := by omega
  have h1 : i * (p0 * q1 - p1 * q0) + j * (p0 * q3 - p3 * q0) + (-j) * (p1 * q2 - p2 * q1) + k * (p2 * q3 - p3 * q2) = 1 := by rw [← hijk]; grind
  have z : ∀ {x y : Int}, x * y - x * y = 0 := fun {x y} => by omega
  have nn : ∀ {a b c d : Int}, a * b - c * d = 0 - (c * d - a * b) := fun {a b c d} => by omega
  have m10 : p1 * q0 - p0 * q1 = r1 * s0 - r0 * s1 := by omega
  have m20 : p2 * q0 - p0 * q2 = r2 * s0 - r0 * s2 := by omega
  have m30 : p3 * q0 - p0 * q3 = r3 * s0 - r0 * s3 := by omega
  have m21 : p2 * q1 - p1 * q2 = r2 * s1 - r1 * s2 := by omega
  have m31 : p3 * q1 - p1 * q3 = r3 * s1 - r1 * s3 := by omega
  have m32 : p3 * q2 - p2 * q3 = r3 * s2 - r2 * s3 := by omega
  have m00 : p0 * q0 - p0 * q0 = r0 * s0 - r0 * s0 := by omega
  have m11 : p1 * q1 - p1 * q1 = r1 * s1 - r1 * s1 := by omega
  have m22 : p2 * q2 - p2 * q2 = r2 * s2 - r2 * s2 := by omega
  have m33 : p3 * q3 - p3 * q3 = r3 * s3 - r3 * s3 := by omega
  have R0 := IW (Gd m00 m01 m01) (Gd m00 m03 m03) (Gd m01 m02 m12) (Gd m02 m03 m23) h1
  have R1 := IW (Gd m10 m11 m01) (Gd m10 m13 m03) (Gd m11 m12 m12) (Gd m12 m13 m23) h1
  have R2 := IW (Gd m20 m21 m01) (Gd m20 m23 m03) (Gd m21 m22 m12) (Gd m22 m23 m23) h1
  have R3 := IW (Gd m30 m31 m01) (Gd m30 m33 m03) (Gd m31 m32 m12) (Gd m32 m33 m23) h1
  have S0 := IW (Gg m00 m01 m01) (Gg m00 m03 m03) (Gg m01 m02 m12) (Gg m02 m03 m23) h1
  have S1 := IW (Gg m10 m11 m01) (Gg m10 m13 m03) (Gg m11 m12 m12) (Gg m12 m13 m23) h1
  have S2 := IW (Gg m20 m21 m01) (Gg m20 m23 m03) (Gg m21 m22 m12) (Gg m22 m23 m23) h1
  have S3 := IW (Gg m30 m31 m01) (Gg m30 m33 m03) (Gg m31 m32 m12) (Gg m32 m33 m23) h1
  obtain ⟨al, eal⟩ : ∃ x, x = i * (r0 * q1 - r1 * q0) + j * (r0 * q3 - r3 * q0) + -j * (r1 * q2 - r2 * q1) + k * (r2 * q3 - r3 * q2) := ⟨_, rfl⟩
  obtain ⟨be, ebe⟩ : ∃ x, x = i * (p0 * r1 - p1 * r0) + j * (p0 * r3 - p3 * r0) + -j * (p1 * r2 - p2 * r1) + k * (p2 * r3 - p3 * r2) := ⟨_, rfl⟩
  obtain ⟨ga, ega⟩ : ∃ x, x = i * (s0 * q1 - s1 * q0) + j * (s0 * q3 - s3 * q0) + -j * (s1 * q2 - s2 * q1) + k * (s2 * q3 - s3 * q2) := ⟨_, rfl⟩
  obtain ⟨de, ede⟩ : ∃ x, x = i * (p0 * s1 - p1 * s0) + j * (p0 * s3 - p3 * s0) + -j * (p1 * s2 - p2 * s1) + k * (p2 * s3 - p3 * s2) := ⟨_, rfl⟩
  rw [← eal, ← ebe] at R0 R1 R2 R3
  rw [← ega, ← ede] at S0 S1 S2 S3
  refine ⟨(de, -be, -ga, al), ?_, ?_, ?_⟩
  · show de * al - -be * -ga = 1
    have k1 : (de * al - -be * -ga) * (p0 * q1 - p1 * q0) = p0 * q1 - p1 * q0 := by rw [m01, R0, R1, S0, S1]; grind
    have k2 : (de * al - -be * -ga) * (p0 * q3 - p3 * q0) = p0 * q3 - p3 * q0 := by rw [m03, R0, R3, S0, S3]; grind
    have k3 : (de * al - -be * -ga) * (p1 * q2 - p2 * q1) = p1 * q2 - p2 * q1 := by rw [m12, R1, R2, S1, S2]; grind
    have k4 : (de * al - -be * -ga) * (p2 * q3 - p3 * q2) = p2 * q3 - p3 * q2 := by rw [m23, R2, R3, S2, S3]; grind
    generalize de * al - -be * -ga = D at *
    have : D = D * (i * (p0 * q1 - p1 * q0) + j * (p0 * q3 - p3 * q0) + -j * (p1 * q2 - p2 * q1) + k * (p2 * q3 - p3 * q2)) := by rw [h1]; omega
    have e : D * (i * (p0 * q1 - p1 * q0) + j * (p0 * q3 - p3 * q0) + -j * (p1 * q2 - p2 * q1) + k * (p2 * q3 - p3 * q2)) = i * (D * (p0 * q1 - p1 * q0)) + j * (D * (p0 * q3 - p3 * q0)) + -j * (D * (p1 * q2 - p2 * q1)) + k * (D * (p2 * q3 - p3 * q2)) := by grind
    rw [e, k1, k2, k3, k4, h1] at this
    exact this
  · simp only [Le, Prod.mk.injEq]
    refine ⟨?_, ?_, ?_, ?_⟩
    · rw [R0]; grind
    · rw [R1]; grind
    · rw [R2]; grind
    · rw [R3]; grind
  · simp only [Ln, Prod.mk.injEq]
    refine ⟨?_, ?_, ?_, ?_⟩
    · rw [S0]; grind
    · rw [S1]; grind
    · rw [S2]; grind
    · rw [S3]; grind
theorem Comp.same {f g F G : I3} (A : Comp f g F) (B : Comp f g G) (pl : g3 f = 1) : ∃ t, det t = 1 ∧ mov F t = G := by
  obtain ⟨p, q, a1, a2, a3⟩ := A
  obtain ⟨r, s, b1, b2, b3⟩ := B
  obtain ⟨t, dt, er, es⟩ := Xm (p := p) (q := q) (r := r) (s := s) (a1.trans b1.symm) (a2.trans b2.symm) (by rw [a1]; exact pl)
  refine ⟨t, dt, ?_⟩
  rw [← b3, er, es, Aeu, a3]
theorem Mp {a b d e : Int} : Comp (a, b, d * e) (d, b, a * e) (a * d, b, e) := by
  refine ⟨(1, 0, 0, -e), (0, a, d, b), ?_, ?_, ?_⟩ <;> simp only [FA, FB, FC, Prod.mk.injEq] <;> (refine ⟨?_, ?_, ?_⟩ <;> grind)
end My
namespace My
open PySem L2
def jS (f h : I3) : Int := (f.2.1 + h.2.1).fdiv 2
def jA (f h : I3) (g : Int) : Int := (f.1 * h.1).fdiv (g * g)
def jB (f h : I3) (g j k : Int) : Int := (h.2.1 + 2 * h.1.fdiv g * (j * (jS f h - h.2.1) - k * h.2.2)).fmod (2 * jA f h g)
def jF (f h : I3) (g j k : Int) : I3 := (jA f h g, jB f h g j k, (jB f h g j k * jB f h g j k - meas f).fdiv (4 * jA f h g))
def jP (f h : I3) (g B : Int) : I4 := (g, (g * (h.2.1 - B)).fdiv (2 * h.1), (g * (f.2.1 - B)).fdiv (2 * f.1), (g * (f.2.1 * h.2.1 + meas f - 2 * B * jS f h)).fdiv (4 * f.1 * h.1))
def jQ (f h : I3) (g : Int) : I4 := (0, f.1.fdiv g, h.1.fdiv g, (jS f h).fdiv g)
theorem Qw {f h : I3} (hm : meas f = meas h) : f.2.1 + h.2.1 = 2 * jS f h := by
  have hm : f.2.1 * f.2.1 - 4 * f.1 * f.2.2 = h.2.1 * h.2.1 - 4 * h.1 * h.2.2 := hm
  have e : (f.2.1 + h.2.1) % 2 = 0 := by
    have e1 : f.2.1 * f.2.1 - h.2.1 * h.2.1 = 4 * (f.1 * f.2.2 - h.1 * h.2.2) := by grind
    have e2 : (f.2.1 + h.2.1) * (f.2.1 - h.2.1) = 4 * (f.1 * f.2.2 - h.1 * h.2.2) := by rw [← e1]; grind
    rcases (show (f.2.1 + h.2.1) % 2 = 0 ∨ (f.2.1 + h.2.1) % 2 = 1 by omega) with z | z
    · exact z
    · obtain ⟨x, hx⟩ : ∃ x, f.2.1 + h.2.1 = 2 * x + 1 := ⟨(f.2.1 + h.2.1) / 2, by omega⟩
      obtain ⟨y, hy⟩ : ∃ y, f.2.1 - h.2.1 = 2 * y + 1 := ⟨(f.2.1 - h.2.1) / 2, by omega⟩
      rw [hx, hy] at e2
      have : (2 * x + 1) * (2 * y + 1) = 2 * (2 * (x * y) + x + y) + 1 := by grind
      omega
  unfold jS
  rw [Int.fdiv_eq_ediv_of_nonneg _ (by decide)]
  omega
theorem Zt {f h : I3} {g i j k : Int} (ha : f.1 ≠ 0) (hd : h.1 ≠ 0) (hm : meas f = meas h) (g0 : g ≠ 0) (ga : g ∣ f.1) (gd : g ∣ h.1) (gs : g ∣ jS f h) (hB : i * f.1 + j * h.1 + k * jS f h = g) :
    FA (jP f h g (jB f h g j k)) (jQ f h g) = f ∧ FB (jP f h g (jB f h g j k)) (jQ f h g) = h ∧ FC (jP f h g (jB f h g j k)) (jQ f h g) = jF f h g j k := by
  have hs := Qw hm
  obtain ⟨a, b, c⟩ := f
  obtain ⟨d, e, c'⟩ := h
  obtain ⟨s, es⟩ : ∃ s, jS (a, b, c) (d, e, c') = s := ⟨_, rfl⟩
  have hm' : b * b - 4 * a * c = e * e - 4 * d * c' := hm
  unfold jF jP jQ
  have eA : jA (a, b, c) (d, e, c') g = jA (a, b, c) (d, e, c') g := rfl
  rw [es] at hs gs hB
  unfold jB jA
  rw [es]
  simp only at *
  obtain ⟨a1, rfl⟩ := ga
  obtain ⟨d1, rfl⟩ := gd
  obtain ⟨s1, rfl⟩ := gs
  have fa : (g * a1).fdiv g = a1 := Int.mul_fdiv_cancel_left _ g0
  have fd : (g * d1).fdiv g = d1 := Int.mul_fdiv_cancel_left _ g0
  have fs : (g * s1).fdiv g = s1 := Int.mul_fdiv_cancel_left _ g0
  have fA : (g * a1 * (g * d1)).fdiv (g * g) = a1 * d1 := by
    have : g * a1 * (g * d1) = g * g * (a1 * d1) := by grind
    rw [this]
    exact Int.mul_fdiv_cancel_left _ (Int.mul_ne_zero g0 g0)
  rw [fa, fd, fs, fA]
  have a0 : a1 ≠ 0 := fun z => ha (by rw [z]; simp)
  have d0 : d1 ≠ 0 := fun z => hd (by rw [z]; simp)
  have one : i * a1 + j * d1 + k * s1 = 1 := by
    have : g * (i * a1 + j * d1 + k * s1) = g * 1 := by rw [← hB]; grind
    exact Int.eq_of_mul_eq_mul_left g0 this
  have eb : b = 2 * (g * s1) - e := by omega
  have key : s1 * (g * s1 - e) = a1 * c - d1 * c' := by
    refine Int.eq_of_mul_eq_mul_left (a := 4 * g) (by omega) ?_
    have : b * b - e * e = 4 * (g * a1) * c - 4 * (g * d1) * c' := by omega
    rw [eb] at this
    grind
  obtain ⟨u, eu⟩ : ∃ u, u = j * (g * s1 - e) - k * c' := ⟨_, rfl⟩
  obtain ⟨v, ev⟩ : ∃ v, v = -(i * (g * s1 - e)) - k * c := ⟨_, rfl⟩
  rw [← eu]
  have uv : u * d1 - v * a1 = g * s1 - e := by
    have : u * d1 - v * a1 = (g * s1 - e) * (i * a1 + j * d1 + k * s1) - k * (s1 * (g * s1 - e) - (a1 * c - d1 * c')) := by rw [eu, ev]; grind
    rw [this, one, key]; omega
  have k1 : (i * c' + j * c) * d1 - v * s1 = c := by
    have : (i * c' + j * c) * d1 - v * s1 = c * (i * a1 + j * d1 + k * s1) + i * (s1 * (g * s1 - e) - (a1 * c - d1 * c')) := by rw [ev]; grind
    rw [this, one, key]; omega
  have k2 : (i * c' + j * c) * a1 - u * s1 = c' := by
    have : (i * c' + j * c) * a1 - u * s1 = c' * (i * a1 + j * d1 + k * s1) - j * (s1 * (g * s1 - e) - (a1 * c - d1 * c')) := by rw [eu]; grind
    rw [this, one, key]; omega
  obtain ⟨M, eM⟩ : ∃ M, (e + 2 * d1 * u).fmod (2 * (a1 * d1)) = e + 2 * d1 * u - 2 * (a1 * d1) * M := ⟨(e + 2 * d1 * u).fdiv (2 * (a1 * d1)), by rw [Int.fmod_def]⟩
  rw [eM]
  have A0 : a1 * d1 ≠ 0 := Int.mul_ne_zero a0 d0
  have q1 : (g * (e - (e + 2 * d1 * u - 2 * (a1 * d1) * M))).fdiv (2 * (g * d1)) = a1 * M - u := by
    have : g * (e - (e + 2 * d1 * u - 2 * (a1 * d1) * M)) = 2 * (g * d1) * (a1 * M - u) := by grind
    rw [this]
    exact Int.mul_fdiv_cancel_left _ (by have := Int.mul_ne_zero g0 d0; omega)
  have q2 : (g * (b - (e + 2 * d1 * u - 2 * (a1 * d1) * M))).fdiv (2 * (g * a1)) = d1 * M - v := by
    have : g * (b - (e + 2 * d1 * u - 2 * (a1 * d1) * M)) = 2 * (g * a1) * (d1 * M - v) := by
      have : g * (b - (e + 2 * d1 * u - 2 * (a1 * d1) * M)) = 2 * (g * a1) * (d1 * M - v) + 2 * g * ((g * s1 - e) - (u * d1 - v * a1)) := by rw [eb]; grind
      rw [this, uv]; omega
    rw [this]
    exact Int.mul_fdiv_cancel_left _ (by have := Int.mul_ne_zero g0 a0; omega)
  have q3 : (g * (b * e + meas (g * a1, b, c) - 2 * (e + 2 * d1 * u - 2 * (a1 * d1) * M) * (g * s1))).fdiv (4 * (g * a1) * (g * d1)) = s1 * M - (i * c' + j * c) := by
    have e1 : meas (g * a1, b, c) = e * e - 4 * (g * d1) * c' := hm
    have : g * (b * e + meas (g * a1, b, c) - 2 * (e + 2 * d1 * u - 2 * (a1 * d1) * M) * (g * s1)) = 4 * (g * a1) * (g * d1) * (s1 * M - (i * c' + j * c)) := by
      rw [e1]
      have : g * (b * e + (e * e - 4 * (g * d1) * c') - 2 * (e + 2 * d1 * u - 2 * (a1 * d1) * M) * (g * s1)) = 4 * (g * a1) * (g * d1) * (s1 * M - (i * c' + j * c)) + 4 * (g * g * d1) * (((i * c' + j * c) * a1 - u * s1) - c') := by rw [eb]; grind
      rw [this, k2]; omega
    rw [this]
    refine Int.mul_fdiv_cancel_left _ ?_
    have := Int.mul_ne_zero (Int.mul_ne_zero g0 a0) (Int.mul_ne_zero g0 d0)
    have : 4 * (g * a1) * (g * d1) = 4 * (g * a1 * (g * d1)) := by grind
    omega
  rw [q1, q2, q3]
  have eB : e + 2 * d1 * u - 2 * (a1 * d1) * M = g * s1 - (a1 * M - u) * d1 - (d1 * M - v) * a1 := by
    have : e + 2 * d1 * u - 2 * (a1 * d1) * M = g * s1 - (a1 * M - u) * d1 - (d1 * M - v) * a1 + ((u * d1 - v * a1) - (g * s1 - e)) := by grind
    rw [this, uv]; omega
  have hA : FA (g, a1 * M - u, d1 * M - v, s1 * M - (i * c' + j * c)) (0, a1, d1, s1) = (g * a1, b, c) := by
    simp only [FA, Prod.mk.injEq]
    refine ⟨by omega, ?_, ?_⟩
    · rw [eb]
      have : g * s1 - (s1 * M - (i * c' + j * c)) * 0 + (d1 * M - v) * a1 - (a1 * M - u) * d1 = g * s1 + (u * d1 - v * a1) := by grind
      rw [this, uv]; omega
    · have : (d1 * M - v) * s1 - (s1 * M - (i * c' + j * c)) * d1 = (i * c' + j * c) * d1 - v * s1 := by grind
      rw [this, k1]
  have hBf : FB (g, a1 * M - u, d1 * M - v, s1 * M - (i * c' + j * c)) (0, a1, d1, s1) = (g * d1, e, c') := by
    simp only [FB, Prod.mk.injEq]
    refine ⟨by omega, ?_, ?_⟩
    · have : g * s1 - (s1 * M - (i * c' + j * c)) * 0 + (a1 * M - u) * d1 - (d1 * M - v) * a1 = g * s1 - (u * d1 - v * a1) := by grind
      rw [this, uv]; omega
    · have : (a1 * M - u) * s1 - (s1 * M - (i * c' + j * c)) * a1 = (i * c' + j * c) * a1 - u * s1 := by grind
      rw [this, k2]
  refine ⟨hA, hBf, ?_⟩
  have hC := (Comp.meas ⟨_, _, hA, hBf, rfl⟩).2
  have e1 : (FC (g, a1 * M - u, d1 * M - v, s1 * M - (i * c' + j * c)) (0, a1, d1, s1)).1 = a1 * d1 := by simp only [FC]; omega
  have e2 : (FC (g, a1 * M - u, d1 * M - v, s1 * M - (i * c' + j * c)) (0, a1, d1, s1)).2.1 = e + 2 * d1 * u - 2 * (a1 * d1) * M := by rw [eB]; simp only [FC]; omega
  refine Ad5 e1 e2 ?_
  generalize FC (g, a1 * M - u, d1 * M - v, s1 * M - (i * c' + j * c)) (0, a1, d1, s1) = Z at *
  obtain ⟨z1, z2, z3⟩ := Z
  have e1 : z1 = a1 * d1 := e1
  have e2 : z2 = e + 2 * d1 * u - 2 * (a1 * d1) * M := e2
  have hC : z2 * z2 - 4 * z1 * z3 = meas (g * d1, e, c') := hC
  show z3 = _
  rw [← e2, ← e1]
  have : z2 * z2 - meas (g * a1, b, c) = 4 * z1 * z3 := by rw [hm]; omega
  rw [this]
  exact (Int.mul_fdiv_cancel_left _ (by rw [e1]; omega)).symm
end My
namespace My
open PySem L2
theorem Xl {a b c : Int} : Comp (1, b, a * c) (a, b, c) (a, b, c) := by
  have := Mp (a := 1) (b := b) (d := a) (e := c)
  rw [Int.one_mul, Int.one_mul] at this
  exact this
theorem YJ {a b c : Int} : Comp (a, b, c) (c, b, a) (a * c, b, 1) := by
  have := Mp (a := a) (b := b) (d := c) (e := 1)
  rw [Int.mul_one, Int.mul_one] at this
  exact this
end My
namespace My
open PySem L2
local macro_rules | `(tactic| walk_at "sc") => `(tactic| (exact ⟨rfl, rfl, rfl, by decide +kernel, rfl, by decide +kernel, by decide +kernel⟩))
local macro_rules | `(tactic| walk_at "lE") => `(tactic| (exact fun ds Q ⟨p, e, _⟩ => by rw [e]; rfl))
local macro_rules | `(tactic| walk_at "b1") => `(tactic| (intro _ _ _ _ _ _ us hl; exact match us, hl with | [_], _ => rfl))
local macro_rules | `(tactic| walk_at "b2") => `(tactic| (intro _ _ _ _ _ _ us hl; exact match us, hl with | [_, _], _ => rfl))
local macro_rules | `(tactic| walk_at "b3") => `(tactic| (intro _ _ _ _ _ _ us hl; exact match us, hl with | [_, _, _], _ => rfl))
local macro_rules | `(tactic| walk_at "b4") => `(tactic| (intro _ _ _ _ _ _ us hl; exact match us, hl with | [_, _, _, _], _ => rfl))
local macro_rules | `(tactic| walk_at "rd1") => `(tactic| dsimp only [AiB, Afy, AgH, Adb, dIf, ZS, Acu, AeV, Ur, Wm, Wq, Wg, VL, Ru, Ada, AcL, Ah0, dIn, dOp, dUn, Aa8, dC, dIx, AkR, Ak2, Akj, Aj8, Ai7, Ak3, Akt, AiX, AhK, Ahg, AgV, AfQ, Aiz, Ahw, Ago, Akp, dI, dI0, dB0, dLt, dLe, dGt, dGe, dEq, dNe, dIs, Afo, AgX, dOr, AbN, PN, Adh, AcB, AhH, Ajh, Abr, AcC, dTup, AiA, dCall, dCB, Yx, ZF, Z2, Ai3, Ait, AfA, ZL, AbH, Ac7, Od, WD, Kf, inner, AcS, Acq, ZV, Adz, Aeh, AcJ, dOf, AhC, AaH, Af9, AdI, AeW, Adu, AfI, Ai1, AeK, AfC, AhM, Aet, Aej, AjO, YD, Aku, Agl, AjC, AfB, Ahv, Ae7, Ak5, Ahc, AcI, Afl, Aih, ownAt, AfW, Ady, Adw, AdP, AdQ, Ae4, Yy, N8, Acz, Aka, Y9, V9, Acp,
  List.length_cons, List.length_nil, List.getElem?_cons_zero, List.getElem?_cons_succ, List.set_cons_zero, List.set_cons_succ, Nat.reduceAdd, List.map_cons, List.map_nil, Option.join_some])
local macro_rules | `(tactic| walk_at "rd2") => `(tactic| simp only [AfL, AgD, AfN, Aht, Adl, Afi, AgN, Ahd, Ahb, Ahe, Af8, AiR, AkF, Aji, Ajw, AiQ, Ai8, Aem, Aes, Adv, AeS, AdR, Aev, AdX, Ad2, AdZ, AeN, Ti, Afc, Ue, Agm, AfV, Ahs, Ahm, ZK, AhW, Zc, Z1, AdT, Ae3, NZ, Ad0, Adp, V8, Abs, Abt, Aa1, AaN, Wc, Wk, if_true, if_false, Bool.and_true, Bool.true_and, Bool.false_and, Bool.and_false, Bool.not_true, Bool.not_false, Bool.false_eq_true, true_and, and_true, ite_true, ite_false, List.length_map])
local macro_rules | `(tactic| walk_at "rd") => `(tactic| ((try walk_at "rd1"); (try walk_at "rd2")))
local macro_rules | `(tactic| walk_at "go") => `(tactic| ((try simp only [Nm, Oa, Nx]); walk_at "rd"))
local macro_rules | `(tactic| walk_at "bts") => `(tactic| first | assumption | (with_reducible apply Bt.mul <;> walk_at "bts") | (with_reducible apply Bt.add <;> walk_at "bts") | (with_reducible apply Bt.sub <;> walk_at "bts") | (with_reducible apply Bt.neg <;> walk_at "bts") | exact Bt.of_abs (n := 1) (by decide) | exact Bt.of_abs (n := 8) (by decide) | exact Bt.of_abs (n := 400) (by decide))
local macro_rules | `(tactic| walk_at "bt") => `(tactic| exact Bt.le (by walk_at "bts") (by decide))
local macro_rules | `(tactic| walk_at "mul") => `(tactic| exact Bt.mulOk (by walk_at "bts") (by walk_at "bts") (by decide) (by decide))
local macro_rules | `(tactic| walk_at "muls") => `(tactic| repeat (refine ⟨by first | walk_at "mul" | exact Av (by decide) | decide | exact ⟨by decide, by decide⟩, ?_⟩))
def top (i : Nat) : Stmt := PySem.Challenge.pw_formcycle_k44_unit_and_opposite.main.body.getD i (.Pass ⟨0, 0, 0, 0⟩)
abbrev Hr : Stmt := top 11
theorem HN : Am ["one", "other", "rest"] ["one", "other"] (Ai Hr) := by walk_at "sc"
abbrev Je : Stmt := top 12
theorem Gn : Am ["one", "other", "row", "lower", "rest"] ["one", "other"] (Ai Je) := by walk_at "sc"
abbrev GK : Stmt := top 13
theorem Tp : Am ["row", "lower", "often"] ["row", "lower", "often"] (Ai GK) := by walk_at "sc"
abbrev JV : Stmt := top 14
theorem Ko : Am ["number", "guess", "better"] ["number"] (Ai JV) := by walk_at "sc"
abbrev Ej : Stmt := top 15
theorem KR : Am ["number", "side"] ["number"] (Ai Ej) := by walk_at "sc"
abbrev Cm : Stmt := top 16
theorem Li : Am ["number", "most"] ["number", "most"] (Ai Cm) := by walk_at "sc"
abbrev Hl : Stmt := top 19
theorem Vd : Am ["turn"] ["turn"] (Ai Hl) := by walk_at "sc"
abbrev CT : Stmt := top 20
theorem Pg : Am ["turn"] ["turn"] (Ai CT) := by walk_at "sc"
abbrev Tq : Stmt := top 21
theorem Ad7 : Am ["turn", "point"] ["turn", "point"] (Ai Tq) := by walk_at "sc"
abbrev Dy : Stmt := top 22
theorem Pn : Am ["one", "other"] ["one", "other"] (Ai Dy) := by walk_at "sc"
abbrev Oq : Stmt := top 23
theorem Ab4 : Am ["turn"] ["turn"] (Ai Oq) := by walk_at "sc"
abbrev CK : Stmt := top 25
theorem U8 : Am ["form"] ["form"] (Ai CK) := by walk_at "sc"
abbrev KJ : Stmt := top 26
theorem NQ : Am ["form", "point", "x", "y"] ["form", "point"] (Ai KJ) := by walk_at "sc"
abbrev Hq : Stmt := top 27
theorem Vh : Am ["form"] ["form"] (Ai Hq) := by walk_at "sc"
abbrev Jh : Stmt := top 28
theorem M6 : Am ["form", "turn", "left", "right"] ["form", "turn"] (Ai Jh) := by walk_at "sc"
abbrev Ip : Stmt := top 29
theorem Qn : Am ["form", "left", "right", "crossed"] ["form", "left", "right"] (Ai Ip) := by walk_at "sc"
abbrev HB : Stmt := top 30
theorem Td : Am ["form", "number"] ["form"] (Ai HB) := by walk_at "sc"
abbrev Eo : Stmt := top 32
theorem Pj : Am ["form"] ["form"] (Ai Eo) := by walk_at "sc"
abbrev Dw : Stmt := top 33
theorem Ea : Am ["form", "a", "b", "c"] ["form"] (Ai Dw) := by walk_at "sc"
abbrev Hv : Stmt := top 34
theorem Gq : Am ["form", "turn", "lowering"] ["form"] (Ai Hv) := by walk_at "sc"
abbrev Ew : Stmt := top 35
theorem Jy : Am ["form", "often"] ["form"] (Ai Ew) := by walk_at "sc"
abbrev CG : Stmt := top 38
theorem Mz : Am ["form"] ["form"] (Ai CG) := by walk_at "sc"
abbrev Dm : Stmt := top 39
theorem Ih : Am ["form", "far", "b"] ["form", "far"] (Ai Dm) := by walk_at "sc"
abbrev DR : Stmt := top 40
theorem El : Am ["form", "top", "b", "c", "d"] ["form", "top"] (Ai DR) := by walk_at "sc"
abbrev Dd : Stmt := top 41
theorem Iw : Am ["stop", "top", "turn"] ["stop", "top"] (Ai Dd) := by walk_at "sc"
abbrev KQ : Stmt := top 42
theorem Ky : Am ["form", "far", "stop"] ["form"] (Ai KQ) := by walk_at "sc"
abbrev DX : Stmt := top 43
theorem CJ : Am ["form", "far", "first", "stops", "stop"] ["form"] (Ai DX) := by walk_at "sc"
abbrev Hy : Stmt := top 44
theorem Us : Am ["form"] ["form"] (Ai Hy) := by walk_at "sc"
abbrev Ec : Stmt := top 49
theorem S5 : Am ["form"] ["form"] (Ai Ec) := by walk_at "sc"
abbrev GD : Stmt := top 50
theorem Ud : Am ["form"] ["form"] (Ai GD) := by walk_at "sc"
abbrev Ht : Stmt := top 52
theorem HW : Am ["one", "other", "common", "form", "lowest"] ["one", "other"] (Ai Ht) := by walk_at "sc"
abbrev Ep : Stmt := top 53
theorem G7 : Am ["one", "other", "first", "second"] ["one", "other"] (Ai Ep) := by walk_at "sc"
abbrev DK : Stmt := top 54
theorem O5 : Am ["form"] ["form"] (Ai DK) := by walk_at "sc"
abbrev BL : Stmt := top 55
theorem J1 : Am ["one", "other"] ["one", "other"] (Ai BL) := by walk_at "sc"
abbrev CZ : Stmt := top 56
theorem Fl : Am ["one", "other", "firsts", "whole"] ["one", "other"] (Ai CZ) := by walk_at "sc"
abbrev Fi : Stmt := top 57
theorem Cu : Am ["one", "other", "common", "g", "d", "e", "first", "more", "middle"] ["one", "other", "common"] (Ai Fi) := by walk_at "sc"
abbrev Fg : Stmt := top 58
theorem Cg : Am ["one", "other", "g", "middle", "a", "b", "d", "e", "s", "last", "upper"] ["one", "other", "g", "middle"] (Ai Fg) := by walk_at "sc"
abbrev Du : Stmt := top 59
theorem Mr : Am ["turn", "rows", "pairs"] ["turn", "rows"] (Ai Du) := by walk_at "sc"
abbrev Dc : Stmt := top 61
theorem K4 : Am ["number"] ["number"] (Ai Dc) := by walk_at "sc"
abbrev Nk : Stmt := top 62
theorem V6 : Am ["number", "middle"] ["number"] (Ai Nk) := by walk_at "sc"
abbrev Ei : Stmt := top 64
theorem Q8 : Am ["_law_script", "_law_k"] ["_law_script", "_law_k"] (Ai Ei) := by walk_at "sc"
abbrev Fb : Stmt := top 65
theorem PL : Am ["_law_found"] ["_law_found"] (Ai Fb) := by walk_at "sc"
abbrev Df : Stmt := top 66
theorem Nf : Am ["_law_found", "_law_many"] ["_law_found", "_law_many"] (Ai Df) := by walk_at "sc"
abbrev Dr : Stmt := top 67
theorem T5 : Am ["_law_form"] ["_law_form"] (Ai Dr) := by walk_at "sc"
abbrev Ef : Stmt := top 68
theorem Hz : Am ["_law_number", "_law_near"] ["_law_number"] (Ai Ef) := by walk_at "sc"
abbrev FW : Stmt := top 69
theorem HD : Am ["_law_form", "_law_bar_here", "_law_far"] ["_law_form"] (Ai FW) := by walk_at "sc"
abbrev Et : Stmt := top 70
theorem Qe : Am ["_law_form", "_law_far"] ["_law_form", "_law_far"] (Ai Et) := by walk_at "sc"
abbrev DQ : Stmt := top 71
theorem Dv : Am ["_law_form", "_law_top", "_law_a", "_law_b", "_law_c", "_law_d"] ["_law_form", "_law_top"] (Ai DQ) := by walk_at "sc"
abbrev FQ : Stmt := top 72
theorem CN : Am ["_law_form", "_law_a", "_law_b", "_law_c", "_law_k"] ["_law_form"] (Ai FQ) := by walk_at "sc"
abbrev Em : Stmt := top 73
theorem Cv : Am ["_law_form", "_law_far", "_law_least_here", "_law_now"] ["_law_form"] (Ai Em) := by walk_at "sc"
abbrev Fy : Stmt := top 74
theorem Kw : Am ["_law_one", "_law_other"] ["_law_one", "_law_other"] (Ai Fy) := by walk_at "sc"
abbrev Fx : Stmt := top 75
theorem BR : Am ["_law_first", "_law_cells", "_law_p", "_law_q", "_law_r", "_law_s", "_law_cell_here", "_law_k"] ["_law_first", "_law_cells"] (Ai Fx) := by walk_at "sc"
abbrev EY : Stmt := top 76
theorem Pr : Am ["_law_form", "_law_x", "_law_y"] ["_law_form", "_law_x", "_law_y"] (Ai EY) := by walk_at "sc"
abbrev Fd : Stmt := top 77
theorem Di : Am ["_law_form", "_law_turn_here", "_law_p", "_law_q", "_law_r", "_law_s", "_law_middle"] ["_law_form", "_law_turn_here"] (Ai Fd) := by walk_at "sc"
abbrev Gw : Stmt := top 78
theorem GZ : Am ["_law_script", "_law_sort", "_law_both", "_law_size", "_law_b", "_law_rest_here", "_law_bar_here"] ["_law_script", "_law_sort", "_law_both", "_law_size"] (Ai Gw) := by walk_at "sc"
abbrev Dg : Stmt := top 79
theorem Ay : Am ["_law_script", "_law_many", "_law_sort", "_law_size", "_law_pieces", "_law_both", "_law_piece", "_law_b", "_law_last", "_law_total", "_law_forms", "_law_k"] ["_law_script", "_law_many"] (Ai Dg) := by walk_at "sc"
abbrev Mh : Stmt := top 80
theorem J2 : Am ["_law_script", "_law_form", "_law_bar_here", "_law_odd", "_law_first", "_law_far", "_law_least_here"] ["_law_script"] (Ai Mh) := by walk_at "sc"
abbrev Hh : Stmt := inClass (top 46) 0
theorem XD : Am ["self", "form", "lowest"] ["self", "form", "lowest"] (Ai Hh) := by walk_at "sc"
abbrev Jq : Stmt := inClass (top 47) 0
theorem YX : Am ["self", "form"] ["self", "form"] (Ai Jq) := by walk_at "sc"
abbrev Gm : Stmt := inClass (top 48) 0
theorem Vt : Am ["self", "form"] ["self", "form"] (Ai Gm) := by walk_at "sc"
abbrev Ho : Stmt := inClass (top 46) 1
theorem Xf : Am ["self"] ["self"] (Ai Ho) := by walk_at "sc"
structure Txt (K : PySem.W.Frag) (mg : Str → Option Value) : Prop where
  o_Bowl : ∃ C f fd, MkC K mg "Bowl" ["form", "measure", "lowest"] C f ∧ Fun K "__init__" "Bowl.__init__" Jq f fd ∧ Binds K fd ["self", "form"] []
  ic_Bowl : IsC K "Bowl"
  na_Bowl_form : PB K "Bowl" "form"
  na_Bowl_measure : PB K "Bowl" "measure"
  na_Bowl_lowest : PB K "Bowl" "lowest"
  o_Saddle : ∃ C f fd, MkC K mg "Saddle" ["form", "measure", "lowest"] C f ∧ Fun K "__init__" "Saddle.__init__" Gm f fd ∧ Binds K fd ["self", "form"] []
  ic_Saddle : IsC K "Saddle"
  na_Saddle_form : PB K "Saddle" "form"
  na_Saddle_measure : PB K "Saddle" "measure"
  na_Saddle_lowest : PB K "Saddle" "lowest"
  cm_Shape : ∃ g fd, VR K mg "Shape" "__init__" g ∧ Fun K "__init__" "Shape.__init__" Hh g fd ∧ Binds K fd ["self", "form", "lowest"] []
  me_least : ∃ g fd, (∀ c ∈ (["Bowl", "Saddle"] : List Str), V4 K c "least" g) ∧ PySem.W.keepIn K (.ref g) = true ∧ Fun K "least" "Shape.least" Ho g fd ∧ Binds K fd ["self"] []
  t_divisor : ∃ f fd, FnT K mg "divisor" Hr ["one", "other"] f fd
  t_shares : ∃ f fd, FnT K mg "shares" Je ["one", "other"] f fd
  t_row_less : ∃ f fd, FnT K mg "row_less" GK ["row", "lower", "often"] f fd
  t_root : ∃ f fd, FnT K mg "root" JV ["number"] f fd
  t_is_square : ∃ f fd, FnT K mg "is_square" Ej ["number"] f fd
  t_check_at_most : ∃ f fd, FnT K mg "check_at_most" Cm ["number", "most"] f fd
  t_is_turn : ∃ f fd, FnT K mg "is_turn" Hl ["turn"] f fd
  t_check_turn : ∃ f fd, FnT K mg "check_turn" CT ["turn"] f fd
  t_led : ∃ f fd, FnT K mg "led" Tq ["turn", "point"] f fd
  t_put_behind : ∃ f fd, FnT K mg "put_behind" Dy ["one", "other"] f fd
  t_back : ∃ f fd, FnT K mg "back" Oq ["turn"] f fd
  t_measure : ∃ f fd, FnT K mg "measure" CK ["form"] f fd
  t_value : ∃ f fd, FnT K mg "value" KJ ["form", "point"] f fd
  t_content : ∃ f fd, FnT K mg "content" Hq ["form"] f fd
  t_moved : ∃ f fd, FnT K mg "moved" Jh ["form", "turn"] f fd
  t_middle : ∃ f fd, FnT K mg "middle" Ip ["form", "left", "right"] f fd
  t_shape : ∃ f fd, FnT K mg "shape" HB ["form"] f fd
  t_check_bowl : ∃ f fd, FnT K mg "check_bowl" Eo ["form"] f fd
  t_stands_least : ∃ f fd, FnT K mg "stands_least" Dw ["form"] f fd
  t_settled : ∃ f fd, FnT K mg "settled" Hv ["form"] f fd
  t_turn_lower : ∃ f fd, FnT K mg "turn_lower" Ew ["form"] f fd
  t_check_saddle : ∃ f fd, FnT K mg "check_saddle" CG ["form"] f fd
  t_stands_level : ∃ f fd, FnT K mg "stands_level" Dm ["form", "far"] f fd
  t_turn_behind : ∃ f fd, FnT K mg "turn_behind" DR ["form", "top"] f fd
  t_stop_behind : ∃ f fd, FnT K mg "stop_behind" Dd ["stop", "top"] f fd
  t_eased : ∃ f fd, FnT K mg "eased" KQ ["form"] f fd
  t_stops_round : ∃ f fd, FnT K mg "stops_round" DX ["form"] f fd
  t_lowered : ∃ f fd, FnT K mg "lowered" Hy ["form"] f fd
  t_shape_of : ∃ f fd, FnT K mg "shape_of" Ec ["form"] f fd
  t_least_of : ∃ f fd, FnT K mg "least_of" GD ["form"] f fd
  t_product : ∃ f fd, FnT K mg "product" Ht ["one", "other"] f fd
  t_check_pair : ∃ f fd, FnT K mg "check_pair" Ep ["one", "other"] f fd
  t_check_plain : ∃ f fd, FnT K mg "check_plain" DK ["form"] f fd
  t_half_of_middles : ∃ f fd, FnT K mg "half_of_middles" BL ["one", "other"] f fd
  t_common_shares : ∃ f fd, FnT K mg "common_shares" CZ ["one", "other"] f fd
  t_joint_form : ∃ f fd, FnT K mg "joint_form" Fi ["one", "other", "common"] f fd
  t_joint_rows : ∃ f fd, FnT K mg "joint_rows" Fg ["one", "other", "g", "middle"] f fd
  t_rows_led : ∃ f fd, FnT K mg "rows_led" Du ["turn", "rows"] f fd
  t_check_measure : ∃ f fd, FnT K mg "check_measure" Dc ["number"] f fd
  t_unit : ∃ f fd, FnT K mg "unit" Nk ["number"] f fd
  t__law_cell : ∃ f fd, FnT K mg "_law_cell" Ei ["_law_script", "_law_k"] f fd
  t__law_whole : ∃ f fd, FnT K mg "_law_whole" Fb ["_law_found"] f fd
  t__law_wholes : ∃ f fd, FnT K mg "_law_wholes" Df ["_law_found", "_law_many"] f fd
  t__law_bar : ∃ f fd, FnT K mg "_law_bar" Dr ["_law_form"] f fd
  t__law_root : ∃ f fd, FnT K mg "_law_root" Ef ["_law_number"] f fd
  t__law_flat : ∃ f fd, FnT K mg "_law_flat" FW ["_law_form"] f fd
  t__law_level : ∃ f fd, FnT K mg "_law_level" Et ["_law_form", "_law_far"] f fd
  t__law_behind : ∃ f fd, FnT K mg "_law_behind" DQ ["_law_form", "_law_top"] f fd
  t__law_bowl : ∃ f fd, FnT K mg "_law_bowl" FQ ["_law_form"] f fd
  t__law_least : ∃ f fd, FnT K mg "_law_least" Em ["_law_form"] f fd
  t__law_rest : ∃ f fd, FnT K mg "_law_rest" Fy ["_law_one", "_law_other"] f fd
  t__law_turn : ∃ f fd, FnT K mg "_law_turn" Fx ["_law_first", "_law_cells"] f fd
  t__law_value : ∃ f fd, FnT K mg "_law_value" EY ["_law_form", "_law_x", "_law_y"] f fd
  t__law_moved : ∃ f fd, FnT K mg "_law_moved" Fd ["_law_form", "_law_turn_here"] f fd
  t__law_sum : ∃ f fd, FnT K mg "_law_sum" Gw ["_law_script", "_law_sort", "_law_both", "_law_size"] f fd
  t__law_united : ∃ f fd, FnT K mg "_law_united" Dg ["_law_script", "_law_many"] f fd
  t_law : ∃ f fd, FnT K mg "law" Mh ["_law_script"] f fd
  m_MOST_MEASURE : ∃ t, mg "MOST_MEASURE" = some (.int (4000) t)
  z_abs : mg "abs" = none
  z_bool : mg "bool" = none
  z_int : mg "int" = none
  z_isinstance : mg "isinstance" = none
  z_len : mg "len" = none
  z_max : mg "max" = none
  z_min : mg "min" = none
  z_range : mg "range" = none
  z_tuple : mg "tuple" = none
  z_zip : mg "zip" = none
  k_SAME : ∃ a, mg "SAME" = some (.ref a) ∧ ∀ H, Rp K H (.tup [.int (1), .int (0), .int (0), .int (1)]) (.ref a)
abbrev Ol : DSp := BX (fun t : I4 => [t4 t]) (B4 300000) fun t => .bl (decide (det t = 1))
abbrev Fw : DSp := BX (fun t : I4 => [t4 t]) (fun t => B4 300000 t ∧ det t = 1) fun _ => .non
abbrev Yo : DSp := BX (fun p : I4 × I2 => [t4 p.1, t2 p.2]) (fun p => B4 300000 p.1 ∧ det p.1 = 1 ∧ B2 300000 p.2) fun p => t2 (GQ p.1 p.2)
abbrev G5 : DSp := BX (fun p : I4 × I4 => [t4 p.1, t4 p.2]) (fun p => B4 400000 p.1 ∧ B4 400000 p.2) fun p => t4 (Ao p.1 p.2)
abbrev Wn : DSp := BX (fun t : I4 => [t4 t]) (fun t => B4 300000 t ∧ det t = 1) fun t => t4 (Ar t)
section
variable (P : Program) (w : World) {K : PySem.W.Frag} {mg : Str → Option Value} (base : Heap)
theorem Vu (T : Txt K mg)
    : Pm P w K mg base 1 "is_turn" Hl ["turn"] Ol := by
  obtain ⟨f, fd, F⟩ := T.t_is_turn
  refine ⟨f, fd, F, F.fn.okD Vd (by walk_at "lE") fun cdv A outer s H E hr => ⟨_, (Ah (Aq (Qq hr.units (Bk (Ak (Ac (dv 0) Ab) (Ac (dv 0) Ab)) (Ak (Ac (dv 0) Ab) (Ac (dv 0) Ab))) Ab))), fun ds Q h => ?_⟩⟩
  obtain ⟨⟨a, b, c, d⟩, rfl, ⟨ha, hb, hc, hd⟩, q⟩ := h
  walk_at "go"
  exact ⟨by walk_at "mul", by walk_at "mul", q _ rfl⟩
theorem P0 (T : Txt K mg)
    (G_is_turn : Pm P w K mg base 1 "is_turn" Hl ["turn"] Ol)
    : Pm P w K mg base 2 "check_turn" CT ["turn"] Fw := by
  obtain ⟨f, fd, F⟩ := T.t_check_turn
  refine ⟨f, fd, F, F.fn.okD Pg (by walk_at "lE") fun cdv A outer s H E hr => ⟨_, (Ah (Cr (Iv (G9 (Ag Ae G_is_turn (hr.mono (by decide)) rfl (Aa (dv 0) Af)))) (Ah Fz) Bl)), fun ds Q h => ?_⟩⟩
  obtain ⟨t, rfl, ⟨hb, hd⟩, q⟩ := h
  walk_at "go"
  refine Aj t hb ?_
  walk_at "rd"
  rw [decide_eq_true hd]
  exact q _ rfl
theorem Aeb (T : Txt K mg)
    (G_check_turn : Pm P w K mg base 2 "check_turn" CT ["turn"] Fw)
    : Pm P w K mg base 3 "led" Tq ["turn", "point"] Yo := by
  obtain ⟨f, fd, F⟩ := T.t_led
  refine ⟨f, fd, F, F.fn.okD Ad7 (by walk_at "lE") fun cdv A outer s H E hr => ⟨_, (Ad (DY (Ag Ae G_check_turn (hr.mono (by decide)) rfl (Aa (dv 0) Af))) (Ah (Aq (Bp (Aa (Bj (Ak (Ac (dv 0) Ab) (Ac (dv 1) Ab)) (Ak (Ac (dv 0) Ab) (Ac (dv 1) Ab))) (Aa (Bj (Ak (Ac (dv 0) Ab) (Ac (dv 1) Ab)) (Ak (Ac (dv 0) Ab) (Ac (dv 1) Ab))) Af)))))), fun ds Q h => ?_⟩⟩
  obtain ⟨⟨⟨a, b, c, d⟩, x, y⟩, rfl, ⟨hb, hd, hx, hy⟩, q⟩ := h
  walk_at "go"
  refine Aj (a, b, c, d) ⟨hb, hd⟩ ?_
  obtain ⟨ha, hb, hc, hd⟩ := hb
  exact ⟨by walk_at "mul", by walk_at "mul", by walk_at "mul", by walk_at "mul", Av (by decide), q _ rfl⟩
theorem Pa (T : Txt K mg)
    : Pm P w K mg base 1 "put_behind" Dy ["one", "other"] G5 := by
  obtain ⟨f, fd, F⟩ := T.t_put_behind
  refine ⟨f, fd, F, F.fn.okD Pn (by walk_at "lE") fun cdv A outer s H E hr => ⟨_, (Ah (Aq (Bp (Aa (Bj (Ak (Ac (dv 0) Ab) (Ac (dv 1) Ab)) (Ak (Ac (dv 0) Ab) (Ac (dv 1) Ab))) (Aa (Bj (Ak (Ac (dv 0) Ab) (Ac (dv 1) Ab)) (Ak (Ac (dv 0) Ab) (Ac (dv 1) Ab))) (Aa (Bj (Ak (Ac (dv 0) Ab) (Ac (dv 1) Ab)) (Ak (Ac (dv 0) Ab) (Ac (dv 1) Ab))) (Aa (Bj (Ak (Ac (dv 0) Ab) (Ac (dv 1) Ab)) (Ak (Ac (dv 0) Ab) (Ac (dv 1) Ab))) Af))))))), fun ds Q h => ?_⟩⟩
  obtain ⟨⟨⟨a, b, c, d⟩, e, f, g, i⟩, rfl, ⟨⟨ha, hb, hc, hd⟩, he, hf, hg, hi⟩, q⟩ := h
  walk_at "go"
  exact ⟨by walk_at "mul", by walk_at "mul", by walk_at "mul", by walk_at "mul", by walk_at "mul", by walk_at "mul", by walk_at "mul", by walk_at "mul", Av (by decide), q _ rfl⟩
theorem Aat (T : Txt K mg)
    (G_check_turn : Pm P w K mg base 2 "check_turn" CT ["turn"] Fw)
    : Pm P w K mg base 3 "back" Oq ["turn"] Wn := by
  obtain ⟨f, fd, F⟩ := T.t_back
  refine ⟨f, fd, F, F.fn.okD Ab4 (by walk_at "lE") fun cdv A outer s H E hr => ⟨_, (Ad (DY (Ag Ae G_check_turn (hr.mono (by decide)) rfl (Aa (dv 0) Af))) (Ah (Aq (Bp (Aa (Ac (dv 0) Ab) (Aa (HS (Ac (dv 0) Ab)) (Aa (HS (Ac (dv 0) Ab)) (Aa (Ac (dv 0) Ab) Af)))))))), fun ds Q h => ?_⟩⟩
  obtain ⟨⟨a, b, c, d⟩, rfl, ⟨hb, hd⟩, q⟩ := h
  walk_at "go"
  refine Aj (a, b, c, d) ⟨hb, hd⟩ ?_
  exact ⟨Av (by decide), q _ rfl⟩
theorem AbP (T : Txt K mg)
    : Pm P w K mg base 1 "root" JV ["number"] MK := by
  obtain ⟨f, fd, F⟩ := T.t_root
  refine ⟨f, fd, F, F.fn.okD Ko (by walk_at "lE") fun cdv A outer s H E hr => ⟨_, (Ad (Cr (J7 (dv 0) Ab) (Ah Fz) Bl) (Ad (Cr (SN hr.units (dv 0) Ab) (Ah (Aq Ab)) Bl) (Ad (Al 1 Ko.nd (Y5 Ab (Br (Bj (WT (dv 0)) Ab) Ab))) (Ad (Al 2 Ko.nd (Br (Bj (dv 1) (Br (dv 0) (dv 1))) Ab)) (Ad (Dl PassesOwn.never (J7 (dv 2) (dv 1)) (Ad (Al 1 Ko.nd (dv 2)) (Ah (Al 2 Ko.nd (Br (Bj (dv 1) (Br (dv 0) (dv 1))) Ab))))) (Ah (Aq (dv 1)))))))), fun ds Q h => ?_⟩⟩
  obtain ⟨n, rfl, ⟨h0, hb⟩, q⟩ := h
  walk_at "go"
  refine FP (decide_eq_false (by omega)) ?_
  by_cases hz : n = 0
  · subst hz
    exact ift rfl (q _ ⟨0, rfl, ⟨by omega, by omega, by omega⟩, Bt.zero.le (by decide)⟩)
  refine FP (decide_eq_false hz) ?_
  obtain ⟨c1, c2, c3⟩ := Ms hb
  have hu := TV h0
  refine ⟨⟨by decide, by decide⟩, c1, ?_⟩
  generalize (1 * 2 ^ ((((Builtin.Int.intBits n : Nat) : Int) + 1).fdiv 2).toNat : Int) = g at *
  refine ⟨Bt.divOk c2 (by omega), ⟨by decide, by decide⟩, ?_⟩
  rw [QW c3]
  refine Ds (fun m ρ => ∃ g : Int, ρ = [some (.is (.int n)), some (.is (.int g)), some (.is (.int ((g + n / g) / 2)))] ∧ 0 < g ∧ Bt 2001 g ∧ n < (g + 1) * (g + 1) ∧ m = g.toNat) _ ⟨g, rfl, c3, c2, hu, rfl⟩ ?_
  rintro m _ ⟨g, rfl, hg, hgb, hgu, rfl⟩
  walk_at "rd"
  refine Ek (fun hw => ?_) (fun hw => ?_)
  · have hw := of_decide_eq_true hw
    have hp := Vr (show 1 ≤ n by omega) hg
    have hu' := Qm h0 hg
    have hbb : Bt 2001 ((g + n / g) / 2) := by unfold Bt at *; omega
    generalize (g + n / g) / 2 = b at *
    refine ⟨Bt.divOk hbb (by omega), ⟨by decide, by decide⟩, ?_⟩
    rw [QW hp]
    exact ⟨_, by omega, b, rfl, hp, hbb, hu', rfl⟩
  · have hw : ¬ (g + n / g) / 2 < g := fun z => hw (decide_eq_true z)
    exact q _ ⟨g, rfl, ⟨by omega, Vl hg (by omega), hgu⟩, hgb⟩
theorem QX (T : Txt K mg)
    (G_root : Pm P w K mg base 1 "root" JV ["number"] MK)
    : Pm P w K mg base 2 "is_square" Ej ["number"] HF := by
  obtain ⟨f, fd, F⟩ := T.t_is_square
  refine ⟨f, fd, F, F.fn.okD KR (by walk_at "lE") fun cdv A outer s H E hr => ⟨_, (Ad (Cr (J7 (dv 0) Ab) (Ah (Aq Oh)) Bl) (Ad (Al 1 KR.nd (Ag Ae G_root (hr.mono (by decide)) rfl (Aa (dv 0) Af))) (Ah (Aq (Qq hr.units (Ak (dv 1) (dv 1)) (dv 0)))))), fun ds Q h => ?_⟩⟩
  obtain ⟨n, rfl, hb, q⟩ := h
  walk_at "go"
  refine Ek (fun hw => ?_) (fun hw => ?_)
  · have hw := of_decide_eq_true hw
    exact q _ ⟨false, rfl, by simp [Og hw]⟩
  · have hw : ¬ n < 0 := fun z => hw (decide_eq_true z)
    refine Ba n ⟨by omega, hb⟩ ?_
    rintro _ ⟨r, rfl, hs, hr'⟩
    walk_at "rd"
    refine ⟨by walk_at "mul", q _ ⟨_, rfl, ?_⟩⟩
    rw [Aaj hs]; simp
abbrev Dq : DSp := BX (fun f : I3 => [t3 f]) (B3 20000) fun f => .int (meas f)
abbrev SQ : DSp := BX (fun p : I3 × I2 => [t3 p.1, t2 p.2]) (fun p => B3 20000 p.1 ∧ B2 300000 p.2) fun p => .int (val p.1 p.2)
abbrev Qi : DSp := BX (fun p : I3 × I2 × I2 => [t3 p.1, t2 p.2.1, t2 p.2.2]) (fun p => B3 20000 p.1 ∧ B2 300000 p.2.1 ∧ B2 300000 p.2.2) fun p => .int (mid p.1 p.2.1 p.2.2)
abbrev Np : DSp := BX (fun p : I3 × I4 => [t3 p.1, t4 p.2]) (fun p => B3 20000 p.1 ∧ B4 300000 p.2 ∧ det p.2 = 1) fun p => t3 (mov p.1 p.2)
theorem Uz (T : Txt K mg)
    : Pm P w K mg base 1 "measure" CK ["form"] Dq := by
  obtain ⟨f, fd, F⟩ := T.t_measure
  refine ⟨f, fd, F, F.fn.okD U8 (by walk_at "lE") fun cdv A outer s H E hr => ⟨_, (Ah (Aq (Bk (Ak (Ac (dv 0) Ab) (Ac (dv 0) Ab)) (Ak (Ak Ab (Ac (dv 0) Ab)) (Ac (dv 0) Ab))))), fun ds Q h => ?_⟩⟩
  obtain ⟨⟨a, b, c⟩, rfl, ⟨ha, hb, hc⟩, q⟩ := h
  walk_at "go"
  have h2 : Bt 3 4 := Bt.of_abs (by decide)
  exact ⟨by walk_at "mul", by walk_at "mul", by walk_at "mul", q _ rfl⟩
theorem Z0 (T : Txt K mg)
    : Pm P w K mg base 1 "value" KJ ["form", "point"] SQ := by
  obtain ⟨f, fd, F⟩ := T.t_value
  refine ⟨f, fd, F, F.fn.okD NQ (by walk_at "lE") fun cdv A outer s H E hr => ⟨_, (Ad (Al 2 NQ.nd (Ac (dv 1) Ab)) (Ad (Al 3 NQ.nd (Ac (dv 1) Ab)) (Ah (Aq (Bj (Bj (Ak (Ak (Ac (dv 0) Ab) (dv 2)) (dv 2)) (Ak (Ak (Ac (dv 0) Ab) (dv 2)) (dv 3))) (Ak (Ak (Ac (dv 0) Ab) (dv 3)) (dv 3))))))), fun ds Q h => ?_⟩⟩
  obtain ⟨⟨⟨a, b, c⟩, x, y⟩, rfl, ⟨⟨ha, hb, hc⟩, hx, hy⟩, q⟩ := h
  walk_at "go"
  exact ⟨by walk_at "mul", by walk_at "mul", by walk_at "mul", by walk_at "mul", by walk_at "mul", by walk_at "mul", q _ rfl⟩
theorem W4 (T : Txt K mg)
    : Pm P w K mg base 1 "middle" Ip ["form", "left", "right"] Qi := by
  obtain ⟨f, fd, F⟩ := T.t_middle
  refine ⟨f, fd, F, F.fn.okD Qn (by walk_at "lE") fun cdv A outer s H E hr => ⟨_, (Ad (Al 3 Qn.nd (Bj (Ak (Ac (dv 1) Ab) (Ac (dv 2) Ab)) (Ak (Ac (dv 2) Ab) (Ac (dv 1) Ab)))) (Ah (Aq (Bj (Bj (Ak (Ak (Ak Ab (Ac (dv 0) Ab)) (Ac (dv 1) Ab)) (Ac (dv 2) Ab)) (Ak (Ac (dv 0) Ab) (dv 3))) (Ak (Ak (Ak Ab (Ac (dv 0) Ab)) (Ac (dv 1) Ab)) (Ac (dv 2) Ab)))))), fun ds Q h => ?_⟩⟩
  obtain ⟨⟨⟨a, b, c⟩, ⟨x, y⟩, u, v⟩, rfl, ⟨⟨ha, hb, hc⟩, ⟨hx, hy⟩, hu, hv⟩, q⟩ := h
  walk_at "go"
  have h2 : Bt 2 2 := Bt.of_abs (by decide)
  walk_at "muls"
  exact q _ rfl
theorem ZJ (T : Txt K mg)
    (G_check_turn : Pm P w K mg base 2 "check_turn" CT ["turn"] Fw)
    (G_value : Pm P w K mg base 1 "value" KJ ["form", "point"] SQ)
    (G_middle : Pm P w K mg base 1 "middle" Ip ["form", "left", "right"] Qi)
    : Pm P w K mg base 3 "moved" Jh ["form", "turn"] Np := by
  obtain ⟨f, fd, F⟩ := T.t_moved
  refine ⟨f, fd, F, F.fn.okD M6 (by walk_at "lE") fun cdv A outer s H E hr => ⟨_, (Ad (DY (Ag Ae G_check_turn (hr.mono (by decide)) rfl (Aa (dv 1) Af))) (Ad (Al 2 M6.nd (Bp (Aa (Ac (dv 1) Ab) (Aa (Ac (dv 1) Ab) Af)))) (Ad (Al 3 M6.nd (Bp (Aa (Ac (dv 1) Ab) (Aa (Ac (dv 1) Ab) Af)))) (Ah (Aq (Bp (Aa (Ag Ae G_value (hr.mono (by decide)) rfl (Aa (dv 0) (Aa (dv 2) Af))) (Aa (Ag Ae G_middle (hr.mono (by decide)) rfl (Aa (dv 0) (Aa (dv 2) (Aa (dv 3) Af)))) (Aa (Ag Ae G_value (hr.mono (by decide)) rfl (Aa (dv 0) (Aa (dv 3) Af))) Af))))))))), fun ds Q h => ?_⟩⟩
  obtain ⟨⟨f, t⟩, rfl, ⟨hf, ht, hd⟩, q⟩ := h
  walk_at "go"
  have hl : B2 300000 (t.1, t.2.2.1) := ⟨ht.1.le (by decide), ht.2.2.1.le (by decide)⟩
  have hr' : B2 300000 (t.2.1, t.2.2.2) := ⟨ht.2.1.le (by decide), ht.2.2.2.le (by decide)⟩
  refine Aj t ⟨ht, hd⟩ ⟨Av (by decide), Av (by decide), ?_⟩
  refine Aj (f, (t.1, t.2.2.1)) ⟨hf, hl⟩ ?_
  refine Aj (f, (t.1, t.2.2.1), (t.2.1, t.2.2.2)) ⟨hf, hl, hr'⟩ ?_
  refine Aj (f, (t.2.1, t.2.2.2)) ⟨hf, hr'⟩ ⟨Av (by decide), ?_⟩
  exact q _ rfl
abbrev OJ : DSp := BX (fun p : I2 => [.int p.1, .int p.2]) (fun _ => True) fun p => .int ((Int.gcd p.1 p.2 : Nat) : Int)
theorem U4 (T : Txt K mg)
    : Pm P w K mg base 1 "divisor" Hr ["one", "other"] OJ := by
  obtain ⟨f, fd, F⟩ := T.t_divisor
  refine ⟨f, fd, F, F.fn.okD HN (by walk_at "lE") fun cdv A outer s H E hr => ⟨_, (Ad (Dl PassesOwn.never (GF hr.units (dv 1) Ab) (Ad (Al 2 HN.nd (CV (dv 0) (dv 1))) (Ad (Al 0 HN.nd (dv 1)) (Ah (Al 1 HN.nd (dv 2)))))) (Ah (Aq (IV T.z_abs (Aa (dv 0) Af))))), fun ds Q h => ?_⟩⟩
  obtain ⟨⟨a, b⟩, rfl, _, q⟩ := h
  simp only [Nm, Oa, Nx]
  refine Ds (fun m ρ => ∃ x y z, ρ = [some (.is (.int x)), some (.is (.int y)), z] ∧ Int.gcd x y = Int.gcd a b ∧ m = y.natAbs) _ ⟨a, b, none, rfl, rfl, rfl⟩ ?_
  rintro m _ ⟨x, y, z, rfl, hg, rfl⟩
  walk_at "rd"
  by_cases hy : y = 0
  · subst hy
    simp only [decide_true, Bool.not_true]
    walk_at "rd"
    have q' := q _ rfl
    have e : (if x < 0 then -x else x) = ((Int.gcd a b : Nat) : Int) := by rw [← hg, Int.gcd_zero_right]; split <;> omega
    rw [e]
    exact q'
  · simp only [decide_eq_false hy, Bool.not_false, if_true]
    exact ⟨hy, _, HJ hy, y, x.fmod y, _, rfl, (KY x y).trans hg, rfl⟩
abbrev Oj : DSp := BX (fun f : I3 => [t3 f]) (fun _ => True) fun f => .int (g3 f)
theorem Vs (T : Txt K mg)
    (G_divisor : Pm P w K mg base 1 "divisor" Hr ["one", "other"] OJ)
    : Pm P w K mg base 2 "content" Hq ["form"] Oj := by
  obtain ⟨f, fd, F⟩ := T.t_content
  refine ⟨f, fd, F, F.fn.okD Vh (by walk_at "lE") fun cdv A outer s H E hr => ⟨_, (Ah (Aq (Ag Ae G_divisor (hr.mono (by decide)) rfl (Aa (Ag Ae G_divisor (hr.mono (by decide)) rfl (Aa (Ac (dv 0) Ab) (Aa (Ac (dv 0) Ab) Af))) (Aa (Ac (dv 0) Ab) Af))))), fun ds Q h => ?_⟩⟩
  obtain ⟨f, rfl, _, q⟩ := h
  walk_at "go"
  exact Aj (f.1, f.2.1) trivial (Aj (_, f.2.2) trivial (q _ rfl))
abbrev Kz : DSp := spec (fun f : I3 => [t3 f]) (fun f => B3 1500 f) YC
theorem Z7 (T : Txt K mg)
    (G_measure : Pm P w K mg base 1 "measure" CK ["form"] Dq)
    (G_is_square : Pm P w K mg base 2 "is_square" Ej ["number"] HF)
    : Pm P w K mg base 3 "shape" HB ["form"] Kz := by
  obtain ⟨f, fd, F⟩ := T.t_shape
  refine ⟨f, fd, F, F.fn.okD Td (by walk_at "lE") fun cdv A outer s H E hr => ⟨_, (Ad (Al 1 Td.nd (Ag Ae G_measure (hr.mono (by decide)) rfl (Aa (dv 0) Af))) (Ad (Cr (G9 (Ag Ae G_is_square (hr.mono (by decide)) rfl (Aa (dv 1) Af))) (Ah (Aq J4)) Bl) (Ad (Cr (Nq (dv 1) Ab) (Ah (Aq J4)) Bl) (Ad (Cr (Nq (Ac (dv 0) Ab) Ab) (Ah (Aq J4)) Bl) (Ah (Aq J4)))))), fun ds Q h => ?_⟩⟩
  obtain ⟨f, rfl, hf, q⟩ := h
  walk_at "go"
  refine Aj f (hf.le (by decide)) ?_
  have hm : Bt 4000 (meas f) := by
    obtain ⟨h1, h2, h3⟩ := hf
    have h4 : Bt 3 4 := Bt.of_abs (by decide)
    exact ((h2.mul h2).sub ((h4.mul h1).mul h3)).le (by decide)
  refine Ba (meas f) hm ?_
  rintro _ ⟨b, rfl, hb⟩
  walk_at "rd"
  refine Ek (fun h => q _ (.flat (hb.mp h))) (fun h => ?_)
  have hn : ¬ HY (meas f) := fun z => h (hb.mpr z)
  refine Ek (fun h => q _ (.saddle hn (of_decide_eq_true h))) (fun h => ?_)
  have hp : ¬ 0 < meas f := fun z => h (decide_eq_true z)
  refine Ek (fun h => q _ (.bowl hn hp (of_decide_eq_true h))) (fun h => q _ (.dome hn hp fun z => h (decide_eq_true z)))
abbrev JG : DSp := BX (fun f : I3 => [t3 f]) (fun f => B3 1500 f ∧ Bf f) fun _ => .non
abbrev Ii : DSp := BX (fun f : I3 => [t3 f]) (fun _ => True) fun f => .bl (stands f)
theorem Qf (T : Txt K mg)
    (G_shape : Pm P w K mg base 3 "shape" HB ["form"] Kz)
    : Pm P w K mg base 4 "check_bowl" Eo ["form"] JG := by
  obtain ⟨f, fd, F⟩ := T.t_check_bowl
  refine ⟨f, fd, F, F.fn.okD Pj (by walk_at "lE") fun cdv A outer s H E hr => ⟨_, (Ah (Cr (GF hr.units (Ag Ae G_shape (hr.mono (by decide)) rfl (Aa (dv 0) Af)) J4) (Ah Fz) Bl)), fun ds Q h => ?_⟩⟩
  obtain ⟨f, rfl, ⟨hb, h0, h1⟩, q⟩ := h
  walk_at "go"
  have h0 : 0 < f.1 := h0
  have h1 : meas f < 0 := h1
  refine Ba f hb ?_
  rintro _ hw
  cases hw with
  | flat z => exact absurd z (Og h1)
  | saddle _ z => exact absurd z (by omega)
  | dome _ _ z => exact absurd h0 z
  | bowl _ _ _ => exact ⟨⟨by rw [R9]; decide +kernel, by rw [R9]; decide +kernel⟩, ifn (by rw [Ue]; rfl) (q _ rfl)⟩
theorem Mx (T : Txt K mg)
    : Pm P w K mg base 1 "stands_least" Dw ["form"] Ii := by
  obtain ⟨f, fd, F⟩ := T.t_stands_least
  refine ⟨f, fd, F, F.fn.okD Ea (by walk_at "lE") fun cdv A outer s H E hr => ⟨_, (Ad (Al 1 Ea.nd (Ac (dv 0) Ab)) (Ad (Al 2 Ea.nd (Ac (dv 0) Ab)) (Ad (Al 3 Ea.nd (Ac (dv 0) Ab)) (Ad (Cr (Iv (Lh JB JB JB Cw Cw Cw  (HS (dv 1)) (dv 2) (dv 1) (dv 3))) (Ah (Aq Oh)) Bl) (Ah (Aq (AfP (AhN (dv 2) Ab) (LK (Om (AcG hr.units (dv 2) (HS (dv 1))) (LK (AcG hr.units (dv 1) (dv 3)))))))))))), fun ds Q h => ?_⟩⟩
  obtain ⟨⟨a, b, c⟩, rfl, _, q⟩ := h
  have q' := q _ rfl
  dsimp only [stands] at q'
  walk_at "go"
  simp only [Bool.decide_and, ne_eq, decide_not] at q'
  generalize decide (-a ≤ b) = x1 at *
  generalize decide (b ≤ a) = x2 at *
  generalize decide (a ≤ c) = x3 at *
  generalize decide (0 ≤ b) = x4 at *
  generalize decide (b = -a) = x5 at *
  generalize decide (a = c) = x6 at *
  cases x1 <;> cases x2 <;> cases x3 <;> cases x4 <;> cases x5 <;> cases x6 <;> exact q'
abbrev Jt : DSp := BX (fun f : I3 => [t3 f]) (fun f => B3 8000 f ∧ 0 < f.1) fun f => t4 (Dj f)
theorem Px (T : Txt K mg)
    : Pm P w K mg base 1 "turn_lower" Ew ["form"] Jt := by
  obtain ⟨f, fd, F⟩ := T.t_turn_lower
  refine ⟨f, fd, F, F.fn.okD Jy (by walk_at "lE") fun cdv A outer s H E hr => ⟨_, (Ad (Al 1 Jy.nd (Br (Bk (Ac (dv 0) Ab) (Ac (dv 0) Ab)) (Ak Ab (Ac (dv 0) Ab)))) (Ad (Cr (GF hr.units (dv 1) Ab) (Ah (Aq (Bp (Aa Ab (Aa (dv 1) (Aa Ab (Aa Ab Af))))))) Bl) (Ah (Aq (Bp (Aa Ab (Aa (HS Ab) (Aa Ab (Aa Ab Af))))))))), fun ds Q h => ?_⟩⟩
  obtain ⟨⟨a, b, c⟩, rfl, ⟨⟨h1, h2, h3⟩, h0⟩, q⟩ := h
  have h0 : 0 < a := h0
  have h1 : Bt 8000 a := h1
  have two : Bt 2 2 := Bt.of_abs (by decide)
  have q' := q _ rfl
  dsimp only at q'
  walk_at "go"
  refine ⟨two.mulOk h1, Bt.divOk (two.mul h1) (by omega), ?_⟩
  by_cases ho : (a - b).fdiv (2 * a) = 0
  · refine FP (by rw [decide_eq_true ho]; rfl) ⟨Av (by decide), ?_⟩
    rw [O9 (f := (a, b, c)) ho] at q'
    exact q'
  · refine ift (by rw [decide_eq_false ho]; rfl) ⟨Av (by decide), ?_⟩
    rw [Nr (f := (a, b, c)) ho] at q'
    exact q'
def LI (f : I3) : Nat → I4
  | 0 => (1, 0, 0, 1)
  | k + 1 => Ao (LI f k) (Dj (mov f (LI f k)))
def Km (f : I3) (t : I4) : Prop := ∃ k, t = LI f k ∧ (∀ i, i < k → stands (mov f (LI f i)) = false) ∧ stands (mov f (LI f k)) = true
theorem Km.uniq {f : I3} {t u : I4} (a : Km f t) (b : Km f u) : t = u := by
  obtain ⟨k, rfl, n1, h1⟩ := a
  obtain ⟨l, rfl, n2, h2⟩ := b
  rcases Nat.lt_trichotomy k l with z | z | z
  · rw [n2 k z] at h1; cases h1
  · rw [z]
  · rw [n1 l z] at h2; cases h2
def Jj (f : I3) (d : Dt) : Prop := ∃ t : I4, d = .tup [t3 (mov f t), t4 t] ∧ det t = 1 ∧ Ci (mov f t) ∧ B4 5000 t ∧ Km f t
abbrev Oz : DSp := spec (fun f : I3 => [t3 f]) (fun f => B3 1500 f ∧ Bf f) Jj
theorem Ve (T : Txt K mg)
    (G_check_bowl : Pm P w K mg base 4 "check_bowl" Eo ["form"] JG)
    (G_stands_least : Pm P w K mg base 1 "stands_least" Dw ["form"] Ii)
    (G_turn_lower : Pm P w K mg base 1 "turn_lower" Ew ["form"] Jt)
    (G_moved : Pm P w K mg base 3 "moved" Jh ["form", "turn"] Np)
    (G_put_behind : Pm P w K mg base 1 "put_behind" Dy ["one", "other"] G5)
    : Pm P w K mg base 5 "settled" Hv ["form"] Oz := by
  obtain ⟨f, fd, F⟩ := T.t_settled
  obtain ⟨a_SAME, m_SAME, q_SAME⟩ := T.k_SAME
  refine ⟨f, fd, F, F.fn.okD Gq (by walk_at "lE") fun cdv A outer s H E hr => ⟨_, (Ad (DY (Ag Ae G_check_bowl (hr.mono (by decide)) rfl (Aa (dv 0) Af))) (Ad (Al 1 Gq.nd (MN (v := .ref a_SAME) rfl m_SAME rfl q_SAME)) (Ad (Dl PassesOwn.never (Iv (G9 (Ag Ae G_stands_least (hr.mono (by decide)) rfl (Aa (dv 0) Af)))) (Ad (Al 2 Gq.nd (Ag Ae G_turn_lower (hr.mono (by decide)) rfl (Aa (dv 0) Af))) (Ad (Al 0 Gq.nd (Ag Ae G_moved (hr.mono (by decide)) rfl (Aa (dv 0) (Aa (dv 2) Af)))) (Ah (Al 1 Gq.nd (Ag Ae G_put_behind (hr.mono (by decide)) rfl (Aa (dv 1) (Aa (dv 2) Af)))))))) (Ah (Aq (Bp (Aa (dv 0) (Aa (dv 1) Af)))))))), fun ds Q h => ?_⟩⟩
  obtain ⟨f, rfl, ⟨hb, hw⟩, q⟩ := h
  have hw : Bf f := hw
  have hb : B3 1500 f := hb
  have hm : Bt 3010 (meas f) := by
    obtain ⟨h1, h2, h3⟩ := hb
    have h4 : Bt 3 4 := Bt.of_abs (by decide)
    exact ((h2.mul h2).sub ((h4.mul h1).mul h3)).le (by decide)
  walk_at "go"
  refine Aj f ⟨hb, hw⟩ ?_
  refine Ds (fun m ρ => ∃ t x, (∃ k, t = LI f k ∧ ∀ i, i < k → stands (mov f (LI f i)) = false) ∧ ρ = [some (.is (t3 (mov f t))), some (.is (t4 t)), x] ∧ det t = 1 ∧ Bt 1500 (mov f t).1 ∧ Bt 1500 (mov f t).2.1 ∧ m = msr (mov f t)) _ ⟨(1, 0, 0, 1), none, ⟨0, rfl, fun _ h => absurd h (by omega)⟩, by rw [Cj], rfl, by rw [Cj]; exact hb.1, by rw [Cj]; exact hb.2.1, rfl⟩ ?_
  rintro m _ ⟨t, x, ⟨k, et, nl⟩, rfl, hd, b1, b2, rfl⟩
  have hg := Ku hw hd
  have hgb : B3 7000 (mov f t) := (V0 hg b1 b2 (by rw [Bq hd]; exact hm)).le (by decide)
  have ht : B4 5000 t := Aa6 hw hb hgb (by decide)
  walk_at "rd"
  refine Aj (mov f t) trivial ?_
  walk_at "rd"
  by_cases hs : stands (mov f t) = true
  · refine FP (by rw [hs]; rfl) ⟨Av (by decide), q _ ⟨t, rfl, hd, Bo hg.1 hs, ht, k, et, nl, by rw [← et]; exact hs⟩⟩
  · have hs : stands (mov f t) = false := by simpa using hs
    refine ift (by rw [hs]; rfl) ?_
    have hl : B4 2000 (Dj (mov f t)) := (Zj hg.1 b1 b2).le (by decide)
    refine Aj (mov f t) ⟨hgb.le (by decide), hg.1⟩ ?_
    refine Aj (mov f t, Dj (mov f t)) ⟨hgb.le (by decide), hl.le (by decide), Qz⟩ ?_
    refine Aj (t, Dj (mov f t)) ⟨ht.le (by decide), hl.le (by decide)⟩ ?_
    have hb' := ZW hg hs b1 b2
    have hm' := W9 hg hs
    rw [Bd] at hb' hm'
    dsimp only
    rw [Bd]
    refine ⟨_, hm', Ao t (Dj (mov f t)), _, ⟨k + 1, by rw [et]; rfl, fun i hi => ?_⟩, rfl, ?_, hb'.1, hb'.2, rfl⟩
    case refine_1 =>
      rcases Nat.lt_or_ge i k with z | z
      · exact nl i z
      · rw [show i = k by omega, ← et]; exact hs
    rw [Ca, hd, Qz]; rfl
abbrev Fo : DSp := BX (fun p : I2 => [.int p.1, .int p.2]) (fun p => p.1 ≤ p.2) fun _ => .non
theorem Lk (T : Txt K mg)
    : Pm P w K mg base 1 "check_at_most" Cm ["number", "most"] Fo := by
  obtain ⟨f, fd, F⟩ := T.t_check_at_most
  refine ⟨f, fd, F, F.fn.okD Li (by walk_at "lE") fun cdv A outer s H E hr => ⟨_, (Ah (Cr (Nq (dv 0) (dv 1)) (Ah Fz) Bl)), fun ds Q h => ?_⟩⟩
  obtain ⟨⟨n, m⟩, rfl, h0, q⟩ := h
  have h0 : n ≤ m := h0
  walk_at "go"
  exact FP (decide_eq_false (by omega)) (q _ rfl)
abbrev FZ : DSp := BX (fun f : I3 => [t3 f]) (fun f => B3 1500 f ∧ Sad f) fun _ => .non
abbrev Ij : DSp := BX (fun p : I3 × Int => [t3 p.1, .int p.2]) (fun p => B3 20000 p.1) fun p => .bl (decide (Level p.1 p.2))
theorem Mv (T : Txt K mg)
    (G_check_at_most : Pm P w K mg base 1 "check_at_most" Cm ["number", "most"] Fo)
    (G_shape : Pm P w K mg base 3 "shape" HB ["form"] Kz)
    (G_measure : Pm P w K mg base 1 "measure" CK ["form"] Dq)
    : Pm P w K mg base 4 "check_saddle" CG ["form"] FZ := by
  obtain ⟨f, fd, F⟩ := T.t_check_saddle
  obtain ⟨t_MOST_MEASURE, m_MOST_MEASURE⟩ := T.m_MOST_MEASURE
  refine ⟨f, fd, F, F.fn.okD Mz (by walk_at "lE") fun cdv A outer s H E hr => ⟨_, (Ad (Cr (GF hr.units (Ag Ae G_shape (hr.mono (by decide)) rfl (Aa (dv 0) Af)) J4) (Ah Fz) Bl) (Ah (DY (Ag Ae G_check_at_most (hr.mono (by decide)) rfl (Aa (Ag Ae G_measure (hr.mono (by decide)) rfl (Aa (dv 0) Af)) (Aa (MN (v := .int (4000)) (d := .int (4000)) rfl m_MOST_MEASURE ⟨_, rfl⟩ (fun _ => Bm.mpr rfl)) Af)))))), fun ds Q h => ?_⟩⟩
  obtain ⟨f, rfl, ⟨hb, hs⟩, q⟩ := h
  have hs : Sad f := hs
  have nb : Dt.flat 8 (.str "saddle") = true := by rw [R9]; decide +kernel
  walk_at "go"
  refine Ba f hb ?_
  rintro _ hw
  have h0 := hs.pos
  cases hw with
  | flat z => exact absurd z hs.no
  | bowl _ z _ => exact absurd h0 z
  | dome _ z _ => exact absurd h0 z
  | saddle _ _ =>
    refine ⟨⟨nb, nb⟩, ifn (by rw [Ue]; rfl) (Aj f (hb.le (by decide)) (Aj (meas f, 4000) hs.most (q _ rfl)))⟩
theorem Mw (T : Txt K mg)
    : Pm P w K mg base 1 "stands_level" Dm ["form", "far"] Ij := by
  obtain ⟨f, fd, F⟩ := T.t_stands_level
  refine ⟨f, fd, F, F.fn.okD Ih (by walk_at "lE") fun cdv A outer s H E hr => ⟨_, (Ad (Al 2 Ih.nd (Ac (dv 0) Ab)) (Ah (Aq (Om (Ks O7 JB Cw Cw Ab (dv 2) (dv 1)) (LK (Ks O7 JB Cw Cw (Bk (dv 1) (dv 2)) (Ak Ab (IV T.z_abs (Aa (Ac (dv 0) Ab) Af))) (Bj (dv 1) (dv 2)))))))), fun ds Q h => ?_⟩⟩
  obtain ⟨⟨⟨a, b, c⟩, far⟩, rfl, hb, q⟩ := h
  have q' := q _ rfl
  obtain ⟨ha, _, _⟩ := (show B3 20000 (a, b, c) from hb)
  have ha : Bt 20000 a := ha
  have two : Bt 2 2 := Bt.of_abs (by decide)
  have ha' : Bt 20000 (if a < 0 then -a else a) := by split <;> first | exact ha.neg | exact ha
  have q' : Q (.bl (decide (Level (a, b, c) far))) := q'
  walk_at "go"
  have hL : Level (a, b, c) far ↔ (0 < b ∧ b ≤ far) ∧ far - b < 2 * (if a < 0 then -a else a) ∧ 2 * (if a < 0 then -a else a) ≤ far + b := Iff.rfl
  generalize (if a < 0 then -a else a) = A at *
  by_cases h1 : 0 < b
  · refine ift (decide_eq_true h1) ?_
    by_cases h2 : b ≤ far
    · refine ift (decide_eq_true h2) ⟨two.mulOk ha', ?_⟩
      by_cases h3 : far - b < 2 * A
      · refine ift (decide_eq_true h3) ?_
        have e : decide (Level (a, b, c) far) = decide (2 * A ≤ far + b) := decide_eq_decide.mpr (hL.trans ⟨fun z => z.2.2, fun z => ⟨⟨h1, h2⟩, h3, z⟩⟩)
        rw [e] at q'
        exact q'
      · refine FP (decide_eq_false h3) ?_
        rw [decide_eq_false fun z => h3 (hL.mp z).2.1] at q'
        exact q'
    · refine FP (decide_eq_false h2) ?_
      rw [decide_eq_false fun z => h2 (hL.mp z).1.2] at q'
      exact q'
  · refine FP (decide_eq_false h1) ?_
    rw [decide_eq_false fun z => h1 (hL.mp z).1.1] at q'
    exact q'
abbrev Iz : DSp := BX (fun p : I3 × Int => [t3 p.1, .int p.2]) (fun p => B3 8000 p.1 ∧ p.1.2.2 ≠ 0) fun p => t4 (Ce p.1 p.2)
theorem M9 (T : Txt K mg)
    : Pm P w K mg base 1 "turn_behind" DR ["form", "top"] Iz := by
  obtain ⟨f, fd, F⟩ := T.t_turn_behind
  refine ⟨f, fd, F, F.fn.okD El (by walk_at "lE") fun cdv A outer s H E hr => ⟨_, (Ad (Al 2 El.nd (Ac (dv 0) Ab)) (Ad (Al 3 El.nd (Ac (dv 0) Ab)) (Ad (Al 4 El.nd (Bk (dv 1) (CV (Bj (dv 1) (dv 2)) (Ak Ab (IV T.z_abs (Aa (dv 3) Af)))))) (Ah (Aq (Bp (Aa Ab (Aa (HS Ab) (Aa Ab (Aa (Br (Bj (dv 2) (dv 4)) (Ak Ab (dv 3))) Af)))))))))), fun ds Q h => ?_⟩⟩
  obtain ⟨⟨⟨a, b, c⟩, top⟩, rfl, ⟨⟨_, _, hc⟩, h0⟩, q⟩ := h
  have hc : Bt 8000 c := hc
  have h0 : c ≠ 0 := h0
  have two : Bt 2 2 := Bt.of_abs (by decide)
  have hac : 2 * ab c ≠ 0 := by rcases Aw c with ⟨_, e⟩ | ⟨_, e⟩ <;> omega
  walk_at "go"
  exact ⟨two.mulOk (V1 hc), hac, two.mulOk hc, Bt.divOk (two.mul hc) (by omega), Av (by decide), q _ rfl⟩
abbrev Jw (f : I3) (t : I4) : Dt := .tup [t3 f, t4 t]
abbrev Es : DSp := BX (fun p : I3 × I4 × Int => [Jw p.1 p.2.1, .int p.2.2]) (fun p => B3 8000 p.1 ∧ p.1.2.2 ≠ 0 ∧ B4 300000 p.2.1 ∧ B4 5000 (Ce p.1 p.2.2)) fun p => Jw (mov p.1 (Ce p.1 p.2.2)) (Ao p.2.1 (Ce p.1 p.2.2))
theorem Nb (T : Txt K mg)
    (G_turn_behind : Pm P w K mg base 1 "turn_behind" DR ["form", "top"] Iz)
    (G_moved : Pm P w K mg base 3 "moved" Jh ["form", "turn"] Np)
    (G_put_behind : Pm P w K mg base 1 "put_behind" Dy ["one", "other"] G5)
    : Pm P w K mg base 4 "stop_behind" Dd ["stop", "top"] Es := by
  obtain ⟨f, fd, F⟩ := T.t_stop_behind
  refine ⟨f, fd, F, F.fn.okD Iw (by walk_at "lE") fun cdv A outer s H E hr => ⟨_, (Ad (Al 2 Iw.nd (Ag Ae G_turn_behind (hr.mono (by decide)) rfl (Aa (Ac (dv 0) Ab) (Aa (dv 1) Af)))) (Ah (Aq (Bp (Aa (Ag Ae G_moved (hr.mono (by decide)) rfl (Aa (Ac (dv 0) Ab) (Aa (dv 2) Af))) (Aa (Ag Ae G_put_behind (hr.mono (by decide)) rfl (Aa (Ac (dv 0) Ab) (Aa (dv 2) Af))) Af)))))), fun ds Q h => ?_⟩⟩
  obtain ⟨⟨f, t, top⟩, rfl, ⟨hf, h0, ht, hb⟩, q⟩ := h
  walk_at "go"
  exact Aj (f, top) ⟨hf, h0⟩ (Aj (f, Ce f top) ⟨B3.le hf (by decide), B4.le hb (by decide), Ck⟩ (Aj (t, Ce f top) ⟨B4.le ht (by decide), B4.le hb (by decide)⟩ ⟨Av (by decide), q _ rfl⟩))
def EI (far : Int) (f : I3) : Nat → I4
  | 0 => (1, 0, 0, 1)
  | k + 1 => Ao (EI far f k) (Ce (mov f (EI far f k)) (if far > ab (mov f (EI far f k)).2.2 then far else ab (mov f (EI far f k)).2.2))
def NK (far : Int) (f : I3) (t : I4) : Prop := ∃ k, t = EI far f k ∧ (∀ i, i < k → ¬ Level (mov f (EI far f i)) far) ∧ Level (mov f (EI far f k)) far
theorem NK.uniq {far : Int} {f : I3} {t u : I4} (a : NK far f t) (b : NK far f u) : t = u := by
  obtain ⟨k, rfl, n1, h1⟩ := a
  obtain ⟨l, rfl, n2, h2⟩ := b
  rcases Nat.lt_trichotomy k l with z | z | z
  · exact absurd h1 (n2 k z)
  · rw [z]
  · exact absurd h2 (n1 l z)
def Ahp (f : I3) (d : Dt) : Prop := ∃ (t : I4) (far : Int), d = Jw (mov f t) t ∧ det t = 1 ∧ Sq (meas f) far ∧ Level (mov f t) far ∧ B4 7600 t ∧ NK far f t
abbrev Ua : DSp := spec (fun f : I3 => [t3 f]) (fun f => B3 1500 f ∧ Sad f) Ahp
theorem Ot {f : I3} (S : Sad f) : 0 ≤ meas f ∧ Bt 4000 (meas f) := by
  have := S.pos
  have := S.most
  exact ⟨by omega, Bt.le (n := 13) (Bt.of (by omega) (by omega)) (by decide)⟩
theorem YH (T : Txt K mg)
    (G_check_saddle : Pm P w K mg base 4 "check_saddle" CG ["form"] FZ)
    (G_root : Pm P w K mg base 1 "root" JV ["number"] MK)
    (G_measure : Pm P w K mg base 1 "measure" CK ["form"] Dq)
    (G_stands_level : Pm P w K mg base 1 "stands_level" Dm ["form", "far"] Ij)
    (G_stop_behind : Pm P w K mg base 4 "stop_behind" Dd ["stop", "top"] Es)
    : Pm P w K mg base 5 "eased" KQ ["form"] Ua := by
  obtain ⟨f, fd, F⟩ := T.t_eased
  obtain ⟨a_SAME, m_SAME, q_SAME⟩ := T.k_SAME
  refine ⟨f, fd, F, F.fn.okD Ky (by walk_at "lE") fun cdv A outer s H E hr => ⟨_, (Ad (DY (Ag Ae G_check_saddle (hr.mono (by decide)) rfl (Aa (dv 0) Af))) (Ad (Al 1 Ky.nd (Ag Ae G_root (hr.mono (by decide)) rfl (Aa (Ag Ae G_measure (hr.mono (by decide)) rfl (Aa (dv 0) Af)) Af))) (Ad (Al 2 Ky.nd (Bp (Aa (dv 0) (Aa (MN (v := .ref a_SAME) rfl m_SAME rfl q_SAME) Af)))) (Ad (Dl PassesOwn.never (Iv (G9 (Ag Ae G_stands_level (hr.mono (by decide)) rfl (Aa (Ac (dv 2) Ab) (Aa (dv 1) Af))))) (Ah (Al 2 Ky.nd (Ag Ae G_stop_behind (hr.mono (by decide)) rfl (Aa (dv 2) (Aa (Zq T.z_max (Aa (IV T.z_abs (Aa (Ac (Ac (dv 2) Ab) Ab) Af)) (Aa (dv 1) Af))) Af)))))) (Ah (Aq (dv 2))))))), fun ds Q h => ?_⟩⟩
  obtain ⟨f, rfl, ⟨hb, hS⟩, q⟩ := h
  have hS : Sad f := hS
  have hb : B3 1500 f := hb
  walk_at "go"
  refine Aj f ⟨hb, hS⟩ (Aj f (hb.le (by decide)) (Ba (meas f) (Ot hS) ?_))
  rintro _ ⟨far, rfl, hr', hfb⟩
  walk_at "rd"
  refine ⟨Av (by decide), ?_⟩
  refine Ds (fun m ρ => ∃ k, (∀ i, i < k → ¬ Level (mov f (EI far f i)) far) ∧ ρ = [some (.is (t3 f)), some (.is (.int far)), some (.is (Jw (mov f (EI far f k)) (EI far f k)))] ∧ Mu 1500 far f (EI far f k) ∧ m = eM far (mov f (EI far f k))) _ ⟨0, fun _ h => absurd h (by omega), by show _ = [_, _, some (En.is (Jw (mov f (1, 0, 0, 1)) (1, 0, 0, 1)))]; rw [Cj], Mu.start (by decide) hb, rfl⟩ ?_
  rintro m _ ⟨k, nl, rfl, hI, rfl⟩
  have ek : EI far f (k + 1) = Ao (EI far f k) (Ce (mov f (EI far f k)) (if far > ab (mov f (EI far f k)).2.2 then far else ab (mov f (EI far f k)).2.2)) := rfl
  obtain ⟨t, et⟩ : ∃ t, t = EI far f k := ⟨_, rfl⟩
  rw [← et] at hI ek ⊢
  have hd := hI.1
  have hg := hI.2.1
  have ht := hI.b4
  walk_at "rd"
  refine Aj (mov f t, far) (hg.le (by decide)) ?_
  walk_at "rd"
  by_cases hL : Level (mov f t) far
  · exact FP (by rw [decide_eq_true hL]; rfl) (q _ ⟨t, far, rfl, hd, hr', hL, ht.le (by decide), k, et, nl, by rw [← et]; exact hL⟩)
  · refine ift (by rw [decide_eq_false hL]; rfl) ?_
    have hst := Ql (by decide) hS hr' hI hL
    refine Aj (mov f t, t, _) ⟨hg.le (by decide), Ge (hS.mov hd), ht.le (by decide), hst.2.2.le (by decide)⟩ ?_
    dsimp only
    rw [Bd]
    refine ⟨_, hst.2.1, k + 1, fun i hi => ?_, by rw [ek]; rfl, by rw [ek]; exact hst.1, by rw [ek]⟩
    rcases Nat.lt_or_ge i k with z | z
    · exact nl i z
    · rw [show i = k by omega, ← et]; exact hL
structure J6 (f : I3) (t0 : I4) (far : Int) (N : Nat) : Prop where
  d : det t0 = 1
  r : Sq (meas f) far
  v : Lv far (mov f t0)
  b : B4 7600 t0
  n : 0 < N
  m : N ≤ 8128
  e : rF far N (mov f t0) = mov f t0
  l : ∀ j, 0 < j → j < N → rF far j (mov f t0) ≠ mov f t0
  a : NK far f t0
abbrev Ga (f : I3) (t0 : I4) (far : Int) (i : Nat) : Dt := Jw (rF far i (mov f t0)) (Ao t0 (rT far i (mov f t0)))
theorem J6.bt {f : I3} {t0 : I4} {far : Int} {N : Nat} (R : J6 f t0 far N) (i : Nat) (h : i ≤ N) : B4 90000 (Ao t0 (rT far i (mov f t0))) := by
  have := R.m
  exact (B4.then R.b (Ac6 i R.v)).le (by omega)
abbrev Jc : DSp := spec (fun f : I3 => [t3 f]) (fun f => B3 1500 f ∧ Sad f) fun f d => ∃ t0 far N, J6 f t0 far N ∧ d = .lst ((List.range (N + 1)).map (Ga f t0 far))
theorem AaU {n : Nat} (h : n ≤ 9000) : n < PySem.sizeLine := by unfold PySem.sizeLine; omega
theorem OD (T : Txt K mg)
    (G_root : Pm P w K mg base 1 "root" JV ["number"] MK)
    (G_eased : Pm P w K mg base 5 "eased" KQ ["form"] Ua)
    (G_stop_behind : Pm P w K mg base 4 "stop_behind" Dd ["stop", "top"] Es)
    (G_measure : Pm P w K mg base 1 "measure" CK ["form"] Dq)
    : Pm P w K mg base 6 "stops_round" DX ["form"] Jc := by
  obtain ⟨f, fd, F⟩ := T.t_stops_round
  refine ⟨f, fd, F, F.fn.okD CJ (by walk_at "lE") fun cdv A outer s H E hr => ⟨_, (Ad (Al 1 CJ.nd (Ag Ae G_root (hr.mono (by decide)) rfl (Aa (Ag Ae G_measure (hr.mono (by decide)) rfl (Aa (dv 0) Af)) Af))) (Ad (Al 2 CJ.nd (Ag Ae G_eased (hr.mono (by decide)) rfl (Aa (dv 0) Af))) (Ad (YM 3 CJ.nd (Aa (dv 2) Af)) (Ad (Al 4 CJ.nd (Ag Ae G_stop_behind (hr.mono (by decide)) rfl (Aa (dv 2) (Aa (dv 1) Af)))) (Ad (Dl PassesOwn.never (GF hr.units (Ac (dv 4) Ab) (Ac (dv 2) Ab)) (Ad (Va 3 (dv 4)) (Ah (Al 4 CJ.nd (Ag Ae G_stop_behind (hr.mono (by decide)) rfl (Aa (dv 4) (Aa (dv 1) Af))))))) (Ad (Va 3 (dv 4)) (Ah (Yl 3 (Aq (dv 3)))))))))), fun ds Q h => ?_⟩⟩
  obtain ⟨f, rfl, ⟨hb, hS⟩, q⟩ := h
  have hS : Sad f := hS
  have hb : B3 1500 f := hb
  walk_at "go"
  refine Aj f (hb.le (by decide)) (Ba (meas f) (Ot hS) ?_)
  rintro _ ⟨far, rfl, hr', hfb⟩
  refine Ba f ⟨hb, hS⟩ ?_
  rintro _ ⟨t0, far', rfl, dt, hs, hL, bt, ea⟩
  obtain rfl := hs.uniq hr'
  have hv : Lv far' (mov f t0) := ⟨hS.mov dt, by rw [Bq dt]; exact hs, hL⟩
  obtain ⟨N, n0, nm, ne, nl⟩ := Ml hv
  have R : J6 f t0 far' N := ⟨dt, hs, hv, bt, n0, nm, ne, nl, ea⟩
  walk_at "rd"
  refine ⟨Av (by decide), ?_⟩
  have stp : ∀ {Q : Dt → Prop} (i : Nat), i ≤ N → Q (Ga f t0 far' (i + 1)) → Es [Ga f t0 far' i, .int far'] Q := fun {Q} i hi h => by
    have hi' := Lv.rF i hv
    refine Aj (rF far' i (mov f t0), Ao t0 (rT far' i (mov f t0)), far') ⟨(Ka hi'.S hi'.r hi'.L).le (by decide), Ge hi'.S, (R.bt i hi).le (by decide), (O8 (Wy hi') (by decide)).le (by decide)⟩ ?_
    have h : Q (Jw (rF far' (i + 1) (mov f t0)) (Ao t0 (rT far' (i + 1) (mov f t0)))) := h
    rw [Rg, VJ, ← then_assoc] at h
    exact h
  have e0 : Jw (mov f t0) t0 = Ga f t0 far' 0 := by
    show Jw (mov f t0) t0 = Jw (mov f t0) (Ao t0 (1, 0, 0, 1))
    rw [Gk]
  rw [e0]
  refine stp 0 (by omega) ?_
  have last : (List.range (N + 1)).map (Ga f t0 far') = (List.range N).map (Ga f t0 far') ++ [Ga f t0 far' N] := by rw [List.range_succ, List.map_append]; rfl
  refine Ds (fun m ρ => ∃ i : Nat, 1 ≤ i ∧ i ≤ N ∧ ρ = [some (.is (t3 f)), some (.is (.int far')), some (.is (Ga f t0 far' 0)), some (.own ((List.range i).map (Ga f t0 far'))), some (.is (Ga f t0 far' i))] ∧ m = N - i) _ ⟨1, by omega, by omega, rfl, rfl⟩ ?_
  rintro m _ ⟨i, i1, iN, rfl, rfl⟩
  walk_at "rd"
  have hl : (List.range i).length < sizeLine := by rw [List.length_range]; exact AaU (by omega)
  refine Ek (fun hw => ?_) (fun hw => ?_)
  · have hi : i < N := by
      rcases Nat.lt_or_ge i N with z | z
      · exact z
      · exfalso
        have : i = N := by omega
        subst this
        rw [ne] at hw
        simp [rF] at hw
    refine ⟨hl, stp i iN ⟨N - (i + 1), by omega, i + 1, by omega, by omega, ?_, rfl⟩⟩
    rw [List.range_succ, List.map_append]; rfl
  · have hi : i = N := by
      rcases Nat.lt_or_ge i N with z | z
      · exfalso
        refine nl i (by omega) z ?_
        have hw : rF far' i (mov f t0) = rF far' 0 (mov f t0) := by
          generalize rF far' i (mov f t0) = g at *
          generalize rF far' 0 (mov f t0) = g' at *
          obtain ⟨a, b, c⟩ := g
          obtain ⟨a', b', c'⟩ := g'
          simp at hw
          obtain ⟨h1, h2, h3⟩ := hw
          rw [h1, h2, h3]
        exact hw
      · omega
    subst hi
    refine ⟨hl, q _ ⟨t0, far', i, R, ?_⟩⟩
    rw [last]
def Er (f : I3) : List Int := [f.1, f.2.1, f.2.2]
def AeP (t : I4) : List Int := [t.1, t.2.1, t.2.2.1, t.2.2.2]
def AiS (f : I3) (t0 : I4) (far : Int) (N : Nat) : List (List Int × List Int) := (List.range (N + 1)).map fun i => (Er (rF far i (mov f t0)), AeP (Ao t0 (rT far i (mov f t0))))
def Low (f : I3) (d : Dt) : Prop := ∃ t0 far N j, J6 f t0 far N ∧ j ≤ N ∧ (∀ i, i ≤ N → HT.lexLt (Er (rF far i (mov f t0))) (Er (rF far j (mov f t0))) = false) ∧ d = Ga f t0 far j ∧ j = JN (AiS f t0 far N)
abbrev Oc : DSp := spec (fun f : I3 => [t3 f]) (fun f => B3 1500 f ∧ Sad f) Low
theorem Oo (bt : Nat → Nat → Bool) : ∀ k, argBest bt k ≤ k
  | 0 => Nat.le_refl _
  | k + 1 => by
    have := Oo bt k
    unfold argBest
    split <;> omega
theorem G6 (bt : Nat → Nat → Bool) (ir : ∀ i, bt i i = false) (tr : ∀ a b c, bt a b = true → bt b c = true → bt a c = true) : ∀ k j, j ≤ k → bt j (argBest bt k) = false
  | 0, j, h => by
    have : j = 0 := by omega
    subst this
    exact ir 0
  | k + 1, j, h => by
    unfold argBest
    split
    · rename_i hb
      rcases Nat.lt_or_ge j (k + 1) with z | z
      · cases q : bt j (k + 1) with
        | false => rfl
        | true =>
          have := G6 bt ir tr k j (by omega)
          rw [tr _ _ _ q hb] at this
          cases this
      · have : j = k + 1 := by omega
        subst this
        exact ir _
    · rename_i hb
      rcases Nat.lt_or_ge j (k + 1) with z | z
      · exact G6 bt ir tr k j (by omega)
      · have : j = k + 1 := by omega
        subst this
        simpa using hb
theorem U7 : ∀ a b c : List Int, HT.lexLt a b = true → HT.lexLt b c = true → HT.lexLt a c = true
  | [], [], _, h, _ => by cases h
  | [], _ :: _, [], _, h => by cases h
  | [], _ :: _, _ :: _, _, _ => rfl
  | _ :: _, [], _, h, _ => by cases h
  | _ :: _, _ :: _, [], _, h => by cases h
  | x :: a, y :: b, z :: c, h1, h2 => by
    rw [HT.Ed] at h1 h2 ⊢
    by_cases e1 : x = y
    · subst e1
      rw [if_pos rfl] at h1
      by_cases e2 : x = z
      · subst e2
        rw [if_pos rfl] at h2 ⊢
        exact U7 a b c h1 h2
      · rw [if_neg e2] at h2 ⊢
        exact h2
    · rw [if_neg e1] at h1
      have h1 := of_decide_eq_true h1
      by_cases e2 : y = z
      · subst e2
        rw [if_neg e1]
        exact decide_eq_true h1
      · rw [if_neg e2] at h2
        have h2 := of_decide_eq_true h2
        rw [if_neg (by omega)]
        exact decide_eq_true (by omega)
theorem Ab5 (a b c : List Int × List Int) (h1 : Eu a b = true) (h2 : Eu b c = true) : Eu a c = true := by
  unfold Eu at *
  by_cases e1 : a.1 = b.1
  · rw [if_pos e1] at h1
    by_cases e2 : b.1 = c.1
    · rw [if_pos e2] at h2
      rw [if_pos (e1.trans e2)]
      exact U7 _ _ _ h1 h2
    · rw [if_neg e2] at h2
      rw [if_neg (by rw [e1]; exact e2), e1]
      exact h2
  · rw [if_neg e1] at h1
    by_cases e2 : b.1 = c.1
    · rw [← e2, if_neg e1]
      exact h1
    · rw [if_neg e2] at h2
      have h3 := U7 _ _ _ h1 h2
      by_cases e3 : a.1 = c.1
      · rw [e3, KN] at h3
        cases h3
      · rw [if_neg e3]
        exact h3
theorem Z9 (a : List Int × List Int) : Eu a a = false := by
  unfold Eu
  rw [if_pos rfl, KN]
theorem Y8 {a b : List Int × List Int} (h : Eu a b = false) : HT.lexLt a.1 b.1 = false := by
  unfold Eu at h
  by_cases e : a.1 = b.1
  · rw [e]; exact KN _
  · rw [if_neg e] at h; exact h
theorem Vx (T : Txt K mg)
    (G_check_saddle : Pm P w K mg base 4 "check_saddle" CG ["form"] FZ)
    (G_stops_round : Pm P w K mg base 6 "stops_round" DX ["form"] Jc)
    : Pm P w K mg base 7 "lowered" Hy ["form"] Oc := by
  obtain ⟨f, fd, F⟩ := T.t_lowered
  refine ⟨f, fd, F, F.fn.okD Us (by walk_at "lE") fun cdv A outer s H E hr => ⟨_, (Ad (DY (Ag Ae G_check_saddle (hr.mono (by decide)) rfl (Aa (dv 0) Af))) (Ah (Aq (Aa4 T.z_min (Ad6 hr.units) (Aa (Ag Ae G_stops_round (hr.mono (by decide)) rfl (Aa (dv 0) Af)) Af))))), fun ds Q h => ?_⟩⟩
  obtain ⟨f, rfl, ⟨hb, hS⟩, q⟩ := h
  walk_at "go"
  refine Aj f ⟨hb, hS⟩ (Ba f ⟨hb, hS⟩ ?_)
  rintro _ ⟨t0, far, N, R, rfl⟩
  have nm := R.m
  let ps : List (List Int × List Int) := (List.range (N + 1)).map fun i => (Er (rF far i (mov f t0)), AeP (Ao t0 (rT far i (mov f t0))))
  have lp : ps.length = N + 1 := by show ((List.range (N + 1)).map _).length = _; rw [List.length_map, List.length_range]
  have ep : (List.range (N + 1)).map (Ga f t0 far) = ps.map LC := by
    show _ = ((List.range (N + 1)).map _).map LC
    rw [List.map_map]
    rfl
  have at' : ∀ i, i ≤ N → ps.getD i ([], []) = (Er (rF far i (mov f t0)), AeP (Ao t0 (rT far i (mov f t0)))) := fun i hi => by
    show ((List.range (N + 1)).map _).getD i _ = _
    simp [List.getD, show i < N + 1 by omega]
  have kl : JN ps ≤ N := by
    have := Oo (fun i j => Eu (ps.getD i ([], [])) (ps.getD j ([], []))) (ps.length - 1)
    unfold JN
    omega
  have least : ∀ i, i ≤ N → Eu (ps.getD i ([], [])) (ps.getD (JN ps) ([], [])) = false := fun i hi =>
    G6 (fun i j => Eu (ps.getD i ([], [])) (ps.getD j ([], []))) (fun _ => Z9 _) (fun _ _ _ h1 h2 => Ab5 _ _ _ h1 h2) _ i (by omega)
  refine ⟨ps, by rw [ep], by omega, by omega, q _ ⟨t0, far, N, JN ps, R, kl, fun i hi => ?_, ?_, rfl⟩⟩
  · have := Y8 (least i hi)
    rw [at' i hi, at' _ kl] at this
    exact this
  · rw [at' _ kl]
    rfl
abbrev Xq (c : Str) (f : I3) (d : Dt) : Dt := .obj c ["form", "measure", "lowest"] [t3 f, .int (meas f), d]
abbrev Lz : DIn := QC (fun p : I3 × Dt => [t3 p.1, p.2]) (fun p => B3 1500 p.1) fun p fds => fds = [t3 p.1, .int (meas p.1), p.2]
abbrev Uh : DIn := QC (fun f : I3 => [t3 f]) (fun f => B3 1500 f ∧ Bf f) fun f fds => ∃ d, Jj f d ∧ fds = [t3 f, .int (meas f), d]
abbrev O6 : DIn := QC (fun f : I3 => [t3 f]) (fun f => B3 1500 f ∧ Sad f) fun f fds => ∃ d, Low f d ∧ fds = [t3 f, .int (meas f), d]
theorem Xh (T : Txt K mg)
    (G_measure : Pm P w K mg base 1 "measure" CK ["form"] Dq)
    : PmC P w K mg base 2 "Shape" ["form", "measure", "lowest"] Lz := by
  obtain ⟨g, fd, M, F, B⟩ := T.cm_Shape
  refine ⟨g, fd, _, M, B, F.ok XD (fun vs H Q E ⟨x, C, dx, ys, F', ds, e, _, _, _, _, _, r, h⟩ => by obtain ⟨p, ed, _⟩ := h; rw [e, List.length_cons, r.len, ed]; rfl) fun cdv A outer s H vs Q E hr ⟨x, C, dx, ys, F', ds, e, hx, cl, no, xF, th, r, h⟩ => ?_⟩
  subst e
  refine ⟨_, Yw (dv 1) (Ag Ae G_measure (hr.mono (by decide)) rfl (Aa (dv 1) Af)) (dv 2) (by decide) (by decide) (by decide), mask [x] H, F', Ia ["self", "form", "lowest"] ds, x, C, dx, (fun fds : List Dt => ∀ (ws : List V) (H' : Hp), Same (mask [x] H) H' → H' x = some (.ins C dx (List.zip ["form", "measure", "lowest"] ws)) → List.length ["form", "measure", "lowest"] = fds.length → RpL K (mask F' H') fds ws → Q .non H'), J5 xF th r, xF, CW (by simp), rfl, hx, cl, no, ?_, fun fds w ws H' s1 h1 h2 h3 => w ws H' s1 h1 h2 h3⟩
  revert h
  generalize (fun fds : List Dt => ∀ (ws : List V) (H' : Hp), Same (mask [x] H) H' → H' x = some (.ins C dx (List.zip ["form", "measure", "lowest"] ws)) → List.length ["form", "measure", "lowest"] = fds.length → RpL K (mask F' H') fds ws → Q .non H') = S
  intro h
  obtain ⟨⟨f, l⟩, rfl, hb, hq⟩ := h
  have hb : B3 1500 f := hb
  have e : Ia ["self", "form", "lowest"] [t3 f, l] = [none, some (.is (t3 f)), some (.is l)] := rfl
  dsimp only
  rw [e]
  walk_at "rd"
  exact Aj f (hb.le (by decide)) (hq _ rfl)
theorem Aal (T : Txt K mg)
    (GC_Shape : PmC P w K mg base 2 "Shape" ["form", "measure", "lowest"] Lz)
    (G_settled : Pm P w K mg base 5 "settled" Hv ["form"] Oz)
    : PmI P w K mg base 6 "Bowl" ["form", "measure", "lowest"] Uh := by
  obtain ⟨C0, f, fd, M, F, B⟩ := T.o_Bowl
  obtain ⟨gC, fdC, psC, MC, BC, GC⟩ := GC_Shape
  refine ⟨C0, f, fd, _, M, B, F.ok YX (fun vs H Q E ⟨x, C, dx, ys, F', ds, e, _, _, _, _, _, r, h⟩ => by obtain ⟨p, ed, _⟩ := h; rw [e, List.length_cons, r.len, ed]; rfl) fun cdv A outer s H vs Q E hr ⟨x, C, dx, ys, F', ds, e, hx, cl, no, xF, th, r, h⟩ => ?_⟩
  subst e
  refine ⟨_, SJ Ie MC rfl GC BC (hr.mono (by decide)) (Aa (dv 1) (Aa (Ag Ae G_settled (hr.mono (by decide)) rfl (Aa (dv 1) Af)) Af)), mask [x] H, F', Ia ["self", "form"] ds, x, C, dx, (fun fds : List Dt => ∀ (ws : List V) (H' : Hp), Same (mask [x] H) H' → H' x = some (.ins C dx (List.zip ["form", "measure", "lowest"] ws)) → List.length ["form", "measure", "lowest"] = fds.length → RpL K (mask F' H') fds ws → Q .non H'), J5 xF th r, xF, CW (by simp), rfl, hx, cl, no, ?_, fun fds w ws H' s1 h1 h2 h3 => w ws H' s1 h1 h2 h3⟩
  revert h
  generalize (fun fds : List Dt => ∀ (ws : List V) (H' : Hp), Same (mask [x] H) H' → H' x = some (.ins C dx (List.zip ["form", "measure", "lowest"] ws)) → List.length ["form", "measure", "lowest"] = fds.length → RpL K (mask F' H') fds ws → Q .non H') = S
  intro h
  obtain ⟨f, rfl, ⟨hb, hw⟩, hq⟩ := h
  have e : Ia ["self", "form"] [t3 f] = [none, some (.is (t3 f))] := rfl
  rw [e]
  walk_at "rd"
  refine Ba f ⟨hb, hw⟩ fun d hd => ?_
  refine Kl (f, d) hb ?_
  rintro _ rfl
  exact hq _ ⟨d, hd, rfl⟩
theorem Um (T : Txt K mg)
    (GC_Shape : PmC P w K mg base 2 "Shape" ["form", "measure", "lowest"] Lz)
    (G_lowered : Pm P w K mg base 7 "lowered" Hy ["form"] Oc)
    : PmI P w K mg base 8 "Saddle" ["form", "measure", "lowest"] O6 := by
  obtain ⟨C0, f, fd, M, F, B⟩ := T.o_Saddle
  obtain ⟨gC, fdC, psC, MC, BC, GC⟩ := GC_Shape
  refine ⟨C0, f, fd, _, M, B, F.ok Vt (fun vs H Q E ⟨x, C, dx, ys, F', ds, e, _, _, _, _, _, r, h⟩ => by obtain ⟨p, ed, _⟩ := h; rw [e, List.length_cons, r.len, ed]; rfl) fun cdv A outer s H vs Q E hr ⟨x, C, dx, ys, F', ds, e, hx, cl, no, xF, th, r, h⟩ => ?_⟩
  subst e
  refine ⟨_, SJ Ie MC rfl GC BC (hr.mono (by decide)) (Aa (dv 1) (Aa (Ag Ae G_lowered (hr.mono (by decide)) rfl (Aa (dv 1) Af)) Af)), mask [x] H, F', Ia ["self", "form"] ds, x, C, dx, (fun fds : List Dt => ∀ (ws : List V) (H' : Hp), Same (mask [x] H) H' → H' x = some (.ins C dx (List.zip ["form", "measure", "lowest"] ws)) → List.length ["form", "measure", "lowest"] = fds.length → RpL K (mask F' H') fds ws → Q .non H'), J5 xF th r, xF, CW (by simp), rfl, hx, cl, no, ?_, fun fds w ws H' s1 h1 h2 h3 => w ws H' s1 h1 h2 h3⟩
  revert h
  generalize (fun fds : List Dt => ∀ (ws : List V) (H' : Hp), Same (mask [x] H) H' → H' x = some (.ins C dx (List.zip ["form", "measure", "lowest"] ws)) → List.length ["form", "measure", "lowest"] = fds.length → RpL K (mask F' H') fds ws → Q .non H') = S
  intro h
  obtain ⟨f, rfl, ⟨hb, hw⟩, hq⟩ := h
  have e : Ia ["self", "form"] [t3 f] = [none, some (.is (t3 f))] := rfl
  rw [e]
  walk_at "rd"
  refine Ba f ⟨hb, hw⟩ fun d hd => ?_
  refine Kl (f, d) hb ?_
  rintro _ rfl
  exact hq _ ⟨d, hd, rfl⟩
abbrev QB : DSp := BX (fun p : Str × I3 × Dt => [Xq p.1 p.2.1 p.2.2]) (fun p => p.1 = "Bowl" ∨ p.1 = "Saddle") fun p => p.2.2
theorem W7 (T : Txt K mg)
    : PmM P w K mg base 1 ["Bowl", "Saddle"] "least" QB := by
  obtain ⟨g, fd, hm, kp, F, B⟩ := T.me_least
  refine ⟨g, fd, _, hm, kp, B, F.okD Xf (by walk_at "lE") fun cdv A outer s H E hr => ⟨_, (Ah (Aq (MF (dv 0)))), fun ds Q h => ?_⟩⟩
  obtain ⟨⟨c, f, d⟩, rfl, hc, q⟩ := h
  have q' := q _ rfl
  walk_at "go"
  have na : PB K c "lowest" := by
    rcases hc with e | e
    · have e : c = "Bowl" := e
      rw [e]; exact T.na_Bowl_lowest
    · have e : c = "Saddle" := e
      rw [e]; exact T.na_Saddle_lowest
  exact ⟨na, d, rfl, q'⟩
abbrev GX : DSp := spec (fun f : I3 => [t3 f]) (fun f => B3 1500 f ∧ (Bf f ∨ Sad f)) fun f d => ∃ l, (Bf f ∧ Jj f l ∧ d = Xq "Bowl" f l) ∨ (Sad f ∧ Low f l ∧ d = Xq "Saddle" f l)
theorem TY (T : Txt K mg)
    (GI_Bowl : PmI P w K mg base 6 "Bowl" ["form", "measure", "lowest"] Uh)
    (GI_Saddle : PmI P w K mg base 8 "Saddle" ["form", "measure", "lowest"] O6)
    (G_shape : Pm P w K mg base 3 "shape" HB ["form"] Kz)
    : Pm P w K mg base 10 "shape_of" Ec ["form"] GX := by
  obtain ⟨f, fd, F⟩ := T.t_shape_of
  refine ⟨f, fd, F, F.fn.okD S5 (by walk_at "lE") fun cdv A outer s H E hr => ⟨_, (Ad (Cr (SN hr.units (Ag Ae G_shape (hr.mono (by decide)) rfl (Aa (dv 0) Af)) J4) (Ah (Aq (Tt Ie GI_Bowl (hr.mono (by decide)) rfl (Aa (dv 0) Af)))) Bl) (Ah (Aq (Tt Ie GI_Saddle (hr.mono (by decide)) rfl (Aa (dv 0) Af))))), fun ds Q h => ?_⟩⟩
  obtain ⟨f, rfl, ⟨hb, hw⟩, q⟩ := h
  have hb : B3 1500 f := hb
  have hw : Bf f ∨ Sad f := hw
  walk_at "go"
  refine Ba f hb ?_
  rintro _ hs
  have fb : ∀ x : Str, (PySem.PyData.str x).canLay0 = true → Dt.flat 8 (.str x) = true := fun x h => by rw [R9]; exact h
  have f1 : Dt.flat 8 (.str "bowl") = true := fb _ (by decide +kernel)
  have f2 : Dt.flat 8 (.str "saddle") = true := fb _ (by decide +kernel)
  have mkS : Sad f → QC (fun f : I3 => [t3 f]) (fun f => B3 1500 f ∧ Sad f) (fun f fds => ∃ d, Low f d ∧ fds = [t3 f, Dt.int (meas f), d]) [t3 f] fun fds => Q (Dt.obj "Saddle" ["form", "measure", "lowest"] fds) := fun hS => by
    refine Kl f ⟨hb, hS⟩ ?_
    rintro _ ⟨l, hl, rfl⟩
    exact q _ ⟨l, .inr ⟨hS, hl, rfl⟩⟩
  cases hs with
  | flat z =>
    rcases hw with hw | hw
    · exact absurd z (Og hw.2)
    · exact absurd z hw.no
  | saddle _ z =>
    rcases hw with hw | hw
    · have := hw.2; omega
    · exact ⟨⟨f2, f1⟩, FP (by rw [Ue]; rfl) (mkS hw)⟩
  | dome _ z1 z2 =>
    rcases hw with hw | hw
    · exact absurd hw.1 z2
    · exact absurd hw.pos z1
  | bowl _ z1 z2 =>
    rcases hw with hw | hw
    · refine ⟨⟨f1, f1⟩, ift (by rw [Ue]; rfl) (Kl f ⟨hb, hw⟩ ?_)⟩
      rintro _ ⟨l, hl, rfl⟩
      exact q _ ⟨l, .inl ⟨hw, hl, rfl⟩⟩
    · exact absurd hw.pos z1
def LF (f g : I3) : Prop := (Bf f ∧ ∃ t, det t = 1 ∧ Ci (mov f t) ∧ g = mov f t) ∨ (Sad f ∧ ∃ t0 far N j, J6 f t0 far N ∧ j ≤ N ∧ (∀ i, i ≤ N → HT.lexLt (Er (rF far i (mov f t0))) (Er (rF far j (mov f t0))) = false) ∧ g = rF far j (mov f t0))
theorem V2 {f g : I3} (h1 : HT.lexLt (Er f) (Er g) = false) (h2 : HT.lexLt (Er g) (Er f) = false) : f = g := by
  obtain ⟨x1, x2, x3⟩ := f
  obtain ⟨y1, y2, y3⟩ := g
  simp only [Er, HT.Ed, HT.Fv] at h1 h2
  have e1 : x1 = y1 := by
    rcases Int.lt_trichotomy x1 y1 with z | z | z
    · rw [if_neg (by omega)] at h1; simp at h1; omega
    · exact z
    · rw [if_neg (by omega)] at h2; simp at h2; omega
  subst e1
  rw [if_pos rfl] at h1 h2
  have e2 : x2 = y2 := by
    rcases Int.lt_trichotomy x2 y2 with z | z | z
    · rw [if_neg (by omega)] at h1; simp at h1; omega
    · exact z
    · rw [if_neg (by omega)] at h2; simp at h2; omega
  subst e2
  rw [if_pos rfl] at h1 h2
  have e3 : x3 = y3 := by
    rcases Int.lt_trichotomy x3 y3 with z | z | z
    · rw [if_neg (by omega)] at h1; simp at h1; omega
    · exact z
    · rw [if_neg (by omega)] at h2; simp at h2; omega
  rw [e3]
theorem J0 {far : Int} {g : I3} {N : Nat} (e : rF far N g = g) : ∀ q, rF far (N * q) g = g
  | 0 => rfl
  | q + 1 => by rw [Nat.mul_succ, Ez, J0 e q, e]
theorem MP {far : Int} {g : I3} {N : Nat} (e : rF far N g = g) (n0 : 0 < N) (n : Nat) : ∃ i, i ≤ N ∧ rF far n g = rF far i g := by
  have h1 := Nat.mod_lt n n0
  have h2 := Nat.div_add_mod n N
  refine ⟨n % N, by omega, ?_⟩
  have : rF far (N * (n / N) + n % N) g = rF far (n % N) g := by rw [Ez, J0 e]
  rw [h2] at this
  exact this
theorem Jk {far : Int} {g h : I3} {N m : Nat} (e : rF far N h = h) (n0 : 0 < N) (k : rF far m h = g) : ∃ j, rF far j g = h := by
  refine ⟨N * m - m, ?_⟩
  rw [← k, ← Ez]
  have : m ≤ N * m := Nat.le_mul_of_pos_left m n0
  rw [show m + (N * m - m) = N * m by omega, J0 e]
theorem LF.uniq {f g h : I3} (A : LF f g) (B : LF f h) : g = h := by
  rcases A with ⟨hb, t, dt, Lt, rfl⟩ | ⟨hS, t0, far, N, j, R, jl, lj, rfl⟩ <;> rcases B with ⟨hb', u, du, Lu, rfl⟩ | ⟨hS', t1, far1, N1, k, R1, kl, lk, rfl⟩
  · have e : mov (mov f t) (Ao (Ar t) u) = mov f u := by rw [← Bd, Bv dt]
    have := Ci.one Lt (t := Ao (Ar t) u) (by rw [e]; exact Lu) (by rw [Ca, Cy, dt, du]; rfl)
    rw [e] at this
    exact this.symm
  · have := hb.2; have := hS'.pos; omega
  · have := hb'.2; have := hS.pos; omega
  · have ef : far = far1 := R.r.uniq R1.r
    subst ef
    have e1 : mov (mov f t0) (Ao (Ar t0) t1) = mov f t1 := by rw [← Bd, Bv R.d]
    have d1 : det (Ao (Ar t0) t1) = 1 := by rw [Ca, Cy, R.d, R1.d]; rfl
    have en : N = N1 := (QL R.v R1.v d1 e1 R.e R.l R1.e R1.l R.n R1.n).1
    subst en
    have hm : ∃ m, rF far m (mov f t0) = mov f t1 := by
      rcases Oi R.v R1.v d1 e1 with ⟨m, s⟩ | ⟨m, s⟩
      · exact ⟨m, by rw [← Gb, ← s.mov, e1]⟩
      · have e2 : mov (mov f t1) (Ar (Ao (Ar t0) t1)) = mov f t0 := by rw [← e1, Bv d1]
        exact Jk (m := m) R1.e R1.n (by rw [← Gb, ← s.mov, e2])
    obtain ⟨m, hm⟩ := hm
    obtain ⟨m', hm'⟩ := Jk R.e R.n hm
    obtain ⟨i1, a1, b1⟩ := MP R.e R.n (m + k)
    obtain ⟨i2, a2, b2⟩ := MP R1.e R1.n (m' + j)
    have h1 := lj i1 a1
    have h2 := lk i2 a2
    rw [← b1, Ez, hm] at h1
    rw [← b2, Ez, hm'] at h2
    exact (V2 h1 h2).symm
theorem Aaf {f : I3} {l : Dt} (h : (Bf f ∧ Jj f l) ∨ (Sad f ∧ Low f l)) : ∃ g : I3, ∃ x : Dt, l = .tup [t3 g, x] ∧ LF f g := by
  rcases h with ⟨hb, t, rfl, dt, L, _⟩ | ⟨hS, t0, far, N, j, R, jl, lj, rfl, _⟩
  · exact ⟨_, _, rfl, .inl ⟨hb, t, dt, L, rfl⟩⟩
  · exact ⟨_, _, rfl, .inr ⟨hS, t0, far, N, j, R, jl, lj, rfl⟩⟩
abbrev LQ : DSp := spec (fun f : I3 => [t3 f]) (fun f => B3 1500 f ∧ (Bf f ∨ Sad f)) fun f d => ∃ g, d = t3 g ∧ LF f g
theorem S7 (T : Txt K mg)
    (G_shape_of : Pm P w K mg base 10 "shape_of" Ec ["form"] GX)
    : Pm P w K mg base 11 "least_of" GD ["form"] LQ := by
  obtain ⟨f, fd, F⟩ := T.t_least_of
  refine ⟨f, fd, F, F.fn.okD Ud (by walk_at "lE") fun cdv A outer s H E hr => ⟨_, (Ah (Aq (Ac (MF (Ag Ae G_shape_of (hr.mono (by decide)) rfl (Aa (dv 0) Af))) Ab))), fun ds Q h => ?_⟩⟩
  obtain ⟨f, rfl, ⟨hb, hw⟩, q⟩ := h
  walk_at "go"
  refine Ba f ⟨hb, hw⟩ ?_
  rintro _ ⟨l, ⟨hf, hl, rfl⟩ | ⟨hf, hl, rfl⟩⟩
  · obtain ⟨g, x, rfl, L⟩ := Aaf (.inl ⟨hf, hl⟩)
    walk_at "rd"
    exact ⟨T.na_Bowl_lowest, _, rfl, q _ ⟨g, rfl, L⟩⟩
  · obtain ⟨g, x, rfl, L⟩ := Aaf (.inr ⟨hf, hl⟩)
    walk_at "rd"
    exact ⟨T.na_Saddle_lowest, _, rfl, q _ ⟨g, rfl, L⟩⟩
def Nv (f : I3) (l : Dt) : Prop := (Bf f ∧ Jj f l) ∨ (Sad f ∧ Low f l)
theorem Nv.uniq {f : I3} {l m : Dt} (A : Nv f l) (B : Nv f m) : l = m := by
  rcases A with ⟨hb, t, rfl, _, _, _, a⟩ | ⟨hS, t0, far, N, j, R, _, _, rfl, ej⟩ <;> rcases B with ⟨hb', u, rfl, _, _, _, b⟩ | ⟨hS', t1, far1, N1, k, R1, _, _, rfl, ek⟩
  · rw [a.uniq b]
  · have := hb.2; have := hS'.pos; omega
  · have := hb'.2; have := hS.pos; omega
  · have ef : far = far1 := R.r.uniq R1.r
    subst ef
    have et := R.a.uniq R1.a
    subst et
    have en : N = N1 := by
      rcases Nat.lt_trichotomy N N1 with z | z | z
      · exact absurd R.e (R1.l N R.n z)
      · exact z
      · exact absurd R1.e (R.l N1 R1.n z)
    subst en
    rw [ej, ek]
theorem LF.same {f h g g' : I3} {x : I4} (A : LF f g) (B : LF h g') (dx : det x = 1) (ex : mov f x = h) : g = g' := by
  have hm : meas h = meas f := by rw [← ex, Bq dx]
  rcases A with ⟨hb, t, dt, Lt, rfl⟩ | ⟨hS, t0, far, N, j, R, jl, lj, rfl⟩ <;> rcases B with ⟨hb', u, du, Lu, rfl⟩ | ⟨hS', t1, far1, N1, k, R1, kl, lk, rfl⟩
  · have e : mov (mov f t) (Ao (Ar t) (Ao x u)) = mov h u := by rw [← Bd, Bv dt, ← Bd, ex]
    have := Ci.one Lt (t := Ao (Ar t) (Ao x u)) (by rw [e]; exact Lu) (by rw [Ca, Ca, Cy, dt, dx, du]; rfl)
    rw [e] at this
    exact this.symm
  · have := hb.2; have := hS'.pos; omega
  · have := hb'.2; have := hS.pos; omega
  · have ef : far = far1 := R.r.uniq (by rw [← hm]; exact R1.r)
    subst ef
    have e1 : mov (mov f t0) (Ao (Ar t0) (Ao x t1)) = mov h t1 := by rw [← Bd, Bv R.d, ← Bd, ex]
    have d1 : det (Ao (Ar t0) (Ao x t1)) = 1 := by rw [Ca, Ca, Cy, R.d, dx, R1.d]; rfl
    have en : N = N1 := (QL R.v R1.v d1 e1 R.e R.l R1.e R1.l R.n R1.n).1
    subst en
    have hm : ∃ m, rF far m (mov f t0) = mov h t1 := by
      rcases Oi R.v R1.v d1 e1 with ⟨m, s⟩ | ⟨m, s⟩
      · exact ⟨m, by rw [← Gb, ← s.mov, e1]⟩
      · have e2 : mov (mov h t1) (Ar (Ao (Ar t0) (Ao x t1))) = mov f t0 := by rw [← e1, Bv d1]
        exact Jk (m := m) R1.e R1.n (by rw [← Gb, ← s.mov, e2])
    obtain ⟨m, hm⟩ := hm
    obtain ⟨m', hm'⟩ := Jk R.e R.n hm
    obtain ⟨i1, a1, b1⟩ := MP R.e R.n (m + k)
    obtain ⟨i2, a2, b2⟩ := MP R1.e R1.n (m' + j)
    have h1 := lj i1 a1
    have h2 := lk i2 a2
    rw [← b1, Ez, hm] at h1
    rw [← b2, Ez, hm'] at h2
    exact (V2 h1 h2).symm
theorem AhU {f : I3} {l : Dt} (h : Nv f l) : ∃ (g : I3) (t : I4), l = .tup [t3 g, t4 t] ∧ LF f g ∧ det t = 1 ∧ mov f t = g ∧ B4 90000 t := by
  rcases h with ⟨hb, t, rfl, dt, L, bt, _⟩ | ⟨hS, t0, far, N, j, R, jl, lj, rfl, _⟩
  · exact ⟨_, t, rfl, .inl ⟨hb, t, dt, L, rfl⟩, dt, rfl, bt.le (by decide)⟩
  · exact ⟨_, _, rfl, .inr ⟨hS, t0, far, N, j, R, jl, lj, rfl⟩, by rw [Ca, R.d, N6]; rfl, by rw [← Bd, Gb], R.bt j jl⟩
theorem QZ {f : I3} {d : Dt} (h : ∃ l, (Bf f ∧ Jj f l ∧ d = Xq "Bowl" f l) ∨ (Sad f ∧ Low f l ∧ d = Xq "Saddle" f l)) : ∃ (c : Str) (l : Dt), (c = "Bowl" ∨ c = "Saddle") ∧ d = Xq c f l ∧ Nv f l := by
  obtain ⟨l, ⟨h1, h2, rfl⟩ | ⟨h1, h2, rfl⟩⟩ := h
  · exact ⟨_, l, .inl rfl, rfl, .inl ⟨h1, h2⟩⟩
  · exact ⟨_, l, .inr rfl, rfl, .inr ⟨h1, h2⟩⟩
theorem WR {K : PySem.W.Frag} {mg : Str → Option Value} (T : Txt K mg) {c : Str} (hc : c = "Bowl" ∨ c = "Saddle") : PB K c "measure" := by
  rcases hc with e | e <;> rw [e]
  · exact T.na_Bowl_measure
  · exact T.na_Saddle_measure
theorem Ft {n : Nat} {a b : Int} (ha : Bt n a) (h : b ≠ 0) : Bt (n + 1) (a.fdiv b) := by
  have hb : 1 ≤ b.natAbs := by omega
  have h1 := HJ (a := a) h
  have e : b * a.fdiv b = a - a.fmod b := by rw [Dh]; grind
  have e2 : b.natAbs * (a.fdiv b).natAbs = (a - a.fmod b).natAbs := by rw [← Int.natAbs_mul, e]
  unfold Bt at *
  rw [Nat.pow_succ]
  by_cases h0 : a.fdiv b = 0
  · rw [h0]; have := Nat.two_pow_pos n; simp; omega
  · rcases Nat.lt_or_ge a.natAbs b.natAbs with hc | hc
    · have h3 : (a - a.fmod b).natAbs < 2 * b.natAbs := by omega
      have h4 : (a.fdiv b).natAbs < 2 := by
        refine Nat.lt_of_mul_lt_mul_left (a := b.natAbs) ?_
        rw [e2]; omega
      have := Nat.two_pow_pos n
      omega
    · have h3 : (a - a.fmod b).natAbs ≤ 2 * a.natAbs := by omega
      have h4 : (a.fdiv b).natAbs ≤ b.natAbs * (a.fdiv b).natAbs := Nat.le_mul_of_pos_left _ hb
      omega
theorem Qj {n : Nat} {t b : Int} (h : Bt n (t * b)) (hb : b ≠ 0) : Bt n t := by
  unfold Bt at *
  rw [Int.natAbs_mul] at h
  have h4 : t.natAbs ≤ t.natAbs * b.natAbs := Nat.le_mul_of_pos_right _ (by omega)
  omega
structure Rows (a b n u v m s t : Int) : Prop where
  r1 : n = u * a + v * b
  r2 : m = s * a + t * b
  g : Int.gcd n m = Int.gcd a b
  n0 : Bt 800 n
  m0 : Bt 800 m
  u0 : Bt 801 u
  s0 : Bt 801 s
  v0 : Bt 2000 v
  t0 : Bt 2000 t
structure Lat (b n u m s : Int) : Prop where
  ex : ∃ e d N M U S B : Int, n = e * N ∧ m = e * M ∧ u = d * U ∧ s = d * S ∧ b = e * B ∧ (e = 1 ∨ e = -1) ∧ (d = 1 ∨ d = -1) ∧ 0 < N ∧ 0 ≤ M ∧ U ≤ 0 ∧ 0 ≤ S ∧ N * S - M * U = B ∧ -U ≤ B
theorem Lat.first {a b : Int} (h : b ≠ 0) : Lat b b 0 (a.fmod b) 1 := by
  rcases Int.lt_or_lt_of_ne h with h | h
  · have e : a.fmod b = -((-a).fmod (-b)) := by rw [Dh, Dh, Int.neg_fdiv_neg]; grind
    have h1 := Int.fmod_nonneg_of_pos (-a) (show 0 < -b by omega)
    exact ⟨-1, 1, -b, (-a).fmod (-b), 0, 1, -b, by omega, by omega, by omega, by omega, by omega, .inr rfl, .inl rfl, by omega, h1, by omega, by omega, by simp, by omega⟩
  · have h1 := Int.fmod_nonneg_of_pos a h
    exact ⟨1, 1, b, a.fmod b, 0, 1, b, by omega, by omega, by omega, by omega, by omega, .inl rfl, .inl rfl, by omega, h1, by omega, by omega, by simp, by omega⟩
theorem Lat.step {b n u m s : Int} (L : Lat b n u m s) (h : m ≠ 0) : Lat b m s (n - n.fdiv m * m) (u - n.fdiv m * s) := by
  obtain ⟨e, d, N, M, U, S, B, hn, hm, hu, hs, hb, he, hd, hN, hM, hU, hS, hE, hUB⟩ := L.ex
  have hM' : 0 < M := by
    rcases Int.lt_or_eq_of_le hM with z | z
    · exact z
    · rw [← z] at hm; simp at hm; exact absurd hm h
  have q1 : n.fdiv m = N.fdiv M := by
    rw [hn, hm]
    rcases he with rfl | rfl
    · simp
    · simp [Int.neg_fdiv_neg]
  have q2 : 0 ≤ N.fdiv M := Int.fdiv_nonneg (by omega) (by omega)
  have q3 : 0 ≤ N - M * N.fdiv M := by rw [← Dh]; exact Int.fmod_nonneg_of_pos N hM'
  rw [q1]
  generalize N.fdiv M = q at *
  have hSB : S ≤ B := by
    have z1 : 0 ≤ M * (-U) := Int.mul_nonneg hM (by omega)
    have z2 : 0 ≤ (N - 1) * S := Int.mul_nonneg (by omega) hS
    have : N * S - M * U = (N - 1) * S + S + M * (-U) := by grind
    omega
  have z3 : 0 ≤ q * S := Int.mul_nonneg q2 hS
  refine ⟨e, -d, M, N - M * q, -S, q * S - U, B, hm, ?_, ?_, ?_, hb, he, ?_, hM', q3, by omega, by omega, ?_, by omega⟩
  · rw [hn, hm]; grind
  · rw [hs]; grind
  · rw [hu, hs]; grind
  · rcases hd with rfl | rfl
    · exact .inr rfl
    · exact .inl rfl
  · rw [← hE]; grind
theorem Lat.bounds {b n u m s : Int} (L : Lat b n u m s) : u.natAbs ≤ b.natAbs ∧ s.natAbs ≤ b.natAbs := by
  obtain ⟨e, d, N, M, U, S, B, hn, hm, hu, hs, hb, he, hd, hN, hM, hU, hS, hE, hUB⟩ := L.ex
  have z1 : 0 ≤ M * (-U) := Int.mul_nonneg hM (by omega)
  have z2 : 0 ≤ (N - 1) * S := Int.mul_nonneg (by omega) hS
  have : N * S - M * U = (N - 1) * S + S + M * (-U) := by grind
  have hSB : S ≤ B := by omega
  rcases he with rfl | rfl <;> rcases hd with rfl | rfl <;> omega
theorem Rows.first {a b : Int} (ha : Bt 800 a) (hb : Bt 800 b) : Rows a b a 1 0 b 0 1 :=
  ⟨by omega, by omega, rfl, ha, hb, Bt.one.le (by decide), Bt.zero.le (by decide), Bt.zero.le (by decide), Bt.one.le (by decide)⟩
theorem Rows.step {a b n u v m s t : Int} (R : Rows a b n u v m s t) (ha : Bt 800 a) (hb : Bt 800 b) (hbn : b ≠ 0) (h : m ≠ 0) (L : Lat b m s (n - n.fdiv m * m) (u - n.fdiv m * s)) :
    Rows a b m s t (n - n.fdiv m * m) (u - n.fdiv m * s) (v - n.fdiv m * t) := by
  have e : n - n.fdiv m * m = n.fmod m := by rw [Dh]; grind
  have hl := HJ (a := n) h
  have hm := R.m0
  have hs : Bt 801 (u - n.fdiv m * s) := by
    have := L.bounds.2
    have hb' := hb.le (m := 801) (by decide)
    unfold Bt at *
    omega
  have hr : Bt 800 (n - n.fdiv m * m) := by rw [e]; unfold Bt at *; omega
  have er : n - n.fdiv m * m = (u - n.fdiv m * s) * a + (v - n.fdiv m * t) * b := by
    have h1 := R.r1
    have h2 := R.r2
    generalize n.fdiv m = q at *
    rw [h1, h2]; grind
  refine ⟨R.r2, er, ?_, R.m0, hr, R.s0, hs, R.t0, ?_⟩
  · rw [e, KY]; exact R.g
  · refine Qj (b := b) ?_ hbn
    have : (v - n.fdiv m * t) * b = (n - n.fdiv m * m) - (u - n.fdiv m * s) * a := by rw [er]; grind
    rw [this]
    exact (hr.sub (hs.mul ha)).le (by decide)
abbrev Ma : DSp := BX (fun p : (Int × Int × Int) × (Int × Int × Int) × Int => [T3 p.1.1 p.1.2.1 p.1.2.2, T3 p.2.1.1 p.2.1.2.1 p.2.1.2.2, .int p.2.2]) (fun p => Bt 2000 p.2.2 ∧ Bt 2000 p.2.1.1 ∧ Bt 2000 p.2.1.2.1 ∧ Bt 2000 p.2.1.2.2)
  fun p => T3 (p.1.1 - p.2.2 * p.2.1.1) (p.1.2.1 - p.2.2 * p.2.1.2.1) (p.1.2.2 - p.2.2 * p.2.1.2.2)
abbrev QG : DSp := spec (fun p : I2 => [.int p.1, .int p.2]) (fun p => Bt 800 p.1 ∧ Bt 800 p.2) fun p d => ∃ u v : Int, d = T3 ((Int.gcd p.1 p.2 : Nat) : Int) u v ∧ u * p.1 + v * p.2 = ((Int.gcd p.1 p.2 : Nat) : Int) ∧ Bt 2000 u ∧ Bt 2000 v
theorem Tr (T : Txt K mg)
    : Pm P w K mg base 1 "row_less" GK ["row", "lower", "often"] Ma := by
  obtain ⟨f, fd, F⟩ := T.t_row_less
  refine ⟨f, fd, F, F.fn.okD Tp (by walk_at "lE") fun cdv A outer s H E hr => ⟨_, (Ah (Aq (Bp (Aa (Bk (Ac (dv 0) Ab) (Ak (dv 2) (Ac (dv 1) Ab))) (Aa (Bk (Ac (dv 0) Ab) (Ak (dv 2) (Ac (dv 1) Ab))) (Aa (Bk (Ac (dv 0) Ab) (Ak (dv 2) (Ac (dv 1) Ab))) Af)))))), fun ds Q h => ?_⟩⟩
  obtain ⟨⟨⟨n, u, v⟩, ⟨m, s, t⟩, q⟩, rfl, ⟨hq, hm, hs, ht⟩, k⟩ := h
  walk_at "go"
  walk_at "muls"
  exact k _ rfl
theorem Xc (T : Txt K mg)
    (G_row_less : Pm P w K mg base 1 "row_less" GK ["row", "lower", "often"] Ma)
    : Pm P w K mg base 2 "shares" Je ["one", "other"] QG := by
  obtain ⟨f, fd, F⟩ := T.t_shares
  refine ⟨f, fd, F, F.fn.okD Gn (by walk_at "lE") fun cdv A outer s H E hr => ⟨_, (Ad (Al 2 Gn.nd (Bp (Aa (dv 0) (Aa Ab (Aa Ab Af))))) (Ad (Al 3 Gn.nd (Bp (Aa (dv 1) (Aa Ab (Aa Ab Af))))) (Ad (Dl PassesOwn.never (GF hr.units (Ac (dv 3) Ab) Ab) (Ad (Al 4 Gn.nd (Ag Ae G_row_less (hr.mono (by decide)) rfl (Aa (dv 2) (Aa (dv 3) (Aa (Br (Ac (dv 2) Ab) (Ac (dv 3) Ab)) Af))))) (Ad (Al 2 Gn.nd (dv 3)) (Ah (Al 3 Gn.nd (dv 4)))))) (Ad (Cr (J7 (Ac (dv 2) Ab) Ab) (Ah (Aq (Bp (Aa (HS (Ac (dv 2) Ab)) (Aa (HS (Ac (dv 2) Ab)) (Aa (HS (Ac (dv 2) Ab)) Af)))))) Bl) (Ah (Aq (dv 2))))))), fun ds Q h => ?_⟩⟩
  obtain ⟨⟨a, b⟩, rfl, ⟨ha, hb⟩, k⟩ := h
  walk_at "go"
  refine ⟨Av (by decide), Av (by decide), ?_⟩
  refine Ds (fun m ρ => ∃ n u v x s t z, ρ = [some (.is (.int a)), some (.is (.int b)), some (.is (T3 n u v)), some (.is (T3 x s t)), z] ∧ Rows a b n u v x s t ∧ ((n = a ∧ u = 1 ∧ x = b ∧ s = 0) ∨ (b ≠ 0 ∧ Lat b n u x s)) ∧ m = x.natAbs) _ ⟨a, 1, 0, b, 0, 1, none, rfl, Rows.first ha hb, .inl ⟨rfl, rfl, rfl, rfl⟩, rfl⟩ ?_
  rintro m _ ⟨n, u, v, x, s, t, z, rfl, R, hc, rfl⟩
  walk_at "rd"
  have hG := R.g
  by_cases hx : x = 0
  · subst hx
    rw [Int.gcd_zero_right] at hG
    simp only [decide_true, Bool.not_true]
    walk_at "rd"
    have r1 := R.r1
    refine Ek (fun hn => ⟨Av (by decide), k _ ⟨-u, -v, ?_, ?_, (R.u0.neg).le (by decide), R.v0.neg⟩⟩) (fun hn => k _ ⟨u, v, ?_, ?_, R.u0.le (by decide), R.v0⟩)
    · have hn := of_decide_eq_true hn
      have e : -n = ((Int.gcd a b : Nat) : Int) := by omega
      rw [e]
    · have hn := of_decide_eq_true hn
      have e : -n = ((Int.gcd a b : Nat) : Int) := by omega
      show -u * a + -v * b = _
      rw [← e, r1]; grind
    · have hn : ¬ n < 0 := fun z => hn (decide_eq_true z)
      have e : n = ((Int.gcd a b : Nat) : Int) := by omega
      rw [← e]
    · have hn : ¬ n < 0 := fun z => hn (decide_eq_true z)
      have e : n = ((Int.gcd a b : Nat) : Int) := by omega
      show u * a + v * b = _
      rw [← e, ← r1]
  · simp only [decide_eq_false hx, Bool.not_false, if_true]
    have hbn : b ≠ 0 := by
      rcases hc with ⟨_, _, e, _⟩ | ⟨e, _⟩
      · rw [← e]; exact hx
      · exact e
    have L : Lat b x s (n - n.fdiv x * x) (u - n.fdiv x * s) := by
      rcases hc with ⟨rfl, rfl, rfl, rfl⟩ | ⟨_, L⟩
      · have := Lat.first (a := n) hx
        have e : n - n.fdiv x * x = n.fmod x := by rw [Dh]; grind
        have e2 : (1 : Int) - n.fdiv x * 0 = 1 := by omega
        rw [e, e2]; exact this
      · exact L.step hx
    have hq := Ft R.n0 hx
    refine ⟨Bt.divOk R.m0 hx, ?_⟩
    refine Aj ((n, u, v), (x, s, t), n.fdiv x) ⟨hq.le (by decide), R.m0.le (by decide), R.s0.le (by decide), R.t0⟩ ?_
    refine ⟨_, ?_, _, _, _, _, _, _, _, rfl, Rows.step R ha hb hbn hx L, .inr ⟨hbn, L⟩, rfl⟩
    have e : n - n.fdiv x * x = n.fmod x := by rw [Dh]; grind
    rw [e]
    exact HJ hx
def gJ (f h : I3) : Int := ((Int.gcd ((Int.gcd f.1 h.1 : Nat) : Int) (jS f h) : Nat) : Int)
theorem Lw {f h : I3} (ha : f.1 ≠ 0) : 0 < gJ f h := by
  unfold gJ
  have : Int.gcd ((Int.gcd f.1 h.1 : Nat) : Int) (jS f h) ≠ 0 := fun z => by
    have h1 := (Int.gcd_eq_zero_iff.mp z).1
    have h2 : Int.gcd f.1 h.1 = 0 := by omega
    exact ha (Int.gcd_eq_zero_iff.mp h2).1
  omega
theorem JM {f h : I3} : gJ f h ∣ f.1 ∧ gJ f h ∣ h.1 ∧ gJ f h ∣ jS f h := by
  unfold gJ
  have h1 : ((Int.gcd ((Int.gcd f.1 h.1 : Nat) : Int) (jS f h) : Nat) : Int) ∣ ((Int.gcd f.1 h.1 : Nat) : Int) := Int.gcd_dvd_left ..
  exact ⟨Int.dvd_trans h1 (Int.gcd_dvd_left ..), Int.dvd_trans h1 (Int.gcd_dvd_right ..), Int.gcd_dvd_right ..⟩
structure Pair (f h : I3) : Prop where
  bf : B3 800 f
  bh : B3 800 h
  kf : Bf f ∨ Sad f
  kh : Bf h ∨ Sad h
  m : meas f = meas h
  pf : g3 f = 1
  ph : g3 h = 1
  bm : Bt 600 (meas f)
  bA : Bt 1400 (jA f h (gJ f h))
theorem Ey {f : I3} (h : Bf f ∨ Sad f) : f.1 ≠ 0 := by
  rcases h with h | h
  · have := h.1; omega
  · exact V5 h
abbrev Ja : DSp := BX (fun f : I3 => [t3 f]) (fun f => g3 f = 1) fun _ => .non
theorem NP (T : Txt K mg)
    (G_content : Pm P w K mg base 2 "content" Hq ["form"] Oj)
    : Pm P w K mg base 3 "check_plain" DK ["form"] Ja := by
  obtain ⟨f, fd, F⟩ := T.t_check_plain
  refine ⟨f, fd, F, F.fn.okD O5 (by walk_at "lE") fun cdv A outer s H E hr => ⟨_, (Ah (Cr (GF hr.units (Ag Ae G_content (hr.mono (by decide)) rfl (Aa (dv 0) Af)) Ab) (Ah Fz) Bl)), fun ds Q h => ?_⟩⟩
  obtain ⟨f, rfl, hf, q⟩ := h
  have hf : g3 f = 1 := hf
  have q' := q _ rfl
  walk_at "go"
  refine Aj f trivial ⟨NZ, FP ?_ q'⟩
  rw [hf, Ti]
  rfl
abbrev JH : DSp := BX (fun p : I3 × I3 => [t3 p.1, t3 p.2]) (fun p => Pair p.1 p.2) fun _ => .non
theorem Pz (T : Txt K mg)
    (G_shape_of : Pm P w K mg base 10 "shape_of" Ec ["form"] GX)
    (G_check_plain : Pm P w K mg base 3 "check_plain" DK ["form"] Ja)
    : Pm P w K mg base 11 "check_pair" Ep ["one", "other"] JH := by
  obtain ⟨f, fd, F⟩ := T.t_check_pair
  refine ⟨f, fd, F, F.fn.okD G7 (by walk_at "lE") fun cdv A outer s H E hr => ⟨_, (Ad (Al 2 G7.nd (Ag Ae G_shape_of (hr.mono (by decide)) rfl (Aa (dv 0) Af))) (Ad (Al 3 G7.nd (Ag Ae G_shape_of (hr.mono (by decide)) rfl (Aa (dv 1) Af))) (Ad (Cr (GF hr.units (MF (dv 2)) (MF (dv 3))) (Ah Fz) Bl) (Ad (DY (Ag Ae G_check_plain (hr.mono (by decide)) rfl (Aa (dv 0) Af))) (Ah (DY (Ag Ae G_check_plain (hr.mono (by decide)) rfl (Aa (dv 1) Af)))))))), fun ds Q h => ?_⟩⟩
  obtain ⟨⟨f, h⟩, rfl, hP, q⟩ := h
  have hP : Pair f h := hP
  have q' := q _ rfl
  walk_at "go"
  refine Ba f ⟨hP.bf.le (by decide), hP.kf⟩ ?_
  rintro _ ho
  obtain ⟨c1, l1, hc1, rfl, low1⟩ := QZ ho
  refine Ba h ⟨hP.bh.le (by decide), hP.kh⟩ ?_
  rintro _ ho
  obtain ⟨c2, l2, hc2, rfl, low2⟩ := QZ ho
  refine ⟨WR T hc1, .int (meas f), rfl, WR T hc2, .int (meas h), rfl, ⟨NZ, NZ⟩, FP ?_ (Aj f hP.pf (Aj h hP.ph q'))⟩
  rw [Ti, decide_eq_true hP.m]
  rfl
abbrev CQ : DSp := BX (fun p : I3 × I3 => [t3 p.1, t3 p.2]) (fun _ => True) fun p => .int (jS p.1 p.2)
theorem JZ (T : Txt K mg)
    : Pm P w K mg base 1 "half_of_middles" BL ["one", "other"] CQ := by
  obtain ⟨f, fd, F⟩ := T.t_half_of_middles
  refine ⟨f, fd, F, F.fn.okD J1 (by walk_at "lE") fun cdv A outer s H E hr => ⟨_, (Ah (Aq (Br (Bj (Ac (dv 0) Ab) (Ac (dv 1) Ab)) Ab))), fun ds Q h => ?_⟩⟩
  obtain ⟨⟨f, h⟩, rfl, _, q⟩ := h
  have q' := q _ rfl
  walk_at "go"
  exact ⟨⟨by decide, by decide⟩, q'⟩
theorem Nj {n : Nat} {f h : I3} (hf : B3 n f) (hh : B3 n h) (hm : meas f = meas h) : Bt n (jS f h) := by
  have := Qw hm
  have h1 := hf.2.1
  have h2 := hh.2.1
  unfold Bt at *
  omega
def Common (f h : I3) (g j k : Int) : Prop := g = gJ f h ∧ (∃ i, i * f.1 + j * h.1 + k * jS f h = g) ∧ Bt 4001 j ∧ Bt 2000 k
abbrev Hw : DSp := spec (fun p : I3 × I3 => [t3 p.1, t3 p.2]) (fun p => Pair p.1 p.2) fun p d => ∃ g j k, d = T3 g j k ∧ Common p.1 p.2 g j k
theorem La (T : Txt K mg)
    (G_shares : Pm P w K mg base 2 "shares" Je ["one", "other"] QG)
    (G_half_of_middles : Pm P w K mg base 1 "half_of_middles" BL ["one", "other"] CQ)
    : Pm P w K mg base 3 "common_shares" CZ ["one", "other"] Hw := by
  obtain ⟨f, fd, F⟩ := T.t_common_shares
  refine ⟨f, fd, F, F.fn.okD Fl (by walk_at "lE") fun cdv A outer s H E hr => ⟨_, (Ad (Al 2 Fl.nd (Ag Ae G_shares (hr.mono (by decide)) rfl (Aa (Ac (dv 0) Ab) (Aa (Ac (dv 1) Ab) Af)))) (Ad (Al 3 Fl.nd (Ag Ae G_shares (hr.mono (by decide)) rfl (Aa (Ac (dv 2) Ab) (Aa (Ag Ae G_half_of_middles (hr.mono (by decide)) rfl (Aa (dv 0) (Aa (dv 1) Af))) Af)))) (Ah (Aq (Bp (Aa (Ac (dv 3) Ab) (Aa (Ak (Ac (dv 3) Ab) (Ac (dv 2) Ab)) (Aa (Ac (dv 3) Ab) Af)))))))), fun ds Q h => ?_⟩⟩
  obtain ⟨⟨f, h⟩, rfl, hP, q⟩ := h
  have hP : Pair f h := hP
  have q : ∀ d, (∃ g j k, d = T3 g j k ∧ Common f h g j k) → Q d := q
  walk_at "go"
  refine Ba (f.1, h.1) ⟨hP.bf.1, hP.bh.1⟩ ?_
  rintro _ ⟨x, y, rfl, e1, bx, by'⟩
  have e1 : x * f.1 + y * h.1 = ((Int.gcd f.1 h.1 : Nat) : Int) := e1
  walk_at "rd"
  refine Aj (f, h) trivial (Ba (((Int.gcd f.1 h.1 : Nat) : Int), jS f h) ⟨JR hP.bf.1 hP.bh.1, Nj hP.bf hP.bh hP.m⟩ ?_)
  rintro _ ⟨u, v, rfl, e2, bu, bv⟩
  have e2 : u * ((Int.gcd f.1 h.1 : Nat) : Int) + v * jS f h = gJ f h := e2
  walk_at "rd"
  refine ⟨bu.mulOk by', Av (by decide), q _ ⟨_, _, _, rfl, rfl, ⟨u * x, ?_⟩, (bu.mul by').le (by decide), bv⟩⟩
  show _ = gJ f h
  rw [← e2, ← e1]
  grind
theorem Aez {f h : I3} {g j k : Int} (h0 : jA f h g ≠ 0) : (jB f h g j k).natAbs < 2 * (jA f h g).natAbs := by
  have := HJ (a := h.2.1 + 2 * h.1.fdiv g * (j * (jS f h - h.2.1) - k * h.2.2)) (b := 2 * jA f h g) (by omega)
  unfold jB
  omega
theorem Aic {A B C D : Int} (e : B * B - D = 4 * A * C) (h0 : A ≠ 0) (hB : B.natAbs < 2 * A.natAbs) (hA : Bt 1400 A) (hD : Bt 600 D) : Bt 1401 C := by
  have e1 : 4 * (A.natAbs * C.natAbs) = (B * B - D).natAbs := by rw [e, Int.mul_assoc, Int.natAbs_mul, Int.natAbs_mul]; rfl
  have e2 : (B * B - D).natAbs ≤ B.natAbs * B.natAbs + D.natAbs := by
    have := Int.natAbs_mul B B
    omega
  have e3 : B.natAbs * B.natAbs ≤ (2 * A.natAbs) * (2 * A.natAbs) := Nat.mul_le_mul (by omega) (by omega)
  have e4 : (2 * A.natAbs) * (2 * A.natAbs) = 4 * (A.natAbs * A.natAbs) := by grind
  have a1 : 1 ≤ A.natAbs := by omega
  have e5 : A.natAbs * C.natAbs ≤ A.natAbs * (A.natAbs + D.natAbs) := by
    have : D.natAbs ≤ 4 * (A.natAbs * D.natAbs) := by
      have := Nat.le_mul_of_pos_left D.natAbs a1
      omega
    rw [Nat.mul_add]
    omega
  have e6 : C.natAbs ≤ A.natAbs + D.natAbs := Nat.le_of_mul_le_mul_left e5 a1
  have d1 : D.natAbs < 2 ^ 1400 := Nat.lt_of_lt_of_le hD (Nat.pow_le_pow_right (by decide) (by decide))
  unfold Bt at *
  have : (2 : Nat) ^ 1401 = 2 * 2 ^ 1400 := by rw [Nat.pow_succ]; omega
  omega
theorem Pair.joint {f h : I3} {g j k : Int} (P : Pair f h) (C : Common f h g j k) : FA (jP f h g (jB f h g j k)) (jQ f h g) = f ∧ FB (jP f h g (jB f h g j k)) (jQ f h g) = h ∧ FC (jP f h g (jB f h g j k)) (jQ f h g) = jF f h g j k := by
  obtain ⟨rfl, ⟨i, e⟩, _⟩ := C
  have g0 := Lw (h := h) (Ey P.kf)
  exact Zt (Ey P.kf) (Ey P.kh) P.m (by omega) JM.1 JM.2.1 JM.2.2 e
theorem Pair.ja {f h : I3} {g j k : Int} (P : Pair f h) (C : Common f h g j k) : jA f h g * (g * g) = f.1 * h.1 := by
  obtain ⟨rfl, _⟩ := C
  have g0 := Lw (h := h) (Ey P.kf)
  obtain ⟨x, hx⟩ := (JM (f := f) (h := h)).1
  obtain ⟨y, hy⟩ := (JM (f := f) (h := h)).2.1
  unfold jA
  have : f.1 * h.1 = gJ f h * gJ f h * (x * y) := by
    have : f.1 * h.1 = (gJ f h * x) * (gJ f h * y) := by rw [← hx, ← hy]
    rw [this]; grind
  rw [this, Int.mul_fdiv_cancel_left _ (Int.mul_ne_zero (by omega) (by omega)), Int.mul_comm]
theorem Pair.ja0 {f h : I3} {g j k : Int} (P : Pair f h) (C : Common f h g j k) : jA f h g ≠ 0 := fun z => by
  have e := P.ja C
  rw [z, Int.zero_mul] at e
  exact Int.mul_ne_zero (Ey P.kf) (Ey P.kh) e.symm
theorem Pair.comp {f h : I3} {g j k : Int} (P : Pair f h) (C : Common f h g j k) : Comp f h (jF f h g j k) := ⟨_, _, P.joint C⟩
theorem Pair.kind {f h : I3} {g j k : Int} (P : Pair f h) (C : Common f h g j k) : Bf (jF f h g j k) ∨ Sad (jF f h g j k) := by
  have hm := (P.comp C).meas.2
  rw [← P.m] at hm
  rcases P.kf with kf | kf
  · refine .inl ⟨?_, by rw [hm]; exact kf.2⟩
    have kh : 0 < h.1 := by
      rcases P.kh with z | z
      · exact z.1
      · have h1 := kf.2; have h2 := z.pos; have h3 := P.m; omega
    have e := P.ja C
    have p1 := Int.mul_pos kf.1 kh
    show 0 < jA f h g
    rcases Int.lt_or_le 0 (jA f h g) with z | z
    · exact z
    · have := Int.mul_nonneg (show 0 ≤ -jA f h g by omega) (sq_nonneg g)
      have : -jA f h g * (g * g) = -(jA f h g * (g * g)) := by grind
      omega
  · exact .inr ⟨by rw [hm]; exact kf.no, by rw [hm]; exact kf.pos, by rw [hm]; exact kf.most⟩
theorem Pair.bF {f h : I3} {g j k : Int} (P : Pair f h) (C : Common f h g j k) : B3 1402 (jF f h g j k) := by
  have h0 := P.ja0 C
  have hB := Aez (j := j) (k := k) h0
  have hA : Bt 1400 (jA f h g) := by rw [C.1]; exact P.bA
  have hm : (jB f h g j k) * (jB f h g j k) - 4 * (jF f h g j k).1 * (jF f h g j k).2.2 = meas f := by
    have := (P.comp C).meas.2
    rw [P.m]; exact this
  refine ⟨hA.le (by decide), ?_, (Aic (A := jA f h g) (B := jB f h g j k) (D := meas f) ?_ h0 hB hA P.bm).le (by decide)⟩
  · show Bt 1402 (jB f h g j k)
    have : (2 : Nat) ^ 1402 = 4 * 2 ^ 1400 := by decide +kernel
    unfold Bt at *
    omega
  · show _ = 4 * (jF f h g j k).1 * (jF f h g j k).2.2
    omega
abbrev JD : DSp := BX (fun p : (I3 × I3) × I3 => [t3 p.1.1, t3 p.1.2, t3 p.2]) (fun p => Pair p.1.1 p.1.2 ∧ Common p.1.1 p.1.2 p.2.1 p.2.2.1 p.2.2.2) fun p => t3 (jF p.1.1 p.1.2 p.2.1 p.2.2.1 p.2.2.2)
theorem Qc (T : Txt K mg)
    (G_half_of_middles : Pm P w K mg base 1 "half_of_middles" BL ["one", "other"] CQ)
    (G_measure : Pm P w K mg base 1 "measure" CK ["form"] Dq)
    : Pm P w K mg base 2 "joint_form" Fi ["one", "other", "common"] JD := by
  obtain ⟨f, fd, F⟩ := T.t_joint_form
  refine ⟨f, fd, F, F.fn.okD Cu (by walk_at "lE") fun cdv A outer s H E hr => ⟨_, (Ad (Al 3 Cu.nd (Ac (dv 2) Ab)) (Ad (Al 4 Cu.nd (Ac (dv 1) Ab)) (Ad (Al 5 Cu.nd (Ac (dv 1) Ab)) (Ad (Al 6 Cu.nd (Br (Ak (Ac (dv 0) Ab) (dv 4)) (Ak (dv 3) (dv 3)))) (Ad (Al 7 Cu.nd (Bk (Ak (Ac (dv 2) Ab) (Bk (Ag Ae G_half_of_middles (hr.mono (by decide)) rfl (Aa (dv 0) (Aa (dv 1) Af))) (dv 5))) (Ak (Ac (dv 2) Ab) (Ac (dv 1) Ab)))) (Ad (Al 8 Cu.nd (CV (Bj (dv 5) (Ak (Ak Ab (Br (dv 4) (dv 3))) (dv 7))) (Ak Ab (dv 6)))) (Ah (Aq (Bp (Aa (dv 6) (Aa (dv 8) (Aa (Br (Bk (Ak (dv 8) (dv 8)) (Ag Ae G_measure (hr.mono (by decide)) rfl (Aa (dv 0) Af))) (Ak Ab (dv 6))) Af)))))))))))), fun ds Q h => ?_⟩⟩
  obtain ⟨⟨⟨f, h⟩, g, j, k⟩, rfl, ⟨hP, hC⟩, q⟩ := h
  have hP : Pair f h := hP
  have hC : Common f h g j k := hC
  have q' : Q (t3 (jF f h g j k)) := q _ rfl
  have g0 : 0 < g := by rw [hC.1]; exact Lw (Ey hP.kf)
  have bg : Bt 800 g := by rw [hC.1]; exact JR (JR hP.bf.1 hP.bh.1) (Nj hP.bf hP.bh hP.m)
  have bs := Nj hP.bf hP.bh hP.m
  have h0 := hP.ja0 hC
  have hF := hP.bF hC
  have hA : Bt 1400 (jA f h g) := by rw [hC.1]; exact hP.bA
  have hB : Bt 1402 (jB f h g j k) := hF.2.1
  have two : Bt 2 2 := Bt.of_abs (by decide)
  have four : Bt 3 4 := Bt.of_abs (by decide)
  have bd : Bt 801 (h.1.fdiv g) := Ft hP.bh.1 (by omega)
  have bj := hC.2.2.1
  have bk := hC.2.2.2
  have bm2 : Bt 4803 (j * (jS f h - h.2.1) - k * h.2.2) := ((bj.mul (bs.sub hP.bh.2.1)).sub ((bk.mul hP.bh.2.2).le (m := 4802) (by decide))).le (by decide)
  have A0 : (f.1 * h.1).fdiv (g * g) ≠ 0 := h0
  walk_at "go"
  refine ⟨hP.bf.1.mulOk hP.bh.1, bg.mulOk bg, Bt.divOk (bg.mul bg) (Int.mul_ne_zero (by omega) (by omega)), Aj (f, h) trivial ⟨bj.mulOk (bs.sub hP.bh.2.1), bk.mulOk hP.bh.2.2, Bt.divOk bg (by omega), two.mulOk bd, (two.mul bd).mulOk bm2, two.mulOk hA, by omega, hB.mulOk hB, Aj f (hP.bf.le (by decide)) ⟨four.mulOk hA, Bt.divOk (four.mul hA) (by show 4 * (f.1 * h.1).fdiv (g * g) ≠ 0; omega), Av (by decide), q'⟩⟩⟩
abbrev Hf (p q : I4) : Dt := .tup [t4 p, t4 q]
abbrev Js : DSp := BX (fun p : (I3 × I3) × I3 => [t3 p.1.1, t3 p.1.2, .int p.2.1, .int (jB p.1.1 p.1.2 p.2.1 p.2.2.1 p.2.2.2)]) (fun p => Pair p.1.1 p.1.2 ∧ Common p.1.1 p.1.2 p.2.1 p.2.2.1 p.2.2.2) fun p => Hf (jP p.1.1 p.1.2 p.2.1 (jB p.1.1 p.1.2 p.2.1 p.2.2.1 p.2.2.2)) (jQ p.1.1 p.1.2 p.2.1)
theorem PJ (T : Txt K mg)
    (G_half_of_middles : Pm P w K mg base 1 "half_of_middles" BL ["one", "other"] CQ)
    (G_measure : Pm P w K mg base 1 "measure" CK ["form"] Dq)
    : Pm P w K mg base 2 "joint_rows" Fg ["one", "other", "g", "middle"] Js := by
  obtain ⟨f, fd, F⟩ := T.t_joint_rows
  refine ⟨f, fd, F, F.fn.okD Cg (by walk_at "lE") fun cdv A outer s H E hr => ⟨_, (Ad (Al 4 Cg.nd (Ac (dv 0) Ab)) (Ad (Al 5 Cg.nd (Ac (dv 0) Ab)) (Ad (Al 6 Cg.nd (Ac (dv 1) Ab)) (Ad (Al 7 Cg.nd (Ac (dv 1) Ab)) (Ad (Al 8 Cg.nd (Ag Ae G_half_of_middles (hr.mono (by decide)) rfl (Aa (dv 0) (Aa (dv 1) Af)))) (Ad (Al 9 Cg.nd (Br (Ak (dv 2) (Bk (Bj (Ak (dv 5) (dv 7)) (Ag Ae G_measure (hr.mono (by decide)) rfl (Aa (dv 0) Af))) (Ak (Ak Ab (dv 3)) (dv 8)))) (Ak (Ak Ab (dv 4)) (dv 6)))) (Ad (Al 10 Cg.nd (Bp (Aa (dv 2) (Aa (Br (Ak (dv 2) (Bk (dv 7) (dv 3))) (Ak Ab (dv 6))) (Aa (Br (Ak (dv 2) (Bk (dv 5) (dv 3))) (Ak Ab (dv 4))) (Aa (dv 9) Af)))))) (Ah (Aq (Bp (Aa (dv 10) (Aa (Bp (Aa Ab (Aa (Br (dv 4) (dv 2)) (Aa (Br (dv 6) (dv 2)) (Aa (Br (dv 8) (dv 2)) Af))))) Af)))))))))))), fun ds Q h => ?_⟩⟩
  obtain ⟨⟨⟨f, h⟩, g, j, k⟩, rfl, ⟨hP, hC⟩, q⟩ := h
  have hP : Pair f h := hP
  have hC : Common f h g j k := hC
  have q' : Q (Hf (jP f h g (jB f h g j k)) (jQ f h g)) := q _ rfl
  have g0 : 0 < g := by rw [hC.1]; exact Lw (Ey hP.kf)
  have bg : Bt 800 g := by rw [hC.1]; exact JR (JR hP.bf.1 hP.bh.1) (Nj hP.bf hP.bh hP.m)
  have bs := Nj hP.bf hP.bh hP.m
  have hB : Bt 1402 (jB f h g j k) := (hP.bF hC).2.1
  have a0 := Ey hP.kf
  have d0 := Ey hP.kh
  have two : Bt 2 2 := Bt.of_abs (by decide)
  have four : Bt 3 4 := Bt.of_abs (by decide)
  walk_at "go"
  dsimp only at *
  generalize jB f h g j k = B at *
  have bme : Bt 2300 (f.2.1 * h.2.1 + meas f - 2 * B * jS f h) := (((hP.bf.2.1.mul hP.bh.2.1).add (hP.bm.le (m := 1600) (by decide))).sub (((two.mul hB).mul bs).le (m := 2299) (by decide))).le (by decide)
  have n4 : 4 * f.1 * h.1 ≠ 0 := Int.mul_ne_zero (by omega) d0
  refine Aj (f, h) trivial ⟨hP.bf.2.1.mulOk hP.bh.2.1, Aj f (hP.bf.le (by decide)) ⟨two.mulOk hB, (two.mul hB).mulOk bs, bg.mulOk bme, four.mulOk hP.bf.1, (four.mul hP.bf.1).mulOk hP.bh.1, Bt.divOk ((four.mul hP.bf.1).mul hP.bh.1) n4, bg.mulOk ((hP.bh.2.1.le (m := 1402) (by decide)).sub hB), two.mulOk hP.bh.1, Bt.divOk (two.mul hP.bh.1) (by omega), bg.mulOk ((hP.bf.2.1.le (m := 1402) (by decide)).sub hB), two.mulOk hP.bf.1, Bt.divOk (two.mul hP.bf.1) (by omega), Av (by decide), Bt.divOk bg (by omega), Bt.divOk bg (by omega), Bt.divOk bg (by omega), Av (by decide), Av (by decide), q'⟩⟩
theorem AfT {f h : I3} {g j k : Int} (hP : Pair f h) (hC : Common f h g j k) : B4 9000 (jP f h g (jB f h g j k)) ∧ B4 9000 (jQ f h g) := by
  have g0 : 0 < g := by rw [hC.1]; exact Lw (Ey hP.kf)
  have bg : Bt 800 g := by rw [hC.1]; exact JR (JR hP.bf.1 hP.bh.1) (Nj hP.bf hP.bh hP.m)
  have bs := Nj hP.bf hP.bh hP.m
  have hB : Bt 1402 (jB f h g j k) := (hP.bF hC).2.1
  have a0 := Ey hP.kf
  have d0 := Ey hP.kh
  have two : Bt 2 2 := Bt.of_abs (by decide)
  generalize jB f h g j k = B at *
  have bme : Bt 2300 (f.2.1 * h.2.1 + meas f - 2 * B * jS f h) := (((hP.bf.2.1.mul hP.bh.2.1).add (hP.bm.le (m := 1600) (by decide))).sub (((two.mul hB).mul bs).le (m := 2299) (by decide))).le (by decide)
  have n4 : 4 * f.1 * h.1 ≠ 0 := Int.mul_ne_zero (by omega) d0
  exact ⟨⟨bg.le (by decide), (Ft (bg.mul ((hP.bh.2.1.le (m := 1402) (by decide)).sub hB)) (by omega)).le (by decide), (Ft (bg.mul ((hP.bf.2.1.le (m := 1402) (by decide)).sub hB)) (by omega)).le (by decide), (Ft (bg.mul bme) n4).le (by decide)⟩,
    Bt.zero.le (by decide), (Ft hP.bf.1 (by omega)).le (by decide), (Ft hP.bh.1 (by omega)).le (by decide), (Ft bs (by omega)).le (by decide)⟩
def AkH (t : I4) : Dt → Dt
  | .tup [.int x, .int y] => t2 (GQ t (x, y))
  | _ => .non
def AkM : Dt → Dt
  | .tup [.int x, .int _] => .int x
  | _ => .non
def Ajo : Dt → Dt
  | .tup [.int _, .int y] => .int y
  | _ => .non
abbrev Mi : DSp := BX (fun p : I4 × I4 × I4 => [t4 (Ar p.1), Hf p.2.1 p.2.2]) (fun p => B4 90000 p.1 ∧ det p.1 = 1 ∧ B4 9000 p.2.1 ∧ B4 9000 p.2.2) fun p => Hf (Le p.2.1 p.2.2 p.1) (Ln p.2.1 p.2.2 p.1)
theorem TQ (T : Txt K mg)
    (G_led : Pm P w K mg base 3 "led" Tq ["turn", "point"] Yo)
    : Pm P w K mg base 4 "rows_led" Du ["turn", "rows"] Mi := by
  obtain ⟨f, fd, F⟩ := T.t_rows_led
  refine ⟨f, fd, F, F.fn.okD Mr (by walk_at "lE") fun cdv A outer s H E hr => ⟨_, (Ad (Aab 2 Mr.nd (Hs (sc := Ai Du) (NN := ["turn", "rows", "pairs"]) (x := "pair") (N := ["turn"]) (sl := [0]) rfl rfl (by decide +kernel)) rfl (Adr rfl T.z_zip (Aa (Ac (dv 1) Ab) (Aa (Ac (dv 1) Ab) Af))) (fun cl C s0 H0 ex => (Ag Ae G_led (hr.mono (by decide)) rfl (Aa (dv 1) (Aa (dv 0) Af))))) (Ah (Aq (Bp (Aa (Qu T.z_tuple (Aa (VG (Hs (sc := Ai Du) (NN := ["turn", "rows", "pairs"]) (x := "pair") (N := []) (sl := []) rfl rfl (by decide +kernel)) rfl (Rt (dv 2)) (fun cl C s0 H0 ex => (Ac (dv 0) Ab))) Af)) (Aa (Qu T.z_tuple (Aa (VG (Hs (sc := Ai Du) (NN := ["turn", "rows", "pairs"]) (x := "pair") (N := []) (sl := []) rfl rfl (by decide +kernel)) rfl (Rt (dv 2)) (fun cl C s0 H0 ex => (Ac (dv 0) Ab))) Af)) Af)))))), fun ds Q h => ?_⟩⟩
  obtain ⟨⟨t, ⟨p0, p1, p2, p3⟩, q0, q1, q2, q3⟩, rfl, ⟨bt, dt, bp, bq⟩, q⟩ := h
  have q' := q _ rfl
  have bt : B4 90000 t := bt
  have dt : det t = 1 := dt
  obtain ⟨p0b, p1b, p2b, p3b⟩ : B4 9000 (p0, p1, p2, p3) := bp
  obtain ⟨q0b, q1b, q2b, q3b⟩ : B4 9000 (q0, q1, q2, q3) := bq
  have bx : ∀ x ∈ [(p0, q0), (p1, q1), (p2, q2), (p3, q3)], B2 300000 x := fun x hx => by
    simp only [List.mem_cons, List.not_mem_nil, or_false] at hx
    rcases hx with rfl | rfl | rfl | rfl
    · exact ⟨p0b.le (by decide), q0b.le (by decide)⟩
    · exact ⟨p1b.le (by decide), q1b.le (by decide)⟩
    · exact ⟨p2b.le (by decide), q2b.le (by decide)⟩
    · exact ⟨p3b.le (by decide), q3b.le (by decide)⟩
  walk_at "go"
  refine Jp ([(p0, q0), (p1, q1), (p2, q2), (p3, q3)].map t2) (AkH (Ar t)) (fun R hR => ?_) (Av (by show 4 ≤ 1000; decide)) (Io rfl GJ) (fun d hd R hR => ?_) ?_
  · walk_at "rd"
    exact ⟨_, _, rfl, rfl, hR⟩
  · obtain ⟨x, hx, rfl⟩ := List.mem_map.mp hd
    unfold inner
    walk_at "rd"
    exact Aj (Ar t, x) ⟨bt.back.le (by decide), by rw [Cy]; exact dt, bx x hx⟩ hR
  refine Jp ([GQ (Ar t) (p0, q0), GQ (Ar t) (p1, q1), GQ (Ar t) (p2, q2), GQ (Ar t) (p3, q3)].map t2) AkM (fun R hR => hR) (Av (by show 4 ≤ 1000; decide)) GJ (fun d hd R hR => ?_) ?_
  · obtain ⟨x, hx, rfl⟩ := List.mem_map.mp hd
    unfold inner
    walk_at "rd"
    exact hR
  refine ⟨_, rfl, Jp ([GQ (Ar t) (p0, q0), GQ (Ar t) (p1, q1), GQ (Ar t) (p2, q2), GQ (Ar t) (p3, q3)].map t2) Ajo (fun R hR => hR) (Av (by show 4 ≤ 1000; decide)) GJ (fun d hd R hR => ?_) ?_⟩
  · obtain ⟨x, hx, rfl⟩ := List.mem_map.mp hd
    unfold inner
    walk_at "rd"
    exact hR
  refine ⟨_, rfl, Av (by decide), ?_⟩
  have e : Hf (Le (p0, p1, p2, p3) (q0, q1, q2, q3) t) (Ln (p0, p1, p2, p3) (q0, q1, q2, q3) t) = Dt.tup [Dt.tup ([GQ (Ar t) (p0, q0), GQ (Ar t) (p1, q1), GQ (Ar t) (p2, q2), GQ (Ar t) (p3, q3)].map fun x => Dt.int x.1), Dt.tup ([GQ (Ar t) (p0, q0), GQ (Ar t) (p1, q1), GQ (Ar t) (p2, q2), GQ (Ar t) (p3, q3)].map fun x => Dt.int x.2)] := by
    obtain ⟨a, b, c, d⟩ := t
    simp only [Hf, Le, Ln, GQ, Ar, List.map_cons, List.map_nil, T4, Dt.tup.injEq, List.cons.injEq, Dt.int.injEq, and_true]
    refine ⟨⟨?_, ?_, ?_, ?_⟩, ?_, ?_, ?_, ?_⟩ <;> grind
  dsimp only at q'
  rw [e] at q'
  exact q'
def Cz (f h : I3) (d : Dt) : Prop := ∃ (F G : I3) (p q : I4), Comp f h F ∧ LF F G ∧ FA p q = f ∧ FB p q = h ∧ FC p q = G ∧ d = .tup [t3 G, Hf p q] ∧ B4 110000 p ∧ B4 110000 q
abbrev Ox : DSp := spec (fun p : I3 × I3 => [t3 p.1, t3 p.2]) (fun p => Pair p.1 p.2) fun p d => Cz p.1 p.2 d
theorem VB (T : Txt K mg)
    (GM_least : PmM P w K mg base 1 ["Bowl", "Saddle"] "least" QB)
    (G_check_pair : Pm P w K mg base 11 "check_pair" Ep ["one", "other"] JH)
    (G_common_shares : Pm P w K mg base 3 "common_shares" CZ ["one", "other"] Hw)
    (G_joint_form : Pm P w K mg base 2 "joint_form" Fi ["one", "other", "common"] JD)
    (G_rows_led : Pm P w K mg base 4 "rows_led" Du ["turn", "rows"] Mi)
    (G_shape_of : Pm P w K mg base 10 "shape_of" Ec ["form"] GX)
    (G_back : Pm P w K mg base 3 "back" Oq ["turn"] Wn)
    (G_joint_rows : Pm P w K mg base 2 "joint_rows" Fg ["one", "other", "g", "middle"] Js)
    : Pm P w K mg base 12 "product" Ht ["one", "other"] Ox := by
  obtain ⟨f, fd, F⟩ := T.t_product
  refine ⟨f, fd, F, F.fn.okD HW (by walk_at "lE") fun cdv A outer s H E hr => ⟨_, (Ad (DY (Ag Ae G_check_pair (hr.mono (by decide)) rfl (Aa (dv 0) (Aa (dv 1) Af)))) (Ad (Al 2 HW.nd (Ag Ae G_common_shares (hr.mono (by decide)) rfl (Aa (dv 0) (Aa (dv 1) Af)))) (Ad (Al 3 HW.nd (Ag Ae G_joint_form (hr.mono (by decide)) rfl (Aa (dv 0) (Aa (dv 1) (Aa (dv 2) Af))))) (Ad (Al 4 HW.nd (Xe Ae GM_least (hr.mono (by decide)) (Ag Ae G_shape_of (hr.mono (by decide)) rfl (Aa (dv 3) Af)))) (Ah (Aq (Bp (Aa (Ac (dv 4) Ab) (Aa (Ag Ae G_rows_led (hr.mono (by decide)) rfl (Aa (Ag Ae G_back (hr.mono (by decide)) rfl (Aa (Ac (dv 4) Ab) Af)) (Aa (Ag Ae G_joint_rows (hr.mono (by decide)) rfl (Aa (dv 0) (Aa (dv 1) (Aa (Ac (dv 2) Ab) (Aa (Ac (dv 3) Ab) Af))))) Af))) Af))))))))), fun ds Q h => ?_⟩⟩
  obtain ⟨⟨f, h⟩, rfl, hP, q⟩ := h
  have hP : Pair f h := hP
  have q : ∀ d, Cz f h d → Q d := q
  walk_at "go"
  refine Aj (f, h) hP (Ba (f, h) hP ?_)
  rintro _ ⟨g, j, k, rfl, hC⟩
  have hC : Common f h g j k := hC
  refine Aj ((f, h), g, j, k) ⟨hP, hC⟩ ?_
  dsimp only
  have bF := hP.bF hC
  have kF := hP.kind hC
  have cF := hP.comp hC
  obtain ⟨j1, j2, j3⟩ := hP.joint hC
  have jb := AfT hP hC
  refine Ba (jF f h g j k) ⟨bF.le (by decide), kF⟩ ?_
  rintro _ ho
  obtain ⟨c, l, hc, rfl, h1⟩ := QZ ho
  obtain ⟨G, t, rfl, L, dt, mt, bt⟩ := AhU h1
  have cm : c ∈ ([Str.ofString "Bowl", Str.ofString "Saddle"] : List Str) := by rcases hc with e | e <;> rw [e] <;> simp
  refine ⟨⟨cm, by decide⟩, Aj (c, _, _) hc ?_⟩
  walk_at "rd"
  refine Aj t ⟨bt.le (by decide), dt⟩ (Aj ((f, h), g, j, k) ⟨hP, hC⟩ (Aj (t, jP f h g (jB f h g j k), jQ f h g) ⟨bt, dt, jb.1, jb.2⟩ ⟨Av (by decide), q _ ?_⟩))
  dsimp only
  generalize jP f h g (jB f h g j k) = p at *
  generalize jQ f h g = r at *
  refine ⟨_, G, Le p r t, Ln p r t, cF, L, by rw [AgW dt, j1], by rw [Aik dt, j2], by rw [Aeu, j3, mt], rfl, ?_, ?_⟩
  · obtain ⟨⟨a1, a2, a3, a4⟩, b1, b2, b3, b4⟩ := jb
    obtain ⟨t1, t2, t3, t4⟩ := bt
    exact ⟨((t4.mul a1).sub (t2.mul b1)).le (by decide), ((t4.mul a2).sub (t2.mul b2)).le (by decide), ((t4.mul a3).sub (t2.mul b3)).le (by decide), ((t4.mul a4).sub (t2.mul b4)).le (by decide)⟩
  · obtain ⟨⟨a1, a2, a3, a4⟩, b1, b2, b3, b4⟩ := jb
    obtain ⟨t1, t2, t3, t4⟩ := bt
    exact ⟨((t1.mul b1).sub (t3.mul a1)).le (by decide), ((t1.mul b2).sub (t3.mul a2)).le (by decide), ((t1.mul b3).sub (t3.mul a3)).le (by decide), ((t1.mul b4).sub (t3.mul a4)).le (by decide)⟩
def Eh (D : Int) : I3 := (1, D.fmod 4, (D.fmod 4 - D).fdiv 4)
structure Kv (D : Int) : Prop where
  r : D % 4 = 0 ∨ D % 4 = 1
  n : ¬ HY D
  m : D ≤ 4000
  b : Bt 600 D
theorem Kv.meas {D : Int} (h : Kv D) : My.meas (Eh D) = D := by
  have e : D.fmod 4 = D % 4 := Int.fmod_eq_emod_of_nonneg _ (by decide)
  unfold Eh
  rw [e]
  have e2 : (D % 4 - D).fdiv 4 = (D % 4 - D) / 4 := Int.fdiv_eq_ediv_of_nonneg _ (by decide)
  rw [e2]
  show D % 4 * (D % 4) - 4 * 1 * ((D % 4 - D) / 4) = D
  rcases h.r with z | z <;> rw [z] <;> omega
theorem Kv.kind {D : Int} (h : Kv D) : Bf (Eh D) ∨ Sad (Eh D) := by
  have hm := h.meas
  rcases Int.lt_or_le D 0 with z | z
  · exact .inl ⟨by show (0 : Int) < 1; decide, by rw [hm]; exact z⟩
  · have : D ≠ 0 := fun e => h.n ⟨0, by rw [e]; rfl⟩
    exact .inr ⟨by rw [hm]; exact h.n, by rw [hm]; omega, by rw [hm]; exact h.m⟩
theorem Kv.bt {D : Int} (h : Kv D) : B3 603 (Eh D) := by
  have r := Dn D (m := 4) (by decide)
  have b := h.b
  refine ⟨Bt.one.le (by decide), Bt.of (show -(2 ^ 603) < D.fmod 4 by omega) (show D.fmod 4 < 2 ^ 603 by omega), ?_⟩
  show Bt 603 ((D.fmod 4 - D).fdiv 4)
  rw [Int.fdiv_eq_ediv_of_nonneg _ (by decide)]
  have e : (2 : Nat) ^ 603 = 8 * 2 ^ 600 := by decide +kernel
  unfold Bt at *
  omega
abbrev Hi : DSp := BX (fun D : Int => [.int D]) (fun D => Kv D) fun _ => .non
theorem Lb (T : Txt K mg)
    (G_is_square : Pm P w K mg base 2 "is_square" Ej ["number"] HF)
    : Pm P w K mg base 3 "check_measure" Dc ["number"] Hi := by
  obtain ⟨f, fd, F⟩ := T.t_check_measure
  refine ⟨f, fd, F, F.fn.okD K4 (by walk_at "lE") fun cdv A outer s H E hr => ⟨_, (Ah (Cr (DW.dt (QF (Nq (CV (dv 0) Ab) Ab) (Lx (G9 (Ag Ae G_is_square (hr.mono (by decide)) rfl (Aa (dv 0) Af)))))) (Ah Fz) Bl)), fun ds Q h => ?_⟩⟩
  obtain ⟨D, rfl, hD, q⟩ := h
  have hD : Kv D := hD
  have q' := q _ rfl
  have e : D.fmod 4 = D % 4 := Int.fmod_eq_emod_of_nonneg _ (by decide)
  walk_at "go"
  have hr := hD.r
  refine ⟨by decide, FP (decide_eq_false (by omega)) (Ba D (hD.b.le (by decide)) ?_)⟩
  rintro _ ⟨k, rfl, hk⟩
  cases k with
  | true => exact absurd (hk.mp rfl) hD.n
  | false => exact FP rfl q'
abbrev VH : DSp := spec (fun D : Int => [.int D]) (fun D => Kv D) fun D d => ∃ g, d = t3 g ∧ LF (Eh D) g
theorem Abh (T : Txt K mg)
    (G_check_measure : Pm P w K mg base 3 "check_measure" Dc ["number"] Hi)
    (G_check_at_most : Pm P w K mg base 1 "check_at_most" Cm ["number", "most"] Fo)
    (G_least_of : Pm P w K mg base 11 "least_of" GD ["form"] LQ)
    : Pm P w K mg base 12 "unit" Nk ["number"] VH := by
  obtain ⟨f, fd, F⟩ := T.t_unit
  obtain ⟨t_MOST_MEASURE, m_MOST_MEASURE⟩ := T.m_MOST_MEASURE
  refine ⟨f, fd, F, F.fn.okD V6 (by walk_at "lE") fun cdv A outer s H E hr => ⟨_, (Ad (DY (Ag Ae G_check_measure (hr.mono (by decide)) rfl (Aa (dv 0) Af))) (Ad (DY (Ag Ae G_check_at_most (hr.mono (by decide)) rfl (Aa (dv 0) (Aa (MN (v := .int (4000)) (d := .int (4000)) rfl m_MOST_MEASURE ⟨_, rfl⟩ (fun _ => Bm.mpr rfl)) Af)))) (Ad (Al 1 V6.nd (CV (dv 0) Ab)) (Ah (Aq (Ag Ae G_least_of (hr.mono (by decide)) rfl (Aa (Bp (Aa Ab (Aa (dv 1) (Aa (Br (Bk (dv 1) (dv 0)) Ab) Af)))) Af))))))), fun ds Q h => ?_⟩⟩
  obtain ⟨D, rfl, hD, q⟩ := h
  have hD : Kv D := hD
  have q : ∀ d, (∃ g, d = t3 g ∧ LF (Eh D) g) → Q d := q
  walk_at "go"
  refine Aj D hD (Aj (D, 4000) hD.m ⟨by decide, ⟨by decide, by decide⟩, Av (by decide), Ba (Eh D) ⟨hD.bt.le (by decide), hD.kind⟩ q⟩)
abbrev Gi : DSp := BX (fun p : List Int × Int => [.lst (p.1.map Dt.int), .int p.2]) (fun p => 0 ≤ p.2) fun p => .int (p.1.getD p.2.toNat 0)
theorem Ke {Q : Dt → Prop} (ns : List Int) (k : Int) (h : 0 ≤ k) (q : Q (.int (ns.getD k.toNat 0))) : Gi [.lst (ns.map Dt.int), .int k] Q := Aj (ns, k) h q
theorem Rr (T : Txt K mg)
    : Pm P w K mg base 1 "_law_cell" Ei ["_law_script", "_law_k"] Gi := by
  obtain ⟨f, fd, F⟩ := T.t__law_cell
  refine ⟨f, fd, F, F.fn.okD Q8 (by walk_at "lE") fun cdv A outer s H E hr => ⟨_, (Ad (Cr (J7 (dv 1) (Vy T.z_len (Aa (dv 0) Af))) (Ah (Aq (Ac (dv 0) (dv 1)))) Bl) (Ah (Aq Ab))), fun ds Q h => ?_⟩⟩
  obtain ⟨⟨ns, k⟩, rfl, h0, q⟩ := h
  walk_at "go"
  by_cases hk : k < ns.length
  · simp only [decide_eq_true hk, RZ h0 hk, if_true]
    exact q _ rfl
  · simp only [decide_eq_false hk]
    have e : ns.getD k.toNat 0 = 0 := by
      have : ns.length ≤ k.toNat := by have h0' : 0 ≤ k := h0; omega
      simp [this]
    have q' := q _ rfl
    dsimp only at q'
    rw [e] at q'
    exact q'
abbrev Ju : DSp := BX (fun n : Int => [.int n]) (fun _ => True) fun _ => .bl true
theorem Pu (T : Txt K mg)
    : Pm P w K mg base 1 "_law_whole" Fb ["_law_found"] Ju := by
  obtain ⟨f, fd, F⟩ := T.t__law_whole
  refine ⟨f, fd, F, F.fn.okD PL (by walk_at "lE") fun cdv A outer s H E hr => ⟨_, (Ah (Aq (Om (Vg T.z_isinstance T.z_int AaL (dv 0)) (LK (AeO (Vg T.z_isinstance T.z_bool Yz (dv 0))))))), fun ds Q h => ?_⟩⟩
  obtain ⟨n, rfl, _, q⟩ := h
  have q' : Q (.bl true) := q _ rfl
  walk_at "go"
  exact q'
def isI : Dt → Bool
  | .int _ => true
  | _ => false
abbrev Fe : DSp := BX (fun p : List Int × Int => [.tup (p.1.map Dt.int), .int p.2]) (fun p => p.1.length ≤ 1000) fun p => .bl (decide ((p.1.length : Int) = p.2))
theorem WY {Q : Dt → Prop} (ns : List Int) (k : Int) (h : (ns.length : Int) = k) (hl : ns.length ≤ 1000) (q : Q (.bl true)) : Fe [.tup (ns.map Dt.int), .int k] Q :=
  Aj (ns, k) hl (by dsimp only; rw [decide_eq_true h]; exact q)
theorem Ab8 {Q : Dt → Prop} (p : I3) (q : Q (.bl true)) : Fe [t3 p, .int 3] Q := WY [p.1, p.2.1, p.2.2] 3 rfl (by show 3 ≤ 1000; decide) q
theorem Ny (T : Txt K mg)
    (G__law_whole : Pm P w K mg base 1 "_law_whole" Fb ["_law_found"] Ju)
    : Pm P w K mg base 2 "_law_wholes" Df ["_law_found", "_law_many"] Fe := by
  obtain ⟨f, fd, F⟩ := T.t__law_wholes
  refine ⟨f, fd, F, F.fn.okD Nf (by walk_at "lE") fun cdv A outer s H E hr => ⟨_, (Ad (Cr (DW.dt (QF (Iv (G9 (Vg T.z_isinstance T.z_tuple Xo (dv 0)))) (Lx (GF hr.units (Vy T.z_len (Aa (dv 0) Af)) (dv 1))))) (Ah (Aq Oh)) Bl) (Ah (Aq (Qq hr.units (Vy T.z_len (Aa (YL (Hs (sc := Ai Df) (NN := ["_law_found", "_law_many"]) (x := "_law_one") (N := []) (sl := []) rfl rfl (by decide +kernel)) rfl (AeR (dv 0)) (fun cl C s0 H0 ex => (G9 (Ag Ae G__law_whole (hr.mono (by decide)) rfl (Aa (dv 0) Af)))) (fun cl C s0 H0 ex => (dv 0))) Af)) (dv 1))))), fun ds Q h => ?_⟩⟩
  obtain ⟨⟨ns, k⟩, rfl, h0, q⟩ := h
  walk_at "go"
  have q' := q _ rfl
  dsimp only at q'
  by_cases hk : (ns.length : Int) = k
  · rw [decide_eq_true hk] at q'
    simp only [decide_eq_true hk]
    walk_at "rd"
    refine Ra (ns.map Dt.int) isI id (fun R h => h) (by rw [List.length_map]; exact Av h0) GJ (fun d hd R hR => ?_) (fun d hd hp R hR => hR) ?_
    · unfold inner
      walk_at "rd"
      obtain ⟨n, _, rfl⟩ := List.mem_map.mp hd
      exact Aj n trivial hR
    · have e : (List.filter isI (ns.map Dt.int)).map id = ns.map Dt.int := by
        rw [List.map_id, List.filter_eq_self]
        intro d hd
        obtain ⟨n, _, rfl⟩ := List.mem_map.mp hd
        rfl
      rw [e]
      walk_at "rd"
      rw [decide_eq_true hk]
      exact q'
  · rw [decide_eq_false hk] at q'
    simp only [decide_eq_false hk]
    exact q'
abbrev FN : DSp := BX (fun f : I3 => [t3 f]) (fun f => B3 2000 f) fun f => .int (meas f)
theorem TF (T : Txt K mg)
    : Pm P w K mg base 1 "_law_bar" Dr ["_law_form"] FN := by
  obtain ⟨f, fd, F⟩ := T.t__law_bar
  refine ⟨f, fd, F, F.fn.okD T5 (by walk_at "lE") fun cdv A outer s H E hr => ⟨_, (Ah (Aq (Bk (Ak (Ac (dv 0) Ab) (Ac (dv 0) Ab)) (Ak (Ak Ab (Ac (dv 0) Ab)) (Ac (dv 0) Ab))))), fun ds Q h => ?_⟩⟩
  obtain ⟨f, rfl, hf, q⟩ := h
  have hf : B3 2000 f := hf
  have q' := q _ rfl
  have four : Bt 3 4 := Bt.of_abs (by decide)
  walk_at "go"
  exact ⟨hf.2.1.mulOk hf.2.1, four.mulOk hf.1, (four.mul hf.1).mulOk hf.2.2, q'⟩
abbrev HX : DSp := spec (fun n : Int => [.int n]) (fun n => 0 ≤ n ∧ Bt 4000 n) fun n d => ∃ r, d = .int r ∧ Sq n r ∧ Bt 2001 r
theorem Rz (T : Txt K mg)
    : Pm P w K mg base 1 "_law_root" Ef ["_law_number"] HX := by
  obtain ⟨f, fd, F⟩ := T.t__law_root
  refine ⟨f, fd, F, F.fn.okD Hz (by walk_at "lE") fun cdv A outer s H E hr => ⟨_, (Ad (Al 1 Hz.nd (Y5 Ab (Br (Bj (WT (dv 0)) Ab) Ab))) (Ad (Dl PassesOwn.never (Nq (Ak (dv 1) (dv 1)) (dv 0)) (Ah (Al 1 Hz.nd (Br (Bj (dv 1) (Br (dv 0) (dv 1))) Ab)))) (Ah (Aq (dv 1))))), fun ds Q h => ?_⟩⟩
  obtain ⟨n, rfl, ⟨h0, hb⟩, q⟩ := h
  walk_at "go"
  obtain ⟨c1, c2, c3⟩ := Ms hb
  have hu := TV h0
  refine ⟨⟨by decide, by decide⟩, c1, ?_⟩
  generalize (1 * 2 ^ ((((Builtin.Int.intBits n : Nat) : Int) + 1).fdiv 2).toNat : Int) = g at *
  refine Ds (fun m ρ => ∃ g : Int, ρ = [some (.is (.int n)), some (.is (.int g))] ∧ 0 ≤ g ∧ Bt 2001 g ∧ n < (g + 1) * (g + 1) ∧ m = g.toNat) _ ⟨g, rfl, by omega, c2, hu, rfl⟩ ?_
  rintro m _ ⟨g, rfl, hg, hgb, hgu, rfl⟩
  walk_at "rd"
  refine ⟨hgb.mulOk hgb, Ek (fun hw => ?_) (fun hw => ?_)⟩
  · have hw := of_decide_eq_true hw
    have hg0 : 0 < g := by
      rcases Int.lt_or_le 0 g with z | z
      · exact z
      · have : g = 0 := by omega
        subst this
        omega
    have hd := S8 hg0 hw
    have hu' := Qm h0 hg0
    have hp : 0 ≤ (g + n / g) / 2 := by
      have := Int.ediv_nonneg h0 (show 0 ≤ g by omega)
      omega
    have hbb : Bt 2001 ((g + n / g) / 2) := by unfold Bt at *; omega
    refine ⟨Bt.divOk hgb (by omega), ⟨by decide, by decide⟩, ?_⟩
    rw [QW hg0]
    exact ⟨_, by omega, _, rfl, hp, hbb, hu', rfl⟩
  · have hw : ¬ n < g * g := fun z => hw (decide_eq_true z)
    exact q _ ⟨g, rfl, ⟨by omega, by omega, hgu⟩, hgb⟩
abbrev J8 : DSp := spec (fun f : I3 => [t3 f]) (fun f => B3 1500 f ∧ 0 ≤ meas f) fun f d => ∃ b : Bool, d = .bl b ∧ (b = true ↔ HY (meas f))
theorem RJ (T : Txt K mg)
    (G__law_bar : Pm P w K mg base 1 "_law_bar" Dr ["_law_form"] FN)
    (G__law_root : Pm P w K mg base 1 "_law_root" Ef ["_law_number"] HX)
    : Pm P w K mg base 2 "_law_flat" FW ["_law_form"] J8 := by
  obtain ⟨f, fd, F⟩ := T.t__law_flat
  refine ⟨f, fd, F, F.fn.okD HD (by walk_at "lE") fun cdv A outer s H E hr => ⟨_, (Ad (Al 1 HD.nd (Ag Ae G__law_bar (hr.mono (by decide)) rfl (Aa (dv 0) Af))) (Ad (Al 2 HD.nd (Ag Ae G__law_root (hr.mono (by decide)) rfl (Aa (dv 1) Af))) (Ah (Aq (Qq hr.units (Ak (dv 2) (dv 2)) (dv 1)))))), fun ds Q h => ?_⟩⟩
  obtain ⟨f, rfl, ⟨hf, h0⟩, q⟩ := h
  have hf : B3 1500 f := hf
  have h0 : 0 ≤ meas f := h0
  have four : Bt 3 4 := Bt.of_abs (by decide)
  have bm : Bt 4000 (meas f) := ((hf.2.1.mul hf.2.1).sub (((four.mul hf.1).mul hf.2.2).le (m := 3010) (by decide))).le (by decide)
  walk_at "go"
  refine Aj f (hf.le (by decide)) (Ba (meas f) ⟨h0, bm⟩ ?_)
  rintro _ ⟨r, rfl, hs, hb⟩
  walk_at "rd"
  refine ⟨hb.mulOk hb, q _ ⟨_, rfl, ?_⟩⟩
  rw [decide_eq_true_eq]
  refine ⟨fun e => ⟨r, e⟩, fun ⟨x, e⟩ => ?_⟩
  obtain ⟨r0, r1, r2⟩ := hs
  have e2 : (x.natAbs : Int) * x.natAbs = meas f := (Int.natAbs_mul_self' x).trans e
  obtain ⟨k, ek, k0⟩ : ∃ k : Int, (x.natAbs : Int) = k ∧ 0 ≤ k := ⟨_, rfl, by omega⟩
  rw [ek] at e2
  rcases Int.lt_trichotomy r k with z | z | z
  · have := Int.mul_le_mul (show r + 1 ≤ k by omega) (show r + 1 ≤ k by omega) (by omega) k0
    omega
  · rw [z]; exact e2
  · have := Int.mul_le_mul (show k + 1 ≤ r by omega) (show k + 1 ≤ r by omega) (by omega) r0
    have : (k + 1) * (k + 1) = k * k + 2 * k + 1 := by grind
    omega
abbrev K1 : DSp := BX (fun p : I2 => [.int p.1, .int p.2]) (fun _ => True) fun p => .int ((Int.gcd p.1 p.2 : Nat) : Int)
theorem R5 (T : Txt K mg)
    : Pm P w K mg base 1 "_law_rest" Fy ["_law_one", "_law_other"] K1 := by
  obtain ⟨f, fd, F⟩ := T.t__law_rest
  refine ⟨f, fd, F, F.fn.okD Kw (by walk_at "lE") fun cdv A outer s H E hr => ⟨_, (Ad (Dl PassesOwn.never (GF hr.units (dv 1) Ab) (Ah (WL rfl Kw.nd 0 1 (Aa (dv 1) (Aa (CV (dv 0) (dv 1)) Af))))) (Ah (Aq (IV T.z_abs (Aa (dv 0) Af))))), fun ds Q h => ?_⟩⟩
  obtain ⟨⟨a, b⟩, rfl, _, q⟩ := h
  simp only [Nm, Oa, Nx]
  refine Ds (fun m ρ => ∃ x y, ρ = [some (.is (.int x)), some (.is (.int y))] ∧ Int.gcd x y = Int.gcd a b ∧ m = y.natAbs) _ ⟨a, b, rfl, rfl, rfl⟩ ?_
  rintro m _ ⟨x, y, rfl, hg, rfl⟩
  walk_at "rd"
  by_cases hy : y = 0
  · subst hy
    simp only [decide_true, Bool.not_true]
    walk_at "rd"
    have q' := q _ rfl
    have e : (if x < 0 then -x else x) = ((Int.gcd a b : Nat) : Int) := by rw [← hg, Int.gcd_zero_right]; split <;> omega
    rw [e]
    exact q'
  · simp only [decide_eq_false hy, Bool.not_false, if_true]
    exact ⟨hy, _, HJ hy, y, x.fmod y, rfl, (KY x y).trans hg, rfl⟩
abbrev Kc : DSp := spec (fun p : Int × List Int => [.int p.1, .lst (p.2.map Dt.int)]) (fun p => p.1 = 0 ∧ p.2.length ≤ 63) fun p d => ∃ t : I4, d = t4 t ∧ det t = 1 ∧ B4 210 t
theorem Rq (T : Txt K mg)
    : Pm P w K mg base 1 "_law_turn" Fx ["_law_first", "_law_cells"] Kc := by
  obtain ⟨f, fd, F⟩ := T.t__law_turn
  refine ⟨f, fd, F, F.fn.okD BR (by walk_at "lE") fun cdv A outer s H E hr => ⟨_, (Ad (K5 (Bp (Aa Ab (Aa (dv 0) (Aa Ab (Aa Ab Af))))) (M7 (n := 4) rfl (BK (BP 2 BR.nd) (BK (BP 3 BR.nd) (BK (BP 4 BR.nd) (BK (BP 5 BR.nd) Jm)))))) (Ad (Uu PassesOwn.never rfl (Rt (dv 1)) (BP 6 BR.nd) (Ad (Al 7 BR.nd (Bk (CV (dv 6) Ab) Ab)) (Ah (K5 (Bp (Aa (dv 3) (Aa (Bk (Ak (dv 7) (dv 3)) (dv 2)) (Aa (dv 5) (Aa (Bk (Ak (dv 7) (dv 5)) (dv 4)) Af))))) (M7 (n := 4) rfl (BK (BP 2 BR.nd) (BK (BP 3 BR.nd) (BK (BP 4 BR.nd) (BK (BP 5 BR.nd) Jm))))))))) (Ah (Aq (Bp (Aa (dv 2) (Aa (dv 3) (Aa (dv 4) (Aa (dv 5) Af))))))))), fun ds Q h => ?_⟩⟩
  obtain ⟨⟨f, cs⟩, rfl, ⟨hf, hl⟩, q⟩ := h
  have hf : f = 0 := hf
  walk_at "go"
  refine ⟨Av (by decide), ?_⟩
  have low : ∀ {i : Nat} {x : Int}, i ≤ 63 → x.natAbs ≤ 10 ^ i → Bt 210 x := fun {i x} hi h => by
    have h1 : (10 : Nat) ^ i ≤ 10 ^ 63 := Nat.pow_le_pow_right (by decide) hi
    have h2 : (10 : Nat) ^ 63 < 2 ^ 210 := by decide
    exact Nat.lt_of_le_of_lt h (Nat.lt_of_le_of_lt h1 h2)
  have hl : cs.length ≤ 63 := hl
  refine R8 (cs.map Dt.int) (fun R h => h) (fun i ρ => ∃ p q r s x y, ρ = [some (.is (.int f)), some (.is (.lst (cs.map Dt.int))), some (.is (.int p)), some (.is (.int q)), some (.is (.int r)), some (.is (.int s)), x, y] ∧ p * s - q * r = 1 ∧ p.natAbs ≤ 10 ^ i ∧ q.natAbs ≤ 10 ^ i ∧ r.natAbs ≤ 10 ^ i ∧ s.natAbs ≤ 10 ^ i) ?_ ?_ ?_
  · exact ⟨1, f, 0, 1, none, none, rfl, by omega, by decide, by rw [hf]; decide, by decide, by decide⟩
  · rintro i d _ hi ⟨p, q, r, s, x, y, rfl, hd, hp, hq, hr, hs⟩
    obtain ⟨n, hn, rfl⟩ := ints_get hi
    have hk0 : n.fmod 19 = n % 19 := Int.fmod_eq_emod_of_nonneg n (by decide)
    have hk : Bt 4 (n.fmod 19 - 9) := by
      rw [hk0]
      exact Bt.of (by omega) (by omega)
    have hi6 : i < 63 := by
      have := (List.getElem?_eq_some_iff.mp hn).1
      omega
    have hq' : Bt 210 q := low (by omega) hq
    have hs' : Bt 210 s := low (by omega) hs
    have e10 : 10 ^ (i + 1) = 10 * 10 ^ i := by rw [Nat.pow_succ, Nat.mul_comm]
    have up : ∀ {x y k : Int}, k.natAbs ≤ 9 → x.natAbs ≤ 10 ^ i → y.natAbs ≤ 10 ^ i → (k * x - y).natAbs ≤ 10 ^ (i + 1) := fun {x y k} h1 h2 h3 => by
      have a1 : (k * x).natAbs ≤ 9 * 10 ^ i := by rw [Int.natAbs_mul]; exact Nat.mul_le_mul h1 h2
      rw [e10]
      omega
    have k9 : (n.fmod 19 - 9).natAbs ≤ 9 := by rw [hk0]; omega
    walk_at "rd"
    refine ⟨by decide, by walk_at "mul", by walk_at "mul", Av (by decide), ?_⟩
    refine ⟨q, (n.fmod 19 - 9) * q - p, s, (n.fmod 19 - 9) * s - r, _, _, rfl, by grind, by omega, up k9 hq hp, by omega, up k9 hs hr⟩
  · rintro _ ⟨p, q', r, s, x, y, rfl, hd, hp, hq, hr, hs⟩
    walk_at "rd"
    rw [List.length_map] at hp hq hr hs
    refine ⟨Av (by decide), q _ ⟨(p, q', r, s), rfl, hd, low hl hp, low hl hq, low hl hr, low hl hs⟩⟩
abbrev JK : DSp := BX (fun p : I3 × I2 => [t3 p.1, .int p.2.1, .int p.2.2]) (fun p => B3 20000 p.1 ∧ B2 20000 p.2) fun p => .int (val p.1 p.2)
theorem Qd (T : Txt K mg)
    : Pm P w K mg base 1 "_law_value" EY ["_law_form", "_law_x", "_law_y"] JK := by
  obtain ⟨f, fd, F⟩ := T.t__law_value
  refine ⟨f, fd, F, F.fn.okD Pr (by walk_at "lE") fun cdv A outer s H E hr => ⟨_, (Ah (Aq (Bj (Bj (Ak (Ak (Ac (dv 0) Ab) (dv 1)) (dv 1)) (Ak (Ak (Ac (dv 0) Ab) (dv 1)) (dv 2))) (Ak (Ak (Ac (dv 0) Ab) (dv 2)) (dv 2))))), fun ds Q h => ?_⟩⟩
  obtain ⟨⟨⟨a, b, c⟩, x, y⟩, rfl, ⟨⟨ha, hb, hc⟩, hx, hy⟩, q⟩ := h
  walk_at "go"
  walk_at "muls"
  exact q _ rfl
abbrev JF : DSp := BX (fun p : I3 × I4 => [t3 p.1, t4 p.2]) (fun p => B3 20000 p.1 ∧ B4 15000 p.2) fun p => t3 (mov p.1 p.2)
theorem PX (T : Txt K mg)
    (G__law_value : Pm P w K mg base 1 "_law_value" EY ["_law_form", "_law_x", "_law_y"] JK)
    : Pm P w K mg base 2 "_law_moved" Fd ["_law_form", "_law_turn_here"] JF := by
  obtain ⟨f, fd, F⟩ := T.t__law_moved
  refine ⟨f, fd, F, F.fn.okD Di (by walk_at "lE") fun cdv A outer s H E hr => ⟨_, (Ad (K5 (dv 1) (M7 (n := 4) rfl (BK (BP 2 Di.nd) (BK (BP 3 Di.nd) (BK (BP 4 Di.nd) (BK (BP 5 Di.nd) Jm)))))) (Ad (Al 6 Di.nd (Bk (Bk (Ag Ae G__law_value (hr.mono (by decide)) rfl (Aa (dv 0) (Aa (Bj (dv 2) (dv 3)) (Aa (Bj (dv 4) (dv 5)) Af)))) (Ag Ae G__law_value (hr.mono (by decide)) rfl (Aa (dv 0) (Aa (dv 2) (Aa (dv 4) Af))))) (Ag Ae G__law_value (hr.mono (by decide)) rfl (Aa (dv 0) (Aa (dv 3) (Aa (dv 5) Af)))))) (Ah (Aq (Bp (Aa (Ag Ae G__law_value (hr.mono (by decide)) rfl (Aa (dv 0) (Aa (dv 2) (Aa (dv 4) Af)))) (Aa (dv 6) (Aa (Ag Ae G__law_value (hr.mono (by decide)) rfl (Aa (dv 0) (Aa (dv 3) (Aa (dv 5) Af)))) Af)))))))), fun ds Q h => ?_⟩⟩
  obtain ⟨⟨f, e, g, i, j⟩, rfl, ⟨hf, he, hg, hi, hj⟩, q⟩ := h
  walk_at "go"
  have h1 : B2 20000 (e + g, i + j) := ⟨(he.add hg).le (by decide), (hi.add hj).le (by decide)⟩
  have h2 : B2 20000 (e, i) := ⟨he.le (by decide), hi.le (by decide)⟩
  have h3 : B2 20000 (g, j) := ⟨hg.le (by decide), hj.le (by decide)⟩
  refine Aj (f, (e + g, i + j)) ⟨hf, h1⟩ (Aj (f, (e, i)) ⟨hf, h2⟩ ?_)
  walk_at "rd"
  refine Aj (f, (g, j)) ⟨hf, h3⟩ ?_
  walk_at "rd"
  refine Aj (f, (e, i)) ⟨hf, h2⟩ (Aj (f, (g, j)) ⟨hf, h3⟩ ⟨Av (by decide), ?_⟩)
  have q' := q _ rfl
  dsimp only [mov] at q'
  have em : val f (e + g, i + j) - val f (e, i) - val f (g, j) = mid f (e, i) (g, j) := by
    obtain ⟨a, b, c⟩ := f
    simp only [val, mid]; grind
  rw [em]
  exact q'
def Z5 (sort both : Int) (b last : Int) : Prop := (sort.fmod 3 < 2 → b * b - 4 * (both * last) < 0 ∧ Bt 121 b ∧ Bt 123 last) ∧ (¬ sort.fmod 3 < 2 → 0 ≤ b * b - 4 * (both * last) ∧ b * b - 4 * (both * last) ≤ 4000 ∧ Bt 121 b ∧ Bt 123 last)
abbrev Mf : DSp := spec (fun p : List Int × I3 => [.lst (p.1.map Dt.int), .int p.2.1, .int p.2.2.1, .int p.2.2.2]) (fun p => 0 < p.2.2.1 ∧ 0 < p.2.2.2 ∧ p.2.2.2 ≤ 10 ^ 12 ∧ p.2.2.1 < 2 ^ 120 ∧ (¬ p.2.1.fmod 3 < 2 → p.2.2.1 ≤ 1000)) fun p d => ∃ b last, d = .lst [.int b, .int last] ∧ Z5 p.2.1 p.2.2.1 b last
theorem Tz (T : Txt K mg)
    (G__law_cell : Pm P w K mg base 1 "_law_cell" Ei ["_law_script", "_law_k"] Gi)
    : Pm P w K mg base 2 "_law_sum" Gw ["_law_script", "_law_sort", "_law_both", "_law_size"] Mf := by
  obtain ⟨f, fd, F⟩ := T.t__law_sum
  refine ⟨f, fd, F, F.fn.okD GZ (by walk_at "lE") fun cdv A outer s H E hr => ⟨_, (Ad (Al 4 GZ.nd (CV (Ag Ae G__law_cell (hr.mono (by decide)) rfl (Aa (dv 0) (Aa Ab Af))) (Ak Ab (dv 2)))) (Ad (Cr (J7 (CV (dv 1) Ab) Ab) (Ah (Aq (RL (Aa (Bk (dv 4) (dv 2)) (Aa (Bj (Bj (Br (Ak (Bk (dv 4) (dv 2)) (Bk (dv 4) (dv 2))) (Ak Ab (dv 2))) Ab) (CV (Ag Ae G__law_cell (hr.mono (by decide)) rfl (Aa (dv 0) (Aa Ab Af))) (dv 3))) Af))))) Bl) (Ad (Al 5 GZ.nd (CV (Ak (dv 4) (dv 4)) (Ak Ab (dv 2)))) (Ad (Al 6 GZ.nd (Bj (dv 5) (Ak (Ak Ab (dv 2)) (CV (Ag Ae G__law_cell (hr.mono (by decide)) rfl (Aa (dv 0) (Aa Ab Af))) (Bj Ab (Br (Bk Ab (dv 5)) (Ak Ab (dv 2)))))))) (Ah (Aq (RL (Aa (dv 4) (Aa (Br (Bk (Ak (dv 4) (dv 4)) (dv 6)) (Ak Ab (dv 2))) Af))))))))), fun ds Q h => ?_⟩⟩
  obtain ⟨⟨ns, sort, both, size⟩, rfl, ⟨h1, h2, h3, h4, h5⟩, q⟩ := h
  have h1 : 0 < both := h1
  have h2 : 0 < size := h2
  have h3 : size ≤ 10 ^ 12 := h3
  have h4 : both < 2 ^ 120 := h4
  have h5 : ¬ sort.fmod 3 < 2 → both ≤ 1000 := h5
  have q : ∀ d, (∃ b last, d = .lst [.int b, .int last] ∧ Z5 sort both b last) → Q d := q
  have bb : Bt 120 both := Bt.of (by omega) (by omega)
  have two : Bt 2 2 := Bt.of_abs (by decide)
  have four : Bt 3 4 := Bt.of_abs (by decide)
  have e12 : (10 : Int) ^ 12 = 1000000000000 := by decide
  walk_at "go"
  refine Ke ns 5 (by decide) ⟨two.mulOk bb, ?_⟩
  have rb := Dn (ns.getD (Int.toNat 5) 0) (m := 2 * both) (by omega)
  refine ⟨by omega, by decide, Ek (fun hw => ?_) (fun hw => ?_)⟩
  · generalize (ns.getD (Int.toNat 5) 0).fmod (2 * both) = x at *
    have hw := of_decide_eq_true hw
    obtain ⟨b, eb, b1, b2⟩ : ∃ b, x - both = b ∧ -both ≤ b ∧ b < both := ⟨_, rfl, by omega, by omega⟩
    rw [eb]
    have Bb : Bt 121 b := Bt.of (by omega) (by omega)
    have rc := Dn (ns.getD (Int.toNat 1) 0) (m := size) h2
    refine ⟨Bb.mulOk Bb, four.mulOk bb, Bt.divOk (four.mul bb) (by omega), Ke ns 1 (by decide) ⟨by omega, Av (by decide), q _ ⟨b, _, rfl, fun _ => ?_, fun z => absurd hw z⟩⟩⟩
    generalize (ns.getD (Int.toNat 1) 0).fmod size = c at *
    have hr := Dn (b * b) (m := 4 * both) (by omega)
    have hk := Int.fmod_def (b * b) (4 * both)
    generalize (b * b).fdiv (4 * both) = k at *
    generalize (b * b).fmod (4 * both) = r at *
    have e1 : 4 * (both * (k + 1 + c)) = 4 * both * k + 4 * both + 4 * (both * c) := by grind
    have p1 := Int.mul_nonneg (show 0 ≤ both by omega) rc.1
    have bbl : b * b ≤ both * both := by
      rcases Int.le_total 0 b with z | z
      · exact Int.mul_le_mul (by omega) (by omega) z (by omega)
      · have := Int.mul_le_mul (show -b ≤ both by omega) (show -b ≤ both by omega) (by omega) (by omega)
        have e : -b * -b = b * b := by grind
        omega
    have sq := sq_nonneg b
    have k4 : 4 * k ≤ both := by
      rcases Int.lt_or_le both (4 * k) with z | z
      · have := Int.mul_lt_mul_of_pos_left z h1
        have e : both * (4 * k) = 4 * both * k := by grind
        omega
      · exact z
    have k0 : 0 ≤ k := by
      rcases Int.lt_or_le k 0 with z | z
      · have := Int.mul_le_mul_of_nonneg_left (show k ≤ -1 by omega) (show 0 ≤ 4 * both by omega)
        omega
      · exact z
    exact ⟨by omega, Bb, Bt.of (by omega) (by omega)⟩
  · generalize (ns.getD (Int.toNat 5) 0).fmod (2 * both) = x at *
    have hw : ¬ sort.fmod 3 < 2 := fun z => hw (decide_eq_true z)
    have b10 := h5 hw
    have Bx : Bt 121 x := Bt.of (by omega) (by omega)
    have hr := Dn (x * x) (m := 4 * both) (by omega)
    have hk := Int.fmod_def (x * x) (4 * both)
    have hd := Int.fmod_def (4000 - (x * x).fmod (4 * both)) (4 * both)
    have hd2 := Dn (4000 - (x * x).fmod (4 * both)) (m := 4 * both) (by omega)
    have sq := sq_nonneg x
    have xx : x * x ≤ 4 * both * both := by
      have := Int.mul_le_mul (show x ≤ 2 * both by omega) (show x ≤ 2 * both by omega) rb.1 (by omega)
      have e : 2 * both * (2 * both) = 4 * both * both := by grind
      omega
    refine ⟨Bx.mulOk Bx, four.mulOk bb, by omega, four.mulOk bb, Ke ns 1 (by decide) ⟨four.mulOk bb, Bt.divOk (four.mul bb) (by omega), ?_⟩⟩
    dsimp only
    generalize (x * x).fdiv (4 * both) = k at *
    generalize (x * x).fmod (4 * both) = r at *
    have hm0 : 0 ≤ (4000 - r).fdiv (4 * both) := Int.fdiv_nonneg (by omega) (by omega)
    generalize (4000 - r).fdiv (4 * both) = n at *
    generalize (4000 - r).fmod (4 * both) = s at *
    have rc := Dn (ns.getD (Int.toNat 1) 0) (m := 1 + n) (by omega)
    generalize (ns.getD (Int.toNat 1) 0).fmod (1 + n) = c at *
    have cn := Int.mul_le_mul_of_nonneg_left (show c ≤ n by omega) (show 0 ≤ 4 * both by omega)
    have c0 := Int.mul_nonneg (show 0 ≤ 4 * both by omega) rc.1
    have n4 : n ≤ 4000 := by
      have := Int.mul_le_mul_of_nonneg_right (show 1 ≤ 4 * both by omega) hm0
      omega
    have k0 : 0 ≤ k := by
      rcases Int.lt_or_le k 0 with z | z
      · have := Int.mul_le_mul_of_nonneg_left (show k ≤ -1 by omega) (show 0 ≤ 4 * both by omega)
        omega
      · exact z
    have kb : k ≤ both := by
      rcases Int.lt_or_le both k with z | z
      · have := Int.mul_lt_mul_of_pos_left z (show 0 < 4 * both by omega)
        omega
      · exact z
    have el : (x * x - (r + 4 * both * c)).fdiv (4 * both) = k - c := by
      have : x * x - (r + 4 * both * c) = 4 * both * (k - c) := by
        have : 4 * both * (k - c) = 4 * both * k - 4 * both * c := by grind
        omega
      rw [this]
      exact Int.mul_fdiv_cancel_left _ (by omega)
    have bc : Bt 20 c := Bt.of (by omega) (by omega)
    have e4 : 4 * (both * (k - c)) = 4 * both * k - 4 * both * c := by grind
    refine ⟨by omega, (four.mul bb).mulOk bc, Bx.mulOk Bx, four.mulOk bb, Bt.divOk (four.mul bb) (by omega), Av (by decide), q _ ⟨x, _, rfl, fun z => absurd z hw, fun _ => ?_⟩⟩
    rw [el]
    exact ⟨by omega, by omega, Bx, Bt.of (by omega) (by omega)⟩
def DN : List Int → Int
  | [] => 1
  | x :: xs => x * DN xs
theorem Ig (x : Int) : ∀ l : List Int, DN (l ++ [x]) = DN l * x
  | [] => by simp [DN]
  | y :: l => by
    show y * DN (l ++ [x]) = y * DN l * x
    rw [Ig x l]; grind
theorem GR {a b : Int} (h0 : 0 ≤ a) (h : a ≤ b) : ∀ n : Nat, a ^ n ≤ b ^ n
  | 0 => by simp
  | n + 1 => by
    rw [Int.pow_succ, Int.pow_succ]
    exact Int.mul_le_mul (GR h0 h n) h h0 (Int.pow_nonneg (by omega))
theorem T6 {S : Int} (s0 : 0 < S) : ∀ l : List Int, (∀ x ∈ l, 1 ≤ x ∧ x ≤ S) → 1 ≤ DN l ∧ DN l ≤ S ^ l.length
  | [], _ => by simp [DN]
  | x :: l, h => by
    have hx := h x List.mem_cons_self
    have ih := T6 s0 l fun y hy => h y (List.mem_cons_of_mem _ hy)
    have e : S ^ (x :: l).length = S * S ^ l.length := by rw [List.length_cons, Int.pow_succ]; grind
    rw [e]
    refine ⟨?_, Int.mul_le_mul hx.2 ih.2 (by omega) (by omega)⟩
    have := Int.mul_le_mul hx.1 ih.1 (by decide) (by omega)
    show 1 ≤ x * DN l
    omega
theorem Qt {x : Int} : ∀ {l : List Int}, x ∈ l → x ∣ DN l
  | y :: l, h => by
    rcases List.mem_cons.mp h with rfl | h
    · exact Int.dvd_mul_right ..
    · exact Int.dvd_trans (Qt h) (Int.dvd_mul_left ..)
structure Uni (m : Nat) (b tot : Int) (ps : List Int) : Prop where
  len : ps.length = m
  ne : ∀ p ∈ ps, p ≠ 0 ∧ p ∣ tot ∧ g3 (p, b, tot.fdiv p) = 1 ∧ B3 245 (p, b, tot.fdiv p)
  pr : DN ps ∣ tot
  me : (b * b - 4 * tot < 0 ∧ ∀ p ∈ ps, 0 < p) ∨ (0 ≤ b * b - 4 * tot ∧ b * b - 4 * tot ≤ 4000)
abbrev Ir : DSp := spec (fun p : List Int × Nat => [.lst (p.1.map Dt.int), .int p.2]) (fun p => p.2 = 2 ∨ p.2 = 3) fun p d => ∃ b tot ps, d = .lst (ps.map fun x => t3 (x, b, tot.fdiv x)) ∧ Uni p.2 b tot ps
theorem Nu (T : Txt K mg)
    (G__law_cell : Pm P w K mg base 1 "_law_cell" Ei ["_law_script", "_law_k"] Gi)
    (G__law_sum : Pm P w K mg base 2 "_law_sum" Gw ["_law_script", "_law_sort", "_law_both", "_law_size"] Mf)
    (G__law_rest : Pm P w K mg base 1 "_law_rest" Fy ["_law_one", "_law_other"] K1)
    : Pm P w K mg base 3 "_law_united" Dg ["_law_script", "_law_many"] Ir := by
  obtain ⟨f, fd, F⟩ := T.t__law_united
  refine ⟨f, fd, F, F.fn.okD Ay (by walk_at "lE") fun cdv A outer s H E hr => ⟨_, (Ad (Al 2 Ay.nd (Ag Ae G__law_cell (hr.mono (by decide)) rfl (Aa (dv 0) (Aa Ab Af)))) (Ad (Al 3 Ay.nd (Ac (RL (Aa Ab (Aa Ab Af))) (Bk (dv 1) Ab))) (Ad (Cr (J7 (CV (dv 2) Ab) Ab) (Ah (Al 3 Ay.nd (Ac (RL (Aa (Aen Ab Ab) (Aa Ab Af))) (CV (Br (dv 2) Ab) Ab)))) Bl) (Ad (AaC 4 Ay.nd (Hs (sc := Ai Dg) (NN := ["_law_script", "_law_many", "_law_sort", "_law_size", "_law_pieces", "_law_both", "_law_piece", "_law_b", "_law_last", "_law_total", "_law_forms", "_law_k"]) (x := "_law_k") (N := ["_law_size", "_law_script"]) (sl := [3, 0]) rfl rfl (by decide +kernel)) rfl (Wu rfl T.z_range (Aa (dv 1) Af)) (fun cl C s0 H0 ex => (Bj Ab (CV (Ag Ae G__law_cell (hr.mono (by decide)) rfl (Aa (dv 2) (Aa (Bj Ab (dv 0)) Af))) (dv 1))))) (Ad (Al 5 Ay.nd Ab) (Ad (Uu PassesOwn.never rfl (Rt (dv 4)) (BP 6 Ay.nd) (Ah (Al 5 Ay.nd (Ak (dv 5) (dv 6))))) (Ad (K5 (Ag Ae G__law_sum (hr.mono (by decide)) rfl (Aa (dv 0) (Aa (dv 2) (Aa (dv 5) (Aa (dv 3) Af))))) (Ad8 (n := 2) rfl (BK (BP 7 Ay.nd) (BK (BP 8 Ay.nd) Jm)))) (Ad (Al 9 Ay.nd (Ak (dv 5) (dv 8))) (Ad (YM 10 Ay.nd Af) (Ad (Uu PassesOwn.never rfl (Wu rfl T.z_range (Aa (dv 1) Af)) (BP 11 Ay.nd) (Ad (Al 6 Ay.nd (Ac (dv 4) (dv 11))) (Ad (Cr (DW.dt (UJ (SN hr.units (CV (dv 2) Ab) Ab) (Rk (SN hr.units (CV (Br (Br (dv 2) Ab) (Bj (Ak Ab (dv 11)) Ab)) Ab) Ab)))) (Ah (Al 6 Ay.nd (Bk Ab (dv 6)))) Bl) (Ad (Cr (Nq (Ag Ae G__law_rest (hr.mono (by decide)) rfl (Aa (Ag Ae G__law_rest (hr.mono (by decide)) rfl (Aa (dv 6) (Aa (dv 7) Af))) (Aa (Br (dv 9) (dv 6)) Af))) Ab) (Ah (Al 6 Ay.nd Ab)) Bl) (Ah (Va 10 (Bp (Aa (dv 6) (Aa (dv 7) (Aa (Br (dv 9) (dv 6)) Af)))))))))) (Ah (Yl 10 (Aq (dv 10)))))))))))))), fun ds Q h => ?_⟩⟩
  obtain ⟨⟨ns, m⟩, rfl, hm, q⟩ := h
  have hm : m = 2 ∨ m = 3 := hm
  have q : ∀ d, (∃ b tot ps, d = .lst (ps.map fun x => t3 (x, b, tot.fdiv x)) ∧ Uni m b tot ps) → Q d := q
  have c12 : Xp 10 12 := ⟨by decide, by decide, by decide⟩
  have e12 : (10 ^ Int.toNat 12 : Int) = 1000000000000 := by decide
  have e12' : (10 : Int) ^ 12 = 1000000000000 := by decide
  walk_at "go"
  refine Ke ns 0 (by decide) ⟨Av (by decide), ?_⟩
  have hs1 : ∃ z, ixD ((m : Int) - 2) (Dt.lst [Dt.int 30, Dt.int 9]) = some (Dt.int z) ∧ ((m = 2 ∧ z = 30) ∨ (m = 3 ∧ z = 9)) := by
    rcases hm with rfl | rfl
    · exact ⟨30, rfl, .inl ⟨rfl, rfl⟩⟩
    · exact ⟨9, rfl, .inr ⟨rfl, rfl⟩⟩
  obtain ⟨z0, ez, hz⟩ := hs1
  rw [ez]
  dsimp only
  generalize ns.getD (Int.toNat 0) 0 = sort at *
  refine ⟨by decide, Ek (fun hw => ?_) (fun hw => ?_)⟩
  case' refine_1 =>
    have hw := of_decide_eq_true hw
    have r2 := Dn (sort.fdiv 3) (m := 2) (by decide)
    obtain ⟨size, ej, hj⟩ := AbO (zs := [10 ^ Int.toNat 12, 50]) (P := fun z => 0 < z ∧ z ≤ 10 ^ 12) r2.1 r2.2 (by
      simp only [List.mem_cons, List.not_mem_nil, or_false]
      rintro z (rfl | rfl)
      · rw [e12, e12']; decide
      · rw [e12']; decide)
    simp only [List.map_cons, List.map_nil] at ej
    refine ⟨c12, Av (by decide), ⟨by decide, by decide⟩, by decide, ?_⟩
    rw [ej]
    dsimp only
    have hS : 0 < size ∧ size ≤ 10 ^ 12 ∧ (¬ sort.fmod 3 < 2 → (m = 2 ∧ size ≤ 30) ∨ (m = 3 ∧ size ≤ 9)) := ⟨hj.1, hj.2, fun z => absurd hw z⟩
  case' refine_2 =>
    obtain ⟨size, es, hS⟩ : ∃ size, z0 = size ∧ (0 < size ∧ size ≤ 10 ^ 12 ∧ (¬ sort.fmod 3 < 2 → (m = 2 ∧ size ≤ 30) ∨ (m = 3 ∧ size ≤ 9))) := ⟨z0, rfl, by omega, by omega, fun _ => by omega⟩
    rw [es]
  all_goals
    obtain ⟨s0, s12, s3⟩ := hS
    refine Jp (ups 0 m) (fun d => match d with | .int k => .int (1 + (ns.getD (2 + k).toNat 0).fmod size) | _ => .non) (fun R h => ?_) (by rw [Ro]; exact Av (by omega)) (Io rfl (Io rfl GJ)) (fun d hd R hR => ?_) ?_
    · walk_at "rd"
      exact ⟨⟨by omega, by omega⟩, h⟩
    · obtain ⟨k, hk⟩ := List.getElem?_of_mem hd
      obtain ⟨hk, rfl⟩ := Rm hk
      unfold inner
      walk_at "rd"
      refine Ke ns _ (by omega) ⟨by omega, hR⟩
    obtain ⟨pc, epc, lpc, hpc⟩ : ∃ pc : List Int, (ups 0 m).map (fun d => match d with | .int k => Dt.int (1 + (ns.getD (2 + k).toNat 0).fmod size) | _ => .non) = pc.map Dt.int ∧ pc.length = m ∧ ∀ x ∈ pc, 1 ≤ x ∧ x ≤ size := by
      refine ⟨(List.range m).map fun (k : Nat) => 1 + (ns.getD (2 + (0 + (k : Int))).toNat 0).fmod size, by unfold ups; rw [List.map_map, List.map_map]; rfl, by simp, fun x hx => ?_⟩
      obtain ⟨k, _, rfl⟩ := List.mem_map.mp hx
      have := Dn (ns.getD (2 + (0 + (k : Int))).toNat 0) s0
      omega
    rw [epc]
    have pw : ∀ i, i ≤ m → 1 ≤ DN (pc.take i) ∧ DN (pc.take i) ≤ size ^ i := fun i hi => by
      have := T6 s0 (pc.take i) fun x hx => hpc x (List.mem_of_mem_take hx)
      rw [List.length_take, Nat.min_eq_left (by omega)] at this
      exact this
    have pB : ∀ i, i ≤ m → Bt 120 (DN (pc.take i)) := fun i hi => by
      have h1 := pw i hi
      have h2 : size ^ i ≤ (10 ^ 12) ^ 3 := by
        have a1 : size ^ i ≤ (10 ^ 12) ^ i := GR (by omega) s12 i
        have a2 : ((10 : Int) ^ 12) ^ i ≤ (10 ^ 12) ^ 3 := by
          rcases (show i = 0 ∨ i = 1 ∨ i = 2 ∨ i = 3 by omega) with rfl | rfl | rfl | rfl <;> decide
        omega
      have h3 : ((10 : Int) ^ 12) ^ 3 < 2 ^ 120 := by decide
      exact Bt.of (by omega) (by omega)
    refine R8 (pc.map Dt.int) (fun R h => h) (fun i ρ => ∃ x : Option En, ρ = [some (En.is (Dt.lst (List.map Dt.int ns))), some (En.is (Dt.int ↑m)), some (En.is (Dt.int sort)), some (En.is (Dt.int size)), some (En.is (Dt.lst (pc.map Dt.int))), some (En.is (Dt.int (DN (pc.take i)))), x, none, none, none, none, none]) ⟨none, rfl⟩ ?_ ?_
    · rintro i d _ hi ⟨x, rfl⟩
      obtain ⟨p, hp, rfl⟩ := ints_get hi
      have il : i < pc.length := (List.getElem?_eq_some_iff.mp hp).1
      have pp := hpc p (List.mem_of_getElem? hp)
      have bp : Bt 41 p := Bt.of (by omega) (by omega)
      walk_at "rd"
      refine ⟨(pB i (by omega)).mulOk bp, some (En.is (Dt.int p)), ?_⟩
      rw [show pc.take (i + 1) = pc.take i ++ [p] by rw [List.take_succ, hp]; rfl, Ig]
    · rintro _ ⟨x, rfl⟩
      dsimp only
      rw [List.length_map, List.take_length]
      have b1 := pw m (Nat.le_refl _)
      have b2 := pB m (Nat.le_refl _)
      rw [← lpc, List.take_length] at b1 b2
      generalize hboth : DN pc = both at *
      have both10 : ¬ sort.fmod 3 < 2 → both ≤ 1000 := fun z => by
        have h1 := s3 z
        rcases h1 with ⟨rfl, h1⟩ | ⟨rfl, h1⟩
        · have := GR (show 0 ≤ size by omega) h1 2
          rw [lpc] at b1
          have e : (30 : Int) ^ 2 = 900 := by decide
          omega
        · have := GR (show 0 ≤ size by omega) h1 3
          rw [lpc] at b1
          have e : (9 : Int) ^ 3 = 729 := by decide
          omega
      have blt : both < 2 ^ 120 := by unfold Bt at b2; omega
      walk_at "rd"
      refine Ba (ns, sort, both, size) ⟨by show 0 < both; omega, s0, s12, blt, both10⟩ ?_
      rintro _ ⟨b, last, rfl, hSum⟩
      have hSum : Z5 sort both b last := hSum
      obtain ⟨bb, bl, bme⟩ : Bt 121 b ∧ Bt 123 last ∧ ((b * b - 4 * (both * last) < 0 ∧ sort.fmod 3 < 2) ∨ (0 ≤ b * b - 4 * (both * last) ∧ b * b - 4 * (both * last) ≤ 4000)) := by
        by_cases z : sort.fmod 3 < 2
        · have := hSum.1 z; exact ⟨this.2.1, this.2.2, .inl ⟨this.1, z⟩⟩
        · have := hSum.2 z; exact ⟨this.2.2.1, this.2.2.2, .inr ⟨this.1, this.2.1⟩⟩
      walk_at "rd"
      refine ⟨b2.mulOk bl, Av (by decide), ?_⟩
      obtain ⟨tot, etot⟩ : ∃ tot, both * last = tot := ⟨_, rfl⟩
      have btot : Bt 243 tot := by rw [← etot]; exact (b2.mul bl).le (by decide)
      rw [etot] at bme ⊢
      have dtot : both ∣ tot := ⟨last, etot.symm⟩
      have form_ok : ∀ p : Int, p ≠ 0 → p ∣ both → Bt 41 p → p ∣ tot ∧ B3 245 (p, b, tot.fdiv p) := fun p h1 h2 h3 => ⟨Int.dvd_trans h2 dtot, h3.le (by decide), bb.le (by decide), (Ft btot h1).le (by decide)⟩
      refine R8 (ups 0 m) (fun R h => ?_) (fun i ρ => ∃ (ps : List Int) (x y : Option En), ρ = [some (En.is (Dt.lst (List.map Dt.int ns))), some (En.is (Dt.int ↑m)), some (En.is (Dt.int sort)), some (En.is (Dt.int size)), some (En.is (Dt.lst (pc.map Dt.int))), some (En.is (Dt.int both)), x, some (En.is (Dt.int b)), some (En.is (Dt.int last)), some (En.is (Dt.int tot)), some (En.own (ps.map fun x => t3 (x, b, tot.fdiv x))), y] ∧ ps.length = i ∧ (∀ p ∈ ps, p ≠ 0 ∧ p ∣ tot ∧ g3 (p, b, tot.fdiv p) = 1 ∧ B3 245 (p, b, tot.fdiv p)) ∧ DN ps ∣ DN (pc.take i) ∧ (sort.fmod 3 < 2 → ∀ p ∈ ps, 0 < p)) ⟨[], _, _, rfl, rfl, fun _ h => (nomatch h), ⟨1, rfl⟩, fun _ _ h => (nomatch h)⟩ ?_ ?_
      · walk_at "rd"
        exact ⟨⟨by omega, by omega⟩, h⟩
      · rintro i d _ hi ⟨ps, x1, y1, rfl, lps, hps, dps, sps⟩
        obtain ⟨im, rfl⟩ := Rm hi
        have il : i < pc.length := by omega
        obtain ⟨p, hp⟩ : ∃ p, pc[i]? = some p := ⟨pc[i], by simp [il]⟩
        have ep : pc.getD (0 + (i : Int)).toNat 0 = p := by
          rw [show (0 + (i : Int)).toNat = i by omega]
          simp [List.getD, hp]
        have pp := hpc p (List.mem_of_getElem? hp)
        have bp : Bt 41 p := Bt.of (by omega) (by omega)
        have pd : p ∣ both := by rw [← hboth]; exact Qt (List.mem_of_getElem? hp)
        have tk : pc.take (i + 1) = pc.take i ++ [p] := by rw [List.take_succ, hp]; rfl
        have two : Bt 2 2 := Bt.of_abs (by decide)
        have bi : Bt 3 (0 + (i : Int)) := Bt.of (by omega) (by omega)
        walk_at "rd"
        rw [RZ (by omega) (by omega), ep]
        dsimp only
        have last' : ∀ p' : Int, p' ≠ 0 → p' ∣ p → Bt 41 p' → (sort.fmod 3 < 2 → 0 < p') → g3 (p', b, tot.fdiv p') = 1 → ∀ x2 y2 : Option En, CDv tot p' ∧ 3 ≤ sizeLine ∧ ps.length < sizeLine ∧ ∃ (ps_1 : List Int) (x y : Option En), [some (En.is (Dt.lst (List.map Dt.int ns))), some (En.is (Dt.int ↑m)), some (En.is (Dt.int sort)), some (En.is (Dt.int size)), some (En.is (Dt.lst (pc.map Dt.int))), some (En.is (Dt.int both)), x2, some (En.is (Dt.int b)), some (En.is (Dt.int last)), some (En.is (Dt.int tot)), some (En.own ((ps.map fun x => t3 (x, b, tot.fdiv x)) ++ [Dt.tup [Dt.int p', Dt.int b, Dt.int (tot.fdiv p')]])), y2] = [some (En.is (Dt.lst (List.map Dt.int ns))), some (En.is (Dt.int ↑m)), some (En.is (Dt.int sort)), some (En.is (Dt.int size)), some (En.is (Dt.lst (pc.map Dt.int))), some (En.is (Dt.int both)), x, some (En.is (Dt.int b)), some (En.is (Dt.int last)), some (En.is (Dt.int tot)), some (En.own (ps_1.map fun x => t3 (x, b, tot.fdiv x))), y] ∧ ps_1.length = i + 1 ∧ (∀ p ∈ ps_1, p ≠ 0 ∧ p ∣ tot ∧ g3 (p, b, tot.fdiv p) = 1 ∧ B3 245 (p, b, tot.fdiv p)) ∧ DN ps_1 ∣ DN (pc.take (i + 1)) ∧ (sort.fmod 3 < 2 → ∀ p ∈ ps_1, 0 < p) := fun p' h1 h2 h3 h4 h5 x2 y2 => by
          refine ⟨Bt.divOk h3 h1, Av (by decide), Nat.lt_of_lt_of_le (show ps.length < 1000 by omega) (Av (by decide)), ps ++ [p'], x2, y2, by rw [List.map_append]; rfl, by rw [List.length_append, lps]; rfl, fun r hr => ?_, ?_, fun z r hr => ?_⟩
          · rcases List.mem_append.mp hr with hr | hr
            · exact hps r hr
            · rw [List.mem_singleton.mp hr]
              have := form_ok p' h1 (Int.dvd_trans h2 pd) h3
              exact ⟨h1, this.1, h5, this.2⟩
          · rw [tk, Ig, Ig]
            exact Int.mul_dvd_mul dps h2
          · rcases List.mem_append.mp hr with hr | hr
            · exact sps z r hr
            · rw [List.mem_singleton.mp hr]; exact h4 z
        refine ⟨by decide, Ek (fun h1 => ⟨⟨by decide, by decide⟩, two.mulOk bi, Bt.divOk (n := 10) (Bt.of (by omega) (by omega)) (by omega), by decide, Ek (fun _ => ?_) (fun _ => ?_)⟩) (fun h1 => ?_)⟩
        case' refine_1 =>
          have h1 := of_decide_eq_true h1
          obtain ⟨p', ep', f1, f2, f3, f4⟩ : ∃ p', 0 - p = p' ∧ p' ≠ 0 ∧ p' ∣ p ∧ Bt 41 p' ∧ (sort.fmod 3 < 2 → 0 < p') := ⟨_, rfl, by omega, ⟨-1, by omega⟩, Bt.of (by omega) (by omega), fun z => by omega⟩
          rw [ep']
        case' refine_2 =>
          obtain ⟨p', ep', f1, f2, f3, f4⟩ : ∃ p', p = p' ∧ p' ≠ 0 ∧ p' ∣ p ∧ Bt 41 p' ∧ (sort.fmod 3 < 2 → 0 < p') := ⟨_, rfl, by omega, ⟨1, by omega⟩, bp, fun z => by omega⟩
          rw [ep']
        case' refine_3 =>
          obtain ⟨p', ep', f1, f2, f3, f4⟩ : ∃ p', p = p' ∧ p' ≠ 0 ∧ p' ∣ p ∧ Bt 41 p' ∧ (sort.fmod 3 < 2 → 0 < p') := ⟨_, rfl, by omega, ⟨1, by omega⟩, bp, fun z => by omega⟩
          rw [ep']
        all_goals
          refine Aj (p', b) trivial ⟨Bt.divOk f3 f1, Aj (((Int.gcd p' b : Nat) : Int), tot.fdiv p') trivial ?_⟩
          refine Ek (fun _ => last' 1 (by decide) ⟨p, by omega⟩ (Bt.one.le (by decide)) (fun _ => by decide) ?_ _ _) (fun hg => last' p' f1 f2 f3 f4 ?_ _ _)
          · unfold g3
            simp
          · have hg := fun z => hg (decide_eq_true z)
            have g0 := AdU (f := (p', b, tot.fdiv p')) f1
            have hg : ¬ (1 : Int) < ((g3 (p', b, tot.fdiv p') : Nat) : Int) := hg
            omega
      · rintro _ ⟨ps, x1, y1, rfl, lps, hps, dps, sps⟩
        rw [Ro] at lps dps
        dsimp only
        walk_at "rd"
        refine q _ ⟨b, tot, ps, rfl, lps, hps, ?_, ?_⟩
        · rw [← lpc, List.take_length, hboth] at dps
          exact Int.dvd_trans dps dtot
        · rcases bme with ⟨z1, z2⟩ | z
          · exact .inl ⟨z1, sps z2⟩
          · exact .inr z
theorem Jl {f : I3} : meas (f.1, 0 - f.2.1, f.2.2) = meas f := by
  show (0 - f.2.1) * (0 - f.2.1) - 4 * f.1 * f.2.2 = f.2.1 * f.2.1 - 4 * f.1 * f.2.2
  grind
theorem Ag7 {f : I3} : g3 (f.1, 0 - f.2.1, f.2.2) = g3 f := by
  unfold g3
  rw [Int.zero_sub]
  simp
theorem Te {f : I3} {t : I4} (h : Bf f ∨ Sad f) (dt : det t = 1) : Bf (mov f t) ∨ Sad (mov f t) := by
  rcases h with h | h
  · exact .inl (Ku h dt)
  · exact .inr (h.mov dt)
theorem Agd {f h : I3} {n m : Nat} (bf : Bt n f.1) (bh : Bt m h.1) (ha : f.1 ≠ 0) : Bt (n + m) (jA f h (gJ f h)) := by
  have g0 := Lw (h := h) ha
  obtain ⟨x, hx⟩ := (JM (f := f) (h := h)).1
  obtain ⟨y, hy⟩ := (JM (f := f) (h := h)).2.1
  have e : f.1 * h.1 = gJ f h * gJ f h * (x * y) := by
    have : f.1 * h.1 = (gJ f h * x) * (gJ f h * y) := by rw [← hx, ← hy]
    rw [this]; grind
  unfold jA
  rw [e, Int.mul_fdiv_cancel_left _ (Int.mul_ne_zero (by omega) (by omega))]
  refine Qj (b := gJ f h * gJ f h) ?_ (Int.mul_ne_zero (by omega) (by omega))
  rw [Int.mul_comm, ← e]
  exact bf.mul bh
theorem Pair.of {f h : I3} (bf : B3 690 f) (bh : B3 690 h) (kf : Bf f ∨ Sad f) (kh : Bf h ∨ Sad h) (m : meas f = meas h) (pf : g3 f = 1) (ph : g3 h = 1) (bm : Bt 600 (meas f)) : Pair f h :=
  ⟨bf.le (by decide), bh.le (by decide), kf, kh, m, pf, ph, bm, (Agd bf.1 bh.1 (Ey kf)).le (by decide)⟩
theorem Cz.same {f h : I3} {t u : I4} {d e : Dt} (A : Cz f h d) (B : Cz (mov f t) (mov h u) e) (dt : det t = 1) (du : det u = 1) (pf : g3 f = 1) : ∃ G p q r s, d = .tup [t3 G, Hf p q] ∧ e = .tup [t3 G, Hf r s] := by
  obtain ⟨F, G, p, q, c1, L1, _, _, _, e1, _⟩ := A
  obtain ⟨F', G', r, s, c2, L2, _, _, _, e2, _⟩ := B
  obtain ⟨x, dx, ex⟩ := ((c1.movL dt).movR du).same c2 (by rw [K9 dt]; exact pf)
  have eG : G = G' := L1.same L2 dx ex
  subst eG
  exact ⟨G, p, q, r, s, e1, e2⟩
theorem Cz.turn {f h : I3} {t u : I4} {d e : Dt} (A : Cz f h d) (B : Cz (mov h u) (mov f t) e) (dt : det t = 1) (du : det u = 1) (pf : g3 f = 1) : ∃ G p q r s, d = .tup [t3 G, Hf p q] ∧ e = .tup [t3 G, Hf r s] := by
  obtain ⟨F, G, p, q, c1, L1, _, _, _, e1, _⟩ := A
  obtain ⟨F', G', r, s, c2, L2, _, _, _, e2, _⟩ := B
  obtain ⟨x, dx, ex⟩ := ((c1.movL dt).movR du).same c2.swap (by rw [K9 dt]; exact pf)
  have eG : G = G' := L1.same L2 dx ex
  subst eG
  exact ⟨G, p, q, r, s, e1, e2⟩
theorem Adx {ps : List Int} (h : ps.length = 2) : ∃ a b, ps = [a, b] := by
  match ps, h with
  | [a, b], _ => exact ⟨a, b, rfl⟩
theorem Sx {p b tot : Int} (h0 : p ≠ 0) (h : p ∣ tot) : meas (p, b, tot.fdiv p) = b * b - 4 * tot := by
  obtain ⟨k, rfl⟩ := h
  rw [Int.mul_fdiv_cancel_left _ h0]
  show b * b - 4 * p * k = _
  grind
structure Ak6 (f h : I3) (b tot x y : Int) : Prop where
  mf : meas f = b * b - 4 * tot
  mh : meas h = b * b - 4 * tot
  pf : g3 f = 1
  ph : g3 h = 1
  bf : B3 245 f
  bh : B3 245 h
  bm : Bt 600 (meas f)
  bowl : b * b - 4 * tot < 0 → Bf f ∧ Bf h
  sad : 0 ≤ b * b - 4 * tot → ¬ HY (b * b - 4 * tot) → Sad f ∧ Sad h
  one : ∃ e, tot = x * y * e ∧ f = (x, b, y * e) ∧ h = (y, b, x * e)
theorem Aca {b tot x y : Int} {f h : I3} (U : Uni 2 b tot [x, y]) (ef : (x, b, tot.fdiv x) = f) (eh : (y, b, tot.fdiv y) = h) : Ak6 f h b tot x y := by
  have hx := U.ne x (by simp)
  have hy := U.ne y (by simp)
  have mf : meas f = b * b - 4 * tot := by rw [← ef]; exact Sx hx.1 hx.2.1
  have mh : meas h = b * b - 4 * tot := by rw [← eh]; exact Sx hy.1 hy.2.1
  have bf : B3 245 f := by rw [← ef]; exact hx.2.2.2
  have four : Bt 3 4 := Bt.of_abs (by decide)
  refine ⟨mf, mh, by rw [← ef]; exact hx.2.2.1, by rw [← eh]; exact hy.2.2.1, bf, by rw [← eh]; exact hy.2.2.2, ((bf.2.1.mul bf.2.1).sub (((four.mul bf.1).mul bf.2.2).le (m := 500) (by decide))).le (by decide), fun z => ?_, fun z n => ?_, ?_⟩
  · rcases U.me with ⟨_, w⟩ | ⟨w, _⟩
    · exact ⟨⟨by rw [← ef]; exact w x (by simp), by rw [mf]; exact z⟩, ⟨by rw [← eh]; exact w y (by simp), by rw [mh]; exact z⟩⟩
    · omega
  · have h4 : b * b - 4 * tot ≤ 4000 := by
      rcases U.me with ⟨w, _⟩ | ⟨_, w⟩
      · omega
      · exact w
    have h0' : b * b - 4 * tot ≠ 0 := fun e => n ⟨0, by rw [e]; rfl⟩
    exact ⟨⟨by rw [mf]; exact n, by rw [mf]; omega, by rw [mf]; exact h4⟩, ⟨by rw [mh]; exact n, by rw [mh]; omega, by rw [mh]; exact h4⟩⟩
  · obtain ⟨e, he⟩ := U.pr
    have he : tot = x * (y * 1) * e := he
    have e1 : tot = x * (y * e) := by rw [he]; grind
    have e2 : tot = y * (x * e) := by rw [he]; grind
    refine ⟨e, by rw [he]; grind, ?_, ?_⟩
    · rw [← ef]
      have : tot.fdiv x = y * e := by rw [e1]; exact Int.mul_fdiv_cancel_left _ hx.1
      rw [this]
    · rw [← eh]
      have : tot.fdiv y = x * e := by rw [e2]; exact Int.mul_fdiv_cancel_left _ hy.1
      rw [this]
theorem Cz.due {f h U g : I3} {t u : I4} {d : Dt} (C : Comp f h U) (L : LF U g) (B : Cz (mov f t) (mov h u) d) (dt : det t = 1) (du : det u = 1) (pf : g3 f = 1) : ∃ p r, d = .tup [t3 g, Hf p r] := by
  obtain ⟨F', G', r, s, c2, L2, _, _, _, e2, _⟩ := B
  obtain ⟨x, dx, ex⟩ := ((C.movL dt).movR du).same c2 (by rw [K9 dt]; exact pf)
  have eG : g = G' := L.same L2 dx ex
  subst eG
  exact ⟨r, s, e2⟩
theorem Cz.due' {f h U g : I3} {t u : I4} {d : Dt} (C : Comp f h U) (L : LF U g) (B : Cz (mov h u) (mov f t) d) (dt : det t = 1) (du : det u = 1) (pf : g3 f = 1) : ∃ p r, d = .tup [t3 g, Hf p r] := by
  obtain ⟨F', G', r, s, c2, L2, _, _, _, e2, _⟩ := B
  obtain ⟨x, dx, ex⟩ := ((C.movL dt).movR du).same c2.swap (by rw [K9 dt]; exact pf)
  have eG : g = G' := L.same L2 dx ex
  subst eG
  exact ⟨r, s, e2⟩
theorem AgZ (f : I3) : Dt.flat 8 (t3 f) = true := by simp only [V8, Wk, Wc, NZ, Bool.and_true]
abbrev Jv : DSp := BX (fun p : I3 × Int => [t3 p.1, .int p.2]) (fun p => B3 20000 p.1) fun p => .bl (decide (Level p.1 p.2))
theorem Ph (T : Txt K mg)
    : Pm P w K mg base 1 "_law_level" Et ["_law_form", "_law_far"] Jv := by
  obtain ⟨f, fd, F⟩ := T.t__law_level
  refine ⟨f, fd, F, F.fn.okD Qe (by walk_at "lE") fun cdv A outer s H E hr => ⟨_, (Ah (Aq (Om (Ks O7 JB Cw Cw Ab (Ac (dv 0) Ab) (dv 1)) (LK (Ks O7 JB Cw Cw (Bk (dv 1) (Ac (dv 0) Ab)) (Ak Ab (IV T.z_abs (Aa (Ac (dv 0) Ab) Af))) (Bj (dv 1) (Ac (dv 0) Ab))))))), fun ds Q h => ?_⟩⟩
  obtain ⟨⟨⟨a, b, c⟩, far⟩, rfl, hb, q⟩ := h
  have q' := q _ rfl
  obtain ⟨ha, _, _⟩ := (show B3 20000 (a, b, c) from hb)
  have ha : Bt 20000 a := ha
  have two : Bt 2 2 := Bt.of_abs (by decide)
  have ha' : Bt 20000 (if a < 0 then -a else a) := by split <;> first | exact ha.neg | exact ha
  have q' : Q (.bl (decide (Level (a, b, c) far))) := q'
  walk_at "go"
  have hL : Level (a, b, c) far ↔ (0 < b ∧ b ≤ far) ∧ far - b < 2 * (if a < 0 then -a else a) ∧ 2 * (if a < 0 then -a else a) ≤ far + b := Iff.rfl
  generalize (if a < 0 then -a else a) = A at *
  by_cases h1 : 0 < b
  · refine ift (decide_eq_true h1) ?_
    by_cases h2 : b ≤ far
    · refine ift (decide_eq_true h2) ⟨two.mulOk ha', ?_⟩
      by_cases h3 : far - b < 2 * A
      · refine ift (decide_eq_true h3) ?_
        have e : decide (Level (a, b, c) far) = decide (2 * A ≤ far + b) := decide_eq_decide.mpr (hL.trans ⟨fun z => z.2.2, fun z => ⟨⟨h1, h2⟩, h3, z⟩⟩)
        rw [e] at q'
        exact q'
      · refine FP (decide_eq_false h3) ?_
        rw [decide_eq_false fun z => h3 (hL.mp z).2.1] at q'
        exact q'
    · refine FP (decide_eq_false h2) ?_
      rw [decide_eq_false fun z => h2 (hL.mp z).1.2] at q'
      exact q'
  · refine FP (decide_eq_false h1) ?_
    rw [decide_eq_false fun z => h1 (hL.mp z).1.1] at q'
    exact q'
abbrev Jb : DSp := BX (fun p : I3 × Int => [t3 p.1, .int p.2]) (fun p => B3 2000 p.1 ∧ p.1.2.2 ≠ 0 ∧ Bt 2000 p.2) fun p => t3 (mov p.1 (Ce p.1 p.2))
theorem N7 (T : Txt K mg)
    (G__law_bar : Pm P w K mg base 1 "_law_bar" Dr ["_law_form"] FN)
    : Pm P w K mg base 2 "_law_behind" DQ ["_law_form", "_law_top"] Jb := by
  obtain ⟨f, fd, F⟩ := T.t__law_behind
  refine ⟨f, fd, F, F.fn.okD Dv (by walk_at "lE") fun cdv A outer s H E hr => ⟨_, (Ad (K5 (dv 0) (M7 (n := 3) rfl (BK (BP 2 Dv.nd) (BK (BP 3 Dv.nd) (BK (BP 4 Dv.nd) Jm))))) (Ad (Al 5 Dv.nd (Bk (dv 1) (CV (Bj (dv 1) (dv 3)) (Ak Ab (IV T.z_abs (Aa (dv 4) Af)))))) (Ah (Aq (Bp (Aa (dv 4) (Aa (dv 5) (Aa (Br (Bk (Ak (dv 5) (dv 5)) (Ag Ae G__law_bar (hr.mono (by decide)) rfl (Aa (dv 0) Af))) (Ak Ab (dv 4))) Af)))))))), fun ds Q h => ?_⟩⟩
  obtain ⟨⟨f, top⟩, rfl, ⟨hf, h0, ht⟩, q⟩ := h
  have hf : B3 2000 f := hf
  have h0 : f.2.2 ≠ 0 := h0
  have ht : Bt 2000 top := ht
  have q' := q _ rfl
  dsimp only at q'
  obtain ⟨e, he⟩ := Kr (top := top) h0
  have hm := Bq (f := f) (t := Ce f top) Ck
  rw [he] at q' hm
  have two : Bt 2 2 := Bt.of_abs (by decide)
  have four : Bt 3 4 := Bt.of_abs (by decide)
  have hac : 2 * ab f.2.2 ≠ 0 := by rcases Aw f.2.2 with ⟨_, e⟩ | ⟨_, e⟩ <;> omega
  have ⟨d1, d2⟩ := IK (top := top) h0
  have hd : Bt 2005 (dB f top) := by
    have h1 := two.mul (V1 hf.2.2)
    have h2 := ht.sub h1
    have h3 : Bt 2004 (top - 2 * ab f.2.2) := h2.le (by decide)
    unfold Bt at *
    omega
  have em : dB f top * dB f top - meas f = 4 * f.2.2 * e := by rw [← hm]; simp only [meas]; omega
  obtain ⟨a, b, c⟩ := f
  walk_at "go"
  refine ⟨two.mulOk (V1 hf.2.2), hac, ?_⟩
  have edB : top - (top + b).fmod (2 * ab c) = dB (a, b, c) top := rfl
  rw [edB]
  refine ⟨hd.mulOk hd, Aj (a, b, c) (hf.le (by decide)) ⟨four.mulOk hf.2.2, Bt.divOk (four.mul hf.2.2) (by have : c ≠ 0 := h0; omega), Av (by decide), ?_⟩⟩
  rw [em, Int.mul_fdiv_cancel_left _ (by have : c ≠ 0 := h0; show 4 * c ≠ 0; omega)]
  exact q'
theorem Hg {a b c : Int} (h0 : 0 < a) : (-a < b ∧ b ≤ a ∧ a < c) ∨ (0 ≤ b ∧ b ≤ a ∧ a = c) ↔ Ci (a, b, c) := by
  constructor
  · rintro (⟨h1, h2, h3⟩ | ⟨h1, h2, h3⟩)
    · exact ⟨h0, by show -a ≤ b; omega, h2, by show a ≤ c; omega, fun z => by rcases z with z | z <;> (have z : _ = _ := z; dsimp only at z; omega)⟩
    · exact ⟨h0, by show -a ≤ b; omega, h2, by show a ≤ c; omega, fun _ => h1⟩
  · rintro ⟨h1, h2, h3, h4, h5⟩
    have h2 : -a ≤ b := h2
    have h3 : b ≤ a := h3
    have h4 : a ≤ c := h4
    have h5 : b = -a ∨ a = c → 0 ≤ b := h5
    by_cases z : a = c
    · exact .inr ⟨h5 (.inr z), h3, z⟩
    · refine .inl ⟨?_, h3, by omega⟩
      rcases Int.lt_or_eq_of_le h2 with w | w
      · exact w
      · have := h5 (.inl w.symm); omega
abbrev KD : DSp := spec (fun f : I3 => [t3 f]) (fun f => B3 1500 f ∧ Bf f) fun f d => ∃ g, d = t3 g ∧ LF f g
theorem Zh {a b k : Int} (h0 : 0 < a) (hk : k = (a - b).fdiv (2 * a)) : -a < b + 2 * a * k ∧ b + 2 * a * k ≤ a := by
  have h1 := Dn (a - b) (m := 2 * a) (by omega)
  have h2 := Int.fmod_def (a - b) (2 * a)
  rw [← hk] at h2
  omega
def K8 (f : I3) (m : Nat) (ρ : Cd) : Prop := ∃ (a b c : Int) (t : I4) (x : Option En), ρ = [some (.is (t3 f)), some (.is (.int a)), some (.is (.int b)), some (.is (.int c)), x] ∧ mov f t = (a, b, c) ∧ det t = 1 ∧ Bt 1500 a ∧ Bt 1500 b ∧ (Ci (a, b, c) → m = 2 * a.toNat) ∧ (¬ Ci (a, b, c) → m = 2 * a.toNat + 1)
theorem RN (T : Txt K mg)
    : Pm P w K mg base 1 "_law_bowl" FQ ["_law_form"] KD := by
  obtain ⟨f, fd, F⟩ := T.t__law_bowl
  refine ⟨f, fd, F, F.fn.okD CN (by walk_at "lE") fun cdv A outer s H E hr => ⟨_, (Ad (K5 (dv 0) (M7 (n := 3) rfl (BK (BP 1 CN.nd) (BK (BP 2 CN.nd) (BK (BP 3 CN.nd) Jm))))) (Ad (Dl PassesOwn.never (Iv (DW.dt (QF (Lh O7 JB O7 Cw Cw Cw  (Bk Ab (dv 1)) (dv 2) (dv 1) (dv 3)) (Lx (Lh JB JB (VF hr.units) Cw Cw VD  Ab (dv 2) (dv 1) (dv 3)))))) (Ad (Al 4 CN.nd (Br (Bk (dv 1) (dv 2)) (Ak Ab (dv 1)))) (Ad (WL rfl CN.nd 2 3 (Aa (Bj (dv 2) (Ak (Ak Ab (dv 1)) (dv 4))) (Aa (Bj (Bj (Ak (Ak (dv 1) (dv 4)) (dv 4)) (Ak (dv 2) (dv 4))) (dv 3)) Af))) (Ah (Cr (DW.dt (QF (Nq (dv 1) (dv 3)) (Lx (DW.dt (UJ (SN hr.units (dv 1) (dv 3)) (Rk (J7 (dv 2) Ab))))))) (Ah (AaP rfl CN.nd 1 2 3 (Aa (dv 3) (Aa (Bk Ab (dv 2)) (Aa (dv 1) Af))))) Bl))))) (Ah (Aq (Bp (Aa (dv 1) (Aa (dv 2) (Aa (dv 3) Af)))))))), fun ds Q h => ?_⟩⟩
  obtain ⟨f, rfl, ⟨hb, hw⟩, q⟩ := h
  have hw : Bf f := hw
  have hb : B3 1500 f := hb
  have q : ∀ d, (∃ g, d = t3 g ∧ LF f g) → Q d := q
  have hm : Bt 3010 (meas f) := by
    obtain ⟨h1, h2, h3⟩ := hb
    have h4 : Bt 3 4 := Bt.of_abs (by decide)
    exact ((h2.mul h2).sub ((h4.mul h1).mul h3)).le (by decide)
  have two : Bt 2 2 := Bt.of_abs (by decide)
  walk_at "go"
  obtain ⟨m0, hm1, hm2⟩ : ∃ m0, (Ci f → m0 = 2 * f.1.toNat) ∧ (¬ Ci f → m0 = 2 * f.1.toNat + 1) := by
    by_cases z : Ci f
    · exact ⟨_, fun _ => rfl, fun h => absurd z h⟩
    · exact ⟨_, fun h => absurd h z, fun _ => rfl⟩
  refine Ds (K8 f) m0 ⟨f.1, f.2.1, f.2.2, (1, 0, 0, 1), none, rfl, Cj, rfl, hb.1, hb.2.1, hm1, hm2⟩ ?_
  rintro m _ ⟨a, b, c, t, x, rfl, et, dt, ba, bb, m1, m2⟩
  have hg : Bf (a, b, c) := by rw [← et]; exact Ku hw dt
  have hgb : B3 7000 (a, b, c) := (V0 hg ba bb (by rw [← et, Bq dt]; exact hm)).le (by decide)
  have a0 : 0 < a := hg.1
  have c0 : 0 < c := Ls hg
  have bk : Bt 1502 ((a - b).fdiv (2 * a)) := Ft (ba.sub bb) (by omega)
  have ⟨s1, s2⟩ := Zh (b := b) a0 rfl
  walk_at "rd"
  obtain ⟨K, eK⟩ : ∃ K, (a - b).fdiv (2 * a) = K := ⟨_, rfl⟩
  rw [eK] at bk s1 s2 ⊢
  obtain ⟨b', eb⟩ : ∃ x, b + 2 * a * K = x := ⟨_, rfl⟩
  obtain ⟨c', ec⟩ : ∃ x, a * K * K + b * K + c = x := ⟨_, rfl⟩
  rw [eb] at s1 s2
  have em : mov f (Ao t (1, K, 0, 1)) = (a, b', c') := by
    rw [← Bd, et, ← eb, ← ec]
    simp only [mov, val, mid, Prod.mk.injEq]
    refine ⟨?_, ?_, ?_⟩ <;> grind
  have dm : det (Ao t (1, K, 0, 1)) = 1 := by
    rw [Ca, dt]
    show 1 * (1 * 1 - K * 0) = 1
    omega
  have hg' : Bf (a, b', c') := by rw [← em]; exact Ku hw dm
  have c0' : 0 < c' := Ls hg'
  have es : mov f (Ao (Ao t (1, K, 0, 1)) (0, -1, 1, 0)) = (c', 0 - b', a) := by
    rw [← Bd, em]
    simp only [mov, val, mid, Prod.mk.injEq]
    refine ⟨?_, ?_, ?_⟩ <;> grind
  have ds : det (Ao (Ao t (1, K, 0, 1)) (0, -1, 1, 0)) = 1 := by rw [Ca, dm]; rfl
  have bb' : Bt 1500 b' := by unfold Bt at *; omega
  have stay : ¬ Ci (a, b, c) → Ci (a, b', c') → ∃ m', m' < m ∧ K8 f m' [some (.is (t3 f)), some (.is (.int a)), some (.is (.int b')), some (.is (.int c')), some (.is (.int K))] := fun n L => ⟨2 * a.toNat, by rw [m2 n]; omega, a, b', c', _, _, rfl, em, dm, ba, bb', fun _ => rfl, fun z => absurd L z⟩
  have body : ¬ Ci (a, b, c) → (IntMulOk 2 a ∧ CDv (a - b) (2 * a) ∧ IntMulOk 2 a ∧ IntMulOk (2 * a) K ∧ IntMulOk a K ∧ IntMulOk (a * K) K ∧ IntMulOk b K ∧ if decide (a * K * K + b * K + c < a) = true then ∃ m', m' < m ∧ K8 f m' [some (.is (t3 f)), some (.is (.int (a * K * K + b * K + c))), some (.is (.int (0 - (b + 2 * a * K)))), some (.is (.int a)), some (.is (.int K))] else
      if decide (a = a * K * K + b * K + c) = true then if decide (b + 2 * a * K < 0) = true then ∃ m', m' < m ∧ K8 f m' [some (.is (t3 f)), some (.is (.int (a * K * K + b * K + c))), some (.is (.int (0 - (b + 2 * a * K)))), some (.is (.int a)), some (.is (.int K))] else ∃ m', m' < m ∧ K8 f m' [some (.is (t3 f)), some (.is (.int a)), some (.is (.int (b + 2 * a * K))), some (.is (.int (a * K * K + b * K + c))), some (.is (.int K))]
      else ∃ m', m' < m ∧ K8 f m' [some (.is (t3 f)), some (.is (.int a)), some (.is (.int (b + 2 * a * K))), some (.is (.int (a * K * K + b * K + c))), some (.is (.int K))]) := fun n => by
    rw [eb, ec]
    refine ⟨two.mulOk ba, Bt.divOk (two.mul ba) (by omega), two.mulOk ba, (two.mul ba).mulOk bk, ba.mulOk bk, (ba.mul bk).mulOk bk, bb.mulOk bk, Ek (fun h1 => ?_) (fun h1 => Ek (fun h2 => Ek (fun h3 => ?_) (fun h3 => ?_)) (fun h2 => ?_))⟩
    · have h1 := of_decide_eq_true h1
      have bc' : Bt 1500 c' := by unfold Bt at *; omega
      have bn : Bt 1500 (0 - b') := by unfold Bt at *; omega
      by_cases z : Ci (c', 0 - b', a)
      · exact ⟨2 * c'.toNat, by rw [m2 n]; omega, c', 0 - b', a, _, _, rfl, es, ds, bc', bn, fun _ => rfl, fun w => absurd z w⟩
      · exact ⟨2 * c'.toNat + 1, by rw [m2 n]; omega, c', 0 - b', a, _, _, rfl, es, ds, bc', bn, fun w => absurd w z, fun _ => rfl⟩
    · have h2 := of_decide_eq_true h2
      have h3 := of_decide_eq_true h3
      have bc' : Bt 1500 c' := by unfold Bt at *; omega
      have bn : Bt 1500 (0 - b') := by unfold Bt at *; omega
      have L : Ci (c', 0 - b', a) := (Hg c0').mp (.inr ⟨by omega, by omega, by omega⟩)
      exact ⟨2 * c'.toNat, by rw [m2 n]; omega, c', 0 - b', a, _, _, rfl, es, ds, bc', bn, fun _ => rfl, fun w => absurd L w⟩
    · have h2 := of_decide_eq_true h2
      have h3 : ¬ b' < 0 := fun z => h3 (decide_eq_true z)
      exact stay n ((Hg a0).mp (.inr ⟨by omega, by omega, h2⟩))
    · have h1 : ¬ c' < a := fun z => h1 (decide_eq_true z)
      have h2 : ¬ a = c' := fun z => h2 (decide_eq_true z)
      exact stay n ((Hg a0).mp (.inl ⟨by omega, by omega, by omega⟩))
  by_cases hL : Ci (a, b, c)
  · have fin : 3 ≤ sizeLine ∧ Q (Dt.tup [Dt.int a, Dt.int b, Dt.int c]) := ⟨Av (by decide), q _ ⟨(a, b, c), rfl, .inl ⟨hw, t, dt, by rw [et]; exact hL, et.symm⟩⟩⟩
    rcases (Hg a0).mpr hL with ⟨h1, h2, h3⟩ | ⟨h1, h2, h3⟩
    · exact ift (decide_eq_true (by omega)) (ift (decide_eq_true h2) (ift (decide_eq_true h3) fin))
    · exact ift (decide_eq_true (by omega)) (ift (decide_eq_true h2) (FP (decide_eq_false (by omega)) (ift (decide_eq_true h1) (ift (decide_eq_true h2) (FP (by rw [decide_eq_true h3]; rfl) fin)))))
  · have bd := body hL
    have nx : ¬ ((-a < b ∧ b ≤ a ∧ a < c) ∨ (0 ≤ b ∧ b ≤ a ∧ a = c)) := fun z => hL ((Hg a0).mp z)
    refine Ek (fun h1 => Ek (fun h2 => Ek (fun h3 => absurd (.inl ⟨?_, of_decide_eq_true h2, of_decide_eq_true h3⟩) nx) (fun _ => Ek (fun h4 => Ek (fun h5 => Ek (fun _ => bd) (fun h6 => absurd (.inr ⟨of_decide_eq_true h4, of_decide_eq_true h5, ?_⟩) nx)) (fun _ => bd)) (fun _ => bd))) (fun _ => Ek (fun h4 => Ek (fun h5 => Ek (fun _ => bd) (fun h6 => absurd (.inr ⟨of_decide_eq_true h4, of_decide_eq_true h5, ?_⟩) nx)) (fun _ => bd)) (fun _ => bd))) (fun _ => Ek (fun h4 => Ek (fun h5 => Ek (fun _ => bd) (fun h6 => absurd (.inr ⟨of_decide_eq_true h4, of_decide_eq_true h5, ?_⟩) nx)) (fun _ => bd)) (fun _ => bd))
    · have := of_decide_eq_true h1; omega
    all_goals
      simp only [Bool.not_eq_true', decide_eq_false_iff_not, Decidable.not_not] at h6
      exact h6
abbrev JC : DSp := spec (fun f : I3 => [t3 f]) (fun f => B3 1500 f ∧ (Bf f ∨ Sad f)) fun f d => ∃ g, d = t3 g ∧ LF f g
theorem Aea (f g : I3) : HT.lexLt (Er f) (Er g) = true ↔ f.1 < g.1 ∨ (f.1 = g.1 ∧ (f.2.1 < g.2.1 ∨ (f.2.1 = g.2.1 ∧ f.2.2 < g.2.2))) := by
  unfold Er
  rw [HT.Ed, HT.Ed, HT.Ed, HT.Fv]
  split
  · split
    · split
      · simp; omega
      · simp; omega
    · simp; omega
  · simp; omega
theorem Aa9 {f g h : I3} (h1 : HT.lexLt (Er g) (Er f) = true) (h2 : HT.lexLt (Er h) (Er f) = false) : HT.lexLt (Er h) (Er g) = false := by
  rw [Bool.eq_false_iff] at h2 ⊢
  intro z
  rw [Ne, Aea] at h2
  rw [Aea] at h1 z
  omega
theorem Ww (f : I3) : HT.lexLt (Er f) (Er f) = false := by
  rw [Bool.eq_false_iff, Ne, Aea]
  omega
theorem Pk (T : Txt K mg)
    (G__law_root : Pm P w K mg base 1 "_law_root" Ef ["_law_number"] HX)
    (G__law_behind : Pm P w K mg base 2 "_law_behind" DQ ["_law_form", "_law_top"] Jb)
    (G__law_bar : Pm P w K mg base 1 "_law_bar" Dr ["_law_form"] FN)
    (G__law_bowl : Pm P w K mg base 1 "_law_bowl" FQ ["_law_form"] KD)
    (G__law_level : Pm P w K mg base 1 "_law_level" Et ["_law_form", "_law_far"] Jv)
    : Pm P w K mg base 3 "_law_least" Em ["_law_form"] JC := by
  obtain ⟨f, fd, F⟩ := T.t__law_least
  refine ⟨f, fd, F, F.fn.okD Cv (by walk_at "lE") fun cdv A outer s H E hr => ⟨_, (Ad (Cr (J7 (Ag Ae G__law_bar (hr.mono (by decide)) rfl (Aa (dv 0) Af)) Ab) (Ah (Aq (Ag Ae G__law_bowl (hr.mono (by decide)) rfl (Aa (dv 0) Af)))) Bl) (Ad (Al 1 Cv.nd (Ag Ae G__law_root (hr.mono (by decide)) rfl (Aa (Ag Ae G__law_bar (hr.mono (by decide)) rfl (Aa (dv 0) Af)) Af))) (Ad (Dl PassesOwn.never (Iv (G9 (Ag Ae G__law_level (hr.mono (by decide)) rfl (Aa (dv 0) (Aa (dv 1) Af))))) (Ah (Al 0 Cv.nd (Ag Ae G__law_behind (hr.mono (by decide)) rfl (Aa (dv 0) (Aa (Zq T.z_max (Aa (dv 1) (Aa (IV T.z_abs (Aa (Ac (dv 0) Ab) Af)) Af))) Af)))))) (Ad (Al 2 Cv.nd (dv 0)) (Ad (Al 3 Cv.nd (Ag Ae G__law_behind (hr.mono (by decide)) rfl (Aa (dv 0) (Aa (dv 1) Af)))) (Ad (Dl PassesOwn.never (GF hr.units (dv 3) (dv 0)) (Ad (Al 2 Cv.nd (Abo T.z_min (AeX hr.units) (Aa (dv 2) (Aa (dv 3) Af)))) (Ah (Al 3 Cv.nd (Ag Ae G__law_behind (hr.mono (by decide)) rfl (Aa (dv 3) (Aa (dv 1) Af))))))) (Ah (Aq (dv 2))))))))), fun ds Q h => ?_⟩⟩
  obtain ⟨f, rfl, ⟨hb, hw⟩, q⟩ := h
  have hb : B3 1500 f := hb
  have hw : Bf f ∨ Sad f := hw
  have q : ∀ d, (∃ g, d = t3 g ∧ LF f g) → Q d := q
  walk_at "go"
  rcases hw with hw | hS
  · have := hw.2
    exact Aj f (hb.le (by decide)) (ift (decide_eq_true this) (Ba f ⟨hb, hw⟩ q))
  have hp := hS.pos
  refine Aj f (hb.le (by decide)) (FP (decide_eq_false (by omega)) (Aj f (hb.le (by decide)) (Ba (meas f) (Ot hS) ?_)))
  rintro _ ⟨far, rfl, hr', hfb⟩
  have f63 := Nz hr' hS.most
  have far0 := hr'.1
  have hfar : Bt 7 far := Bt.of (by omega) (by omega)
  refine Ds (fun m ρ => ∃ k, (∀ i, i < k → ¬ Level (mov f (EI far f i)) far) ∧ ρ = [some (.is (t3 (mov f (EI far f k)))), some (.is (.int far)), none, none] ∧ Mu 1500 far f (EI far f k) ∧ m = eM far (mov f (EI far f k))) _ ⟨0, fun _ h => absurd h (by omega), by show _ = [some (En.is (t3 (mov f (1, 0, 0, 1)))), _, _, _]; rw [Cj], Mu.start (by decide) hb, rfl⟩ ?_
  rintro m _ ⟨k, nl0, rfl, hI, rfl⟩
  have ek : EI far f (k + 1) = Ao (EI far f k) (Ce (mov f (EI far f k)) (if far > ab (mov f (EI far f k)).2.2 then far else ab (mov f (EI far f k)).2.2)) := rfl
  obtain ⟨t, et⟩ : ∃ t, t = EI far f k := ⟨_, rfl⟩
  rw [← et] at hI ek ⊢
  have hd := hI.1
  have hg := hI.2.1
  have ht := hI.b4
  walk_at "rd"
  refine Aj (mov f t, far) (hg.le (by decide)) ?_
  walk_at "rd"
  by_cases hL : Level (mov f t) far
  · refine FP (by rw [decide_eq_true hL]; rfl) ?_
    have hv : Lv far (mov f t) := ⟨hS.mov hd, by rw [Bq hd]; exact hr', hL⟩
    obtain ⟨N, n0, nm, ne, nl⟩ := Ml hv
    have R : J6 f t far N := ⟨hd, hr', hv, ht.le (by decide), n0, nm, ne, nl, k, et, nl0, by rw [← et]; exact hL⟩
    have b3 := Ka hv.S hv.r hv.L
    refine Aj (mov f t, far) ⟨b3.le (by decide), Ge hv.S, hfar.le (by decide)⟩ ?_
    dsimp only
    refine Ds (fun m ρ => ∃ (i j : Nat), 0 < i ∧ i ≤ N ∧ j < i ∧ (∀ l, l < i → HT.lexLt (Er (rF far l (mov f t))) (Er (rF far j (mov f t))) = false) ∧ ρ = [some (En.is (t3 (mov f t))), some (En.is (Dt.int far)), some (En.is (t3 (rF far j (mov f t)))), some (En.is (t3 (rF far i (mov f t))))] ∧ m = N - i) _ ⟨1, 0, by omega, by omega, by omega, fun l hl => by rw [show l = 0 by omega]; exact Ww _, rfl, rfl⟩ ?_
    rintro m _ ⟨i, j, i0, iN, ji, lj, rfl, rfl⟩
    have hi' := Lv.rF i hv
    have bi := Ka hi'.S hi'.r hi'.L
    have lastF := (Rg (far := far) (n := i) (f := mov f t)).symm
    walk_at "rd"
    by_cases e : rF far i (mov f t) = mov f t
    · have hN : i = N := by
        rcases Nat.lt_or_ge i N with z | z
        · exact absurd e (nl i i0 z)
        · omega
      subst hN
      refine FP (by rw [e]; simp) (q _ ⟨_, rfl, .inr ⟨hS, t, far, i, j, R, by omega, fun l hl => ?_, rfl⟩⟩)
      rcases Nat.lt_or_ge l i with z | z
      · exact lj l z
      · rw [show l = i by omega, e]
        exact lj 0 i0
    · have hlt : i < N := by
        rcases Nat.lt_or_ge i N with z | z
        · exact z
        · exact absurd (by rw [show i = N by omega]; exact ne) e
      refine ift ?_ ?_
      · rw [Bool.not_eq_true', Bool.eq_false_iff]
        intro w
        simp only [Bool.and_eq_true, decide_eq_true_eq] at w
        exact e (Prod.ext w.1 (Prod.ext w.2.1 w.2.2))
      · refine ⟨Er (rF far j (mov f t)), Er (rF far i (mov f t)), rfl, ?_⟩
        refine Aj (rF far i (mov f t), far) ⟨bi.le (by decide), Ge hi'.S, hfar.le (by decide)⟩ ?_
        dsimp only
        by_cases hl : HT.lexLt (Er (rF far i (mov f t))) (Er (rF far j (mov f t))) = true
        · refine ⟨N - (i + 1), by omega, i + 1, i, by omega, by omega, by omega, fun l hl' => ?_, ?_, rfl⟩
          · rcases Nat.lt_or_ge l i with z | z
            · exact Aa9 hl (lj l z)
            · rw [show l = i by omega]; exact Ww _
          · rw [if_pos hl, ← lastF]
            rfl
        · refine ⟨N - (i + 1), by omega, i + 1, j, by omega, by omega, by omega, fun l hl' => ?_, ?_, rfl⟩
          · rcases Nat.lt_or_ge l i with z | z
            · exact lj l z
            · rw [show l = i by omega]; simpa using hl
          · rw [if_neg hl, ← lastF]
            rfl
  · refine ift (by rw [decide_eq_false hL]; rfl) ?_
    have hst := Ql (by decide) hS hr' hI hL
    have em : (if ab (mov f t).2.2 > far then ab (mov f t).2.2 else far) = (if far > ab (mov f t).2.2 then far else ab (mov f t).2.2) := by split <;> split <;> omega
    have btop : Bt 2000 (if far > ab (mov f t).2.2 then far else ab (mov f t).2.2) := by
      split
      · exact hfar.le (by decide)
      · exact (V1 hg.2.2).le (by decide)
    refine Aj (mov f t, if ab (mov f t).2.2 > far then ab (mov f t).2.2 else far) ⟨hg.le (by decide), Ge (hS.mov hd), by rw [em]; exact btop⟩ ?_
    dsimp only
    rw [em, Bd]
    refine ⟨_, hst.2.1, k + 1, fun i hi => ?_, by rw [ek], by rw [ek]; exact hst.1, by rw [ek]⟩
    rcases Nat.lt_or_ge i k with z | z
    · exact nl0 i z
    · rw [show i = k by omega, ← et]; exact hL
theorem LF.btn {f g : I3} {n : Nat} (L : LF f g) (h : Bt n (meas f)) (hn : 7 ≤ n) : B3 n g := by
  rcases L with ⟨_, t, dt, L, rfl⟩ | ⟨hS, t0, far, N, j, R, _, _, rfl⟩
  · exact L.bt (by rw [Bq dt]; exact h)
  · have hv := Lv.rF j R.v
    exact (Ka hv.S hv.r hv.L).le hn
theorem LF.turn {f g : I3} (L : LF f g) : ∃ x, det x = 1 ∧ mov f x = g := by
  rcases L with ⟨_, t, dt, _, rfl⟩ | ⟨_, t0, far, N, j, R, _, _, rfl⟩
  · exact ⟨t, dt, rfl⟩
  · exact ⟨Ao t0 (rT far j (mov f t0)), by rw [Ca, R.d, N6]; rfl, by rw [← Bd, Gb]⟩
def Kd (s : Bool) (f : I3) : Prop := (s = true → Bf f) ∧ (s = false → Sad f)
theorem Kd.kind {s : Bool} {f : I3} (h : Kd s f) : Bf f ∨ Sad f := by
  cases s with
  | true => exact .inl (h.1 rfl)
  | false => exact .inr (h.2 rfl)
theorem Kd.of {s : Bool} {f g : I3} (h : Kd s f) (m : meas g = meas f) (p : s = true → 0 < g.1) : Kd s g :=
  ⟨fun z => ⟨p z, by rw [m]; exact (h.1 z).2⟩, fun z => ⟨by rw [m]; exact (h.2 z).no, by rw [m]; exact (h.2 z).pos, by rw [m]; exact (h.2 z).most⟩⟩
theorem QK {f : I3} {D : Int} (hD : Kv D) (m : meas f = D) : ∃ n : Int, mov (Eh D) (1, n, 0, 1) = (1, f.2.1, f.1 * f.2.2) := by
  obtain ⟨a, b, c⟩ := f
  have m : b * b - 4 * a * c = D := m
  have hu := hD.meas
  have e4 : D.fmod 4 = D % 4 := Int.fmod_eq_emod_of_nonneg _ (by decide)
  obtain ⟨s, es⟩ : ∃ s, D.fmod 4 = s := ⟨_, rfl⟩
  obtain ⟨g, eg⟩ : ∃ g, (D.fmod 4 - D).fdiv 4 = g := ⟨_, rfl⟩
  have eu : Eh D = (1, s, g) := by unfold Eh; rw [eg, es]
  rw [eu] at hu ⊢
  have hu : s * s - 4 * 1 * g = D := hu
  have par : ∃ n, b = s + 2 * n := by
    obtain ⟨k, hk⟩ : ∃ k, b = 2 * k + b % 2 := ⟨b / 2, by omega⟩
    have h4 : D % 4 = b % 2 := by
      rcases (show b % 2 = 0 ∨ b % 2 = 1 by omega) with z | z
      · rw [z] at hk ⊢
        have : b * b = 4 * (k * k) := by rw [hk]; grind
        have : 4 * a * c = 4 * (a * c) := by grind
        omega
      · rw [z] at hk ⊢
        have : b * b = 4 * (k * k + k) + 1 := by rw [hk]; grind
        have : 4 * a * c = 4 * (a * c) := by grind
        omega
    exact ⟨k, by omega⟩
  obtain ⟨n, hn⟩ := par
  refine ⟨n, ?_⟩
  simp only [mov, val, mid, Prod.mk.injEq]
  refine ⟨by omega, by rw [hn]; grind, ?_⟩
  have : 4 * (a * c) = 4 * (n * n + s * n + g) := by
    have h1 : 4 * a * c = 4 * (a * c) := by grind
    have h2 : b * b = s * s + 4 * (s * n) + 4 * (n * n) := by rw [hn]; grind
    have h3 : 4 * (n * n + s * n + g) = 4 * (n * n) + 4 * (s * n) + 4 * g := by grind
    omega
  have : a * c = n * n + s * n + g := by omega
  rw [this]
  grind
theorem Ng {f : I3} {D : Int} (hD : Kv D) (m : meas f = D) : ∃ w : I4, det w = 1 ∧ Comp f (mov (Eh D) w) f := by
  obtain ⟨n, hn⟩ := QK hD m
  refine ⟨(1, n, 0, 1), by show 1 * 1 - n * 0 = 1; omega, ?_⟩
  rw [hn]
  exact Xl.swap
theorem PK {f : I3} {D : Int} (hD : Kv D) (m : meas f = D) : Comp f (f.1, 0 - f.2.1, f.2.2) (Eh D) := by
  have hd : det (0, -1, 1, 0) = 1 := rfl
  have C : Comp f (f.2.2, f.2.1, f.1) (f.1 * f.2.2, f.2.1, 1) := YJ
  have e1 : mov (f.2.2, f.2.1, f.1) (0, -1, 1, 0) = (f.1, 0 - f.2.1, f.2.2) := by
    simp only [mov, val, mid, Prod.mk.injEq]
    refine ⟨?_, ?_, ?_⟩ <;> grind
  have C := C.movR (t := (0, -1, 1, 0)) hd
  rw [e1] at C
  have C := C.movF (t := (0, -1, 1, 0)) hd
  have e2 : mov (f.1 * f.2.2, f.2.1, 1) (0, -1, 1, 0) = (1, 0 - f.2.1, f.1 * f.2.2) := by
    simp only [mov, val, mid, Prod.mk.injEq]
    refine ⟨?_, ?_, ?_⟩ <;> grind
  rw [e2] at C
  have m2 : meas (f.1, 0 - f.2.1, f.2.2) = D := by rw [Jl, m]
  obtain ⟨n, hn⟩ := QK hD m2
  have hn : mov (Eh D) (1, n, 0, 1) = (1, 0 - f.2.1, f.1 * f.2.2) := hn
  have dn : det (1, n, 0, 1) = 1 := by show 1 * 1 - n * 0 = 1; omega
  rw [← hn] at C
  have C := C.movF (t := Ar (1, n, 0, 1)) (by rw [Cy]; exact dn)
  rw [Bv dn] at C
  exact C
theorem Ae2 (T : Txt K mg)
    (G__law_bar : Pm P w K mg base 1 "_law_bar" Dr ["_law_form"] FN)
    (G_unit : Pm P w K mg base 12 "unit" Nk ["number"] VH)
    (G__law_moved : Pm P w K mg base 2 "_law_moved" Fd ["_law_form", "_law_turn_here"] JF)
    (G__law_least : Pm P w K mg base 3 "_law_least" Em ["_law_form"] JC)
    (G__law_united : Pm P w K mg base 3 "_law_united" Dg ["_law_script", "_law_many"] Ir)
    (G__law_flat : Pm P w K mg base 2 "_law_flat" FW ["_law_form"] J8)
    (G__law_turn : Pm P w K mg base 1 "_law_turn" Fx ["_law_first", "_law_cells"] Kc)
    (G__law_wholes : Pm P w K mg base 2 "_law_wholes" Df ["_law_found", "_law_many"] Fe)
    (G_product : Pm P w K mg base 12 "product" Ht ["one", "other"] Ox)
    : Pm P w K mg base 13 "law" Mh ["_law_script"] Q9 := by
  obtain ⟨f, fd, F⟩ := T.t_law
  refine ⟨f, fd, F, F.fn.okD J2 (by walk_at "lE") fun cdv A outer s H E hr => ⟨_, (Ad (Al 1 J2.nd (Ac (Ag Ae G__law_united (hr.mono (by decide)) rfl (Aa (dv 0) (Aa Ab Af))) Ab)) (Ad (Al 2 J2.nd (Ag Ae G__law_bar (hr.mono (by decide)) rfl (Aa (dv 1) Af))) (Ad (Cr (DW.dt (UJ (Ah6 (dv 2) Ab) (Rk (G9 (Ag Ae G__law_flat (hr.mono (by decide)) rfl (Aa (dv 1) Af)))))) (Ah (Aq Oh)) Bl) (Ad (Al 3 J2.nd (CV (dv 2) Ab)) (Ad (Al 4 J2.nd (Ag Ae G_unit (hr.mono (by decide)) rfl (Aa (dv 2) Af))) (Ad (Cr (DW.dt (QF (Iv (G9 (Ag Ae G__law_wholes (hr.mono (by decide)) rfl (Aa (dv 4) (Aa Ab Af))))) (Lx (GF hr.units (dv 4) (Ag Ae G__law_least (hr.mono (by decide)) rfl (Aa (Bp (Aa Ab (Aa (dv 3) (Aa (Br (Bk (dv 3) (dv 2)) Ab) Af)))) Af)))))) (Ah (Aq Oh)) Bl) (Ad (Al 5 J2.nd (Ag Ae G__law_moved (hr.mono (by decide)) rfl (Aa (dv 1) (Aa (Ag Ae G__law_turn (hr.mono (by decide)) rfl (Aa Ab (Aa (Zm (dv 0) (Wo Ab) (Wo Ab)) Af))) Af)))) (Ad (Al 6 J2.nd (Ag Ae G__law_least (hr.mono (by decide)) rfl (Aa (dv 1) Af))) (Ad (Cr (DW.dt (QF (GF hr.units (Ac (Ag Ae G_product (hr.mono (by decide)) rfl (Aa (dv 5) (Aa (dv 4) Af))) Ab) (dv 6)) (Lx (GF hr.units (Ac (Ag Ae G_product (hr.mono (by decide)) rfl (Aa (dv 4) (Aa (dv 5) Af))) Ab) (dv 6))))) (Ah (Aq Oh)) Bl) (Ad (Cr (GF hr.units (Ac (Ag Ae G_product (hr.mono (by decide)) rfl (Aa (dv 5) (Aa (Bp (Aa (Ac (dv 5) Ab) (Aa (Bk Ab (Ac (dv 5) Ab)) (Aa (Ac (dv 5) Ab) Af)))) Af))) Ab) (dv 4)) (Ah (Aq Oh)) Bl) (Ah (Aq (Om (Qq hr.units (Ac (Ag Ae G_product (hr.mono (by decide)) rfl (Aa (dv 1) (Aa (Bp (Aa (Ac (dv 5) Ab) (Aa (Bk Ab (Ac (dv 5) Ab)) (Aa (Ac (dv 5) Ab) Af)))) Af))) Ab) (dv 4)) (LK (Qq hr.units (Ag Ae G_unit (hr.mono (by decide)) rfl (Aa (dv 2) Af)) (dv 4)))))))))))))))), fun ds Q h => ?_⟩⟩
  obtain ⟨ns, rfl, hn, q⟩ := h
  have hn : ns.length ≤ 63 := hn
  have q' : Q (.bl true) := q _ rfl
  walk_at "go"
  refine Ba (ns, 2) (.inl rfl) ?_
  rintro _ ⟨b, tot, ps, rfl, U⟩
  have U : Uni 2 b tot ps := U
  obtain ⟨x, y, rfl⟩ := Adx U.len
  have hx := U.ne x (by simp)
  have hy := U.ne y (by simp)
  obtain ⟨f, ef⟩ : ∃ f, (x, b, tot.fdiv x) = f := ⟨_, rfl⟩
  obtain ⟨h0, eh⟩ : ∃ h, (y, b, tot.fdiv y) = h := ⟨_, rfl⟩
  have U2 := Aca U ef eh
  simp only [List.map_cons, List.map_nil]
  rw [ef, eh]
  obtain ⟨cs, ec, hcs⟩ := Yp ns (some 6) (some 66)
  walk_at "rd"
  rw [ec] at *
  have bf := U2.bf
  have D4 : ∀ c : I3, c = f → meas c % 4 = 0 ∨ meas c % 4 = 1 := fun c _ => by
    obtain ⟨a, b, c⟩ := c
    show (b * b - 4 * a * c) % 4 = 0 ∨ (b * b - 4 * a * c) % 4 = 1
    obtain ⟨k, hk⟩ : ∃ k, b = 2 * k + b % 2 := ⟨b / 2, by omega⟩
    have h4 : 4 * a * c = 4 * (a * c) := by grind
    rcases (show b % 2 = 0 ∨ b % 2 = 1 by omega) with z | z
    · rw [z] at hk
      have : b * b = 4 * (k * k) := by rw [hk]; grind
      omega
    · rw [z] at hk
      have : b * b = 4 * (k * k + k) + 1 := by rw [hk]; grind
      omega
  have D4 := D4 f rfl
  have h4 : meas f ≤ 4000 := by
    rw [U2.mf]
    rcases U.me with ⟨w, _⟩ | ⟨_, w⟩
    · omega
    · exact w
  refine Aj f (bf.le (by decide)) (Ek (fun hz => Ba f ⟨bf.le (by decide), of_decide_eq_true hz⟩ ?_) (fun hz => ?_))
  case' refine_1 =>
    rintro _ ⟨kb, rfl, hk⟩
    have hz' := of_decide_eq_true hz
    refine Ek (fun _ => q') (fun hk' => ?_)
    have hns : ¬ HY (meas f) := fun z => hk' (hk.mpr z)
    have kf : Bf f ∨ Sad f := .inr (U2.sad (by rw [← U2.mf]; exact hz') (by rw [← U2.mf]; exact hns)).1
  case' refine_2 =>
    have hz' : ¬ 0 ≤ meas f := fun z => hz (decide_eq_true z)
    have hns : ¬ HY (meas f) := fun ⟨r, e⟩ => hz' (by rw [← e]; exact sq_nonneg r)
    have kf : Bf f ∨ Sad f := .inl (U2.bowl (by rw [← U2.mf]; omega)).1
  all_goals
    obtain ⟨D, eD⟩ : ∃ D, meas f = D := ⟨_, rfl⟩
    have hD : Kv D := ⟨by rw [← eD]; exact D4, by rw [← eD]; exact hns, by rw [← eD]; exact h4, by rw [← eD]; exact U2.bm⟩
    dsimp only
    rw [eD]
    refine ⟨by decide, Ba D hD ?_⟩
    rintro _ ⟨u0, rfl, Lu⟩
    have Lu : LF (Eh D) u0 := Lu
    refine Ab8 u0 ?_
    walk_at "rd"
    refine ⟨⟨by decide, by decide⟩, Av (by decide), Ba (Eh D) ⟨hD.bt.le (by decide), hD.kind⟩ ?_⟩
    rintro _ ⟨u1, rfl, Lu1⟩
    have e1 : u0 = u1 := Lu.uniq Lu1
    subst e1
    refine ⟨AgZ _, FP (by rw [AiF, decide_eq_true rfl]; rfl) (Ba (0, cs) ⟨rfl, by show cs.length ≤ 63; omega⟩ ?_)⟩
    rintro _ ⟨t, rfl, dt, bt⟩
    have bt : B4 210 t := bt
    refine Aj (f, t) ⟨bf.le (by decide), bt.le (by decide)⟩ ?_
    obtain ⟨F, eF⟩ : ∃ F, mov f t = F := ⟨_, rfl⟩
    dsimp only
    rw [eF]
    have bF : B3 690 F := by rw [← eF]; exact (B3.mov bf bt).le (by decide)
    have mF : meas F = D := by rw [← eF, Bq dt, eD]
    have kF : Bf F ∨ Sad F := by rw [← eF]; exact Te kf dt
    have pF : g3 F = 1 := by rw [← eF, K9 dt]; exact U2.pf
    have bD : Bt 600 D := hD.b
    have fF : mov F (Ar t) = f := by rw [← eF, Bv dt]
    refine Ba f ⟨bf.le (by decide), kf⟩ ?_
    rintro _ ⟨g, rfl, Lg⟩
    have Lg : LF f g := Lg
    obtain ⟨w, dw, ew⟩ := Lu.turn
    have bu : B3 600 u0 := Lu.btn (by rw [hD.meas]; exact bD) (by decide)
    have mu : meas u0 = D := by rw [← ew, Bq dw, hD.meas]
    have ku : Bf u0 ∨ Sad u0 := by rw [← ew]; exact Te hD.kind dw
    have pu : g3 u0 = 1 := by
      rw [← ew, K9 dw]
      unfold Eh g3
      simp
    obtain ⟨n, dn, Cn⟩ := Ng hD eD
    have du : det (Ao (Ar n) w) = 1 := by rw [Ca, Cy, dn, dw]; rfl
    have eu0 : u0 = mov (mov (Eh D) n) (Ao (Ar n) w) := by rw [← Bd, Bv dn, ew]
    refine Ba (F, u0) (Pair.of bF (bu.le (by decide)) kF ku (by rw [mF, mu]) pF pu (by rw [mF]; exact bD)) ?_
    rintro dd B
    have B : Cz (mov f t) (mov (mov (Eh D) n) (Ao (Ar n) w)) dd := by rw [eF, ← eu0]; exact B
    obtain ⟨p, r, rfl⟩ := Cz.due Cn Lg B dt du U2.pf
    walk_at "rd"
    refine FP (by simp) (Ba (u0, F) (Pair.of (bu.le (by decide)) bF ku kF (by rw [mF, mu]) pu pF (by rw [mu]; exact bD)) ?_)
    rintro dd B2
    have B2 : Cz (mov (mov (Eh D) n) (Ao (Ar n) w)) (mov f t) dd := by rw [eF, ← eu0]; exact B2
    obtain ⟨p2, r2, rfl⟩ := Cz.due' Cn Lg B2 dt du U2.pf
    walk_at "rd"
    have bO : B3 690 (F.1, 0 - F.2.1, F.2.2) := ⟨bF.1, (by have := bF.2.1; unfold Bt at *; show (0 - F.2.1).natAbs < _; omega), bF.2.2⟩
    have mO : meas (F.1, 0 - F.2.1, F.2.2) = D := by rw [Jl, mF]
    have kO : Bf (F.1, 0 - F.2.1, F.2.2) ∨ Sad (F.1, 0 - F.2.1, F.2.2) := by
      rcases kF with z | z
      · exact .inl ⟨z.1, by rw [Jl]; exact z.2⟩
      · exact .inr ⟨by rw [Jl]; exact z.no, by rw [Jl]; exact z.pos, by rw [Jl]; exact z.most⟩
    have pO : g3 (F.1, 0 - F.2.1, F.2.2) = 1 := by rw [Ag7]; exact pF
    have CO := PK hD mF
    refine FP (by simp) ⟨Av (by decide), Ba (F, (F.1, 0 - F.2.1, F.2.2)) (Pair.of bF bO kF kO (by rw [mF, mO]) pF pO (by rw [mF]; exact bD)) ?_⟩
    rintro dd B3'
    have B3' : Cz (mov F (1, 0, 0, 1)) (mov (F.1, 0 - F.2.1, F.2.2) (1, 0, 0, 1)) dd := by rw [Cj, Cj]; exact B3'
    obtain ⟨p3, r3, rfl⟩ := Cz.due CO Lu B3' rfl rfl pF
    walk_at "rd"
    refine FP (by simp) ⟨Av (by decide), Ba (f, (F.1, 0 - F.2.1, F.2.2)) (Pair.of (bf.le (by decide)) bO kf kO (by rw [eD, mO]) U2.pf pO (by rw [eD]; exact bD)) ?_⟩
    rintro dd B4'
    have B4' : Cz (mov F (Ar t)) (mov (F.1, 0 - F.2.1, F.2.2) (1, 0, 0, 1)) dd := by rw [Cj, fF]; exact B4'
    obtain ⟨p4, r4, rfl⟩ := Cz.due CO Lu B4' (by rw [Cy]; exact dt) rfl pF
    walk_at "rd"
    refine ift (by simp) (Ba D hD ?_)
    rintro _ ⟨u2, rfl, Lu2⟩
    have e2 : u0 = u2 := Lu.uniq Lu2
    subst e2
    walk_at "rd"
    simp
    exact q'
end
abbrev nF (K : PySem.W.Frag) (n : Str) (s : Stmt) : Prop := ∃ (f : Addr) (oc : Value) (od : Option Addr) (kV dc pm : Value) (an : Option Addr) (cd ct : Value) (sl : Array (Option Value)), PySem.W.nsIn K mainGlobals n = some (some (.ref f)) ∧ K.lookup f = some ⟨oc, od, .func (PySem.W.fnOf n n (Eb s) (Dk s) (Ai s) .none kV dc pm an cd ct), sl⟩ ∧ PySem.W.codeIn K cd n = true ∧ PySem.W.keepIn K (.ref f) = true
theorem AfO {K : PySem.W.Frag} {n : Str} {s : Stmt} {f : Addr} {od an : Option Addr} {sl : Array (Option Value)} {oc kV dc pm cd ct : Value} (a : PySem.W.nsIn K mainGlobals n = some (some (.ref f))) (l : K.lookup f = some ⟨oc, od, .func (PySem.W.fnOf n n (Eb s) (Dk s) (Ai s) .none kV dc pm an cd ct), sl⟩) (c : PySem.W.codeIn K cd n = true) (k : PySem.W.keepIn K (.ref f) = true) : nF K n s := ⟨f, oc, od, kV, dc, pm, an, cd, ct, sl, a, l, c, k⟩
theorem tM {K : PySem.W.Frag} {h : Heap} {mg : Str → Option Value} {n : Str} {s : Stmt} {ps : List Str} (X : K.In h) (G : h.Ns mainGlobals mg) (H : nF K n s)
    (hb : ∀ (kV doc pm : Value) (an : Option Addr) (cdv ct : Value) (us : List Value), us.length = ps.length → bindArgs (PySem.W.fnOf n n (Eb s) (Dk s) (Ai s) .none kV doc pm an cdv ct) ⟨us, []⟩ = pure (ps.zip us)) : ∃ f fd, FnT K mg n s ps f fd := by
  obtain ⟨f, oc, od, kV, dc, pm, an, cd, ct, sl, a, l, c, k⟩ := H
  have F := Lr (st := s) l c k
  exact ⟨_, _, F, PySem.W.mg_of X G a, F.binds hb⟩
set_option maxHeartbeats 8000000 in
theorem all_mk {l : PySem.W.OpenLaw} {w : World} {K : PySem.W.Frag} {h : Heap} {mg : Str → Option Value} {fa : Addr} (X : K.In h) (G : h.Ns mainGlobals mg) (hfa : mg "law" = some (.ref fa))
    (h0 : nF K "divisor" Hr)
    (h1 : nF K "shares" Je)
    (h2 : nF K "row_less" GK)
    (h3 : nF K "root" JV)
    (h4 : nF K "is_square" Ej)
    (h5 : nF K "check_at_most" Cm)
    (h6 : nF K "is_turn" Hl)
    (h7 : nF K "check_turn" CT)
    (h8 : nF K "led" Tq)
    (h9 : nF K "put_behind" Dy)
    (h10 : nF K "back" Oq)
    (h11 : nF K "measure" CK)
    (h12 : nF K "value" KJ)
    (h13 : nF K "content" Hq)
    (h14 : nF K "moved" Jh)
    (h15 : nF K "middle" Ip)
    (h16 : nF K "shape" HB)
    (h17 : nF K "check_bowl" Eo)
    (h18 : nF K "stands_least" Dw)
    (h19 : nF K "settled" Hv)
    (h20 : nF K "turn_lower" Ew)
    (h21 : nF K "check_saddle" CG)
    (h22 : nF K "stands_level" Dm)
    (h23 : nF K "turn_behind" DR)
    (h24 : nF K "stop_behind" Dd)
    (h25 : nF K "eased" KQ)
    (h26 : nF K "stops_round" DX)
    (h27 : nF K "lowered" Hy)
    (h28 : nF K "shape_of" Ec)
    (h29 : nF K "least_of" GD)
    (h30 : nF K "product" Ht)
    (h31 : nF K "check_pair" Ep)
    (h32 : nF K "check_plain" DK)
    (h33 : nF K "half_of_middles" BL)
    (h34 : nF K "common_shares" CZ)
    (h35 : nF K "joint_form" Fi)
    (h36 : nF K "joint_rows" Fg)
    (h37 : nF K "rows_led" Du)
    (h38 : nF K "check_measure" Dc)
    (h39 : nF K "unit" Nk)
    (h40 : nF K "_law_cell" Ei)
    (h41 : nF K "_law_whole" Fb)
    (h42 : nF K "_law_wholes" Df)
    (h43 : nF K "_law_bar" Dr)
    (h44 : nF K "_law_root" Ef)
    (h45 : nF K "_law_flat" FW)
    (h46 : nF K "_law_level" Et)
    (h47 : nF K "_law_behind" DQ)
    (h48 : nF K "_law_bowl" FQ)
    (h49 : nF K "_law_least" Em)
    (h50 : nF K "_law_rest" Fy)
    (h51 : nF K "_law_turn" Fx)
    (h52 : nF K "_law_value" EY)
    (h53 : nF K "_law_moved" Fd)
    (h54 : nF K "_law_sum" Gw)
    (h55 : nF K "_law_united" Dg)
    (h56 : nF K "law" Mh)
    (z_abs : PySem.W.nsIn K mainGlobals "abs" = some none)
    (z_bool : PySem.W.nsIn K mainGlobals "bool" = some none)
    (z_int : PySem.W.nsIn K mainGlobals "int" = some none)
    (z_isinstance : PySem.W.nsIn K mainGlobals "isinstance" = some none)
    (z_len : PySem.W.nsIn K mainGlobals "len" = some none)
    (z_max : PySem.W.nsIn K mainGlobals "max" = some none)
    (z_min : PySem.W.nsIn K mainGlobals "min" = some none)
    (z_range : PySem.W.nsIn K mainGlobals "range" = some none)
    (z_tuple : PySem.W.nsIn K mainGlobals "tuple" = some none)
    (z_zip : PySem.W.nsIn K mainGlobals "zip" = some none)
    {CS_Shape gS_Shape : Addr} {odS_Shape anS_Shape : Option Addr} {slS_Shape : Array (Option Value)} {ocS_Shape kVS_Shape dcS_Shape pmS_Shape cdS_Shape ctS_Shape : Value}
    (aS_Shape : PySem.W.nsIn K mainGlobals "Shape" = some (some (.ref CS_Shape))) (sS_Shape : PySem.W.specialIn K (.ref CS_Shape) "__getattribute__" = some (some (.builtin "type.__getattribute__"))) (rS_Shape : PySem.W.readsIn K CS_Shape (.type "type") = true) (fS_Shape : PySem.W.findCls K (.ref CS_Shape) (.type "type") "__init__" = some (.val (.ref gS_Shape)))
    (lS_Shape : K.lookup gS_Shape = some ⟨ocS_Shape, odS_Shape, .func (PySem.W.fnOf "__init__" "Shape.__init__" (Eb Hh) (Dk Hh) (Ai Hh) .none kVS_Shape dcS_Shape pmS_Shape anS_Shape cdS_Shape ctS_Shape), slS_Shape⟩) (cS_Shape : PySem.W.codeIn K cdS_Shape "Shape.__init__" = true) (kS_Shape : PySem.W.keepIn K (.ref gS_Shape) = true)
    {CO_Bowl fO_Bowl : Addr} {odO_Bowl anO_Bowl : Option Addr} {slO_Bowl : Array (Option Value)} {ocO_Bowl kVO_Bowl dcO_Bowl pmO_Bowl cdO_Bowl ctO_Bowl : Value}
    (aO_Bowl : PySem.W.nsIn K mainGlobals "Bowl" = some (some (.ref CO_Bowl))) (mO_Bowl : PySem.W.makesIn K CO_Bowl = true) (iO_Bowl : PySem.W.findIn K (.ref CO_Bowl) "__init__" = some (some (.ref fO_Bowl))) (nO_Bowl : PySem.W.isFn K (.ref fO_Bowl) = true) (kO_Bowl : PySem.W.keepIn K (.ref CO_Bowl) = true)
    (pgO_Bowl : PySem.W.plainGet K CO_Bowl Str.empty = true) (hdO_Bowl : PySem.W.hasDictIn K CO_Bowl = true) (poO_Bowl : PySem.W.plainOver K CO_Bowl = true) (saO_Bowl : PySem.W.findIn K (.ref CO_Bowl) "__setattr__" = some (some (.builtin "object.__setattr__")))
    (clO_Bowl : PySem.W.findIn K (.ref CO_Bowl) "__class__" = some (some (.builtin "object.__class__"))) (gg1_Bowl : PySem.W.specialIn K (.builtin "object.__class__") "__get__" = some (some (.builtin "getset_descriptor.__get__"))) (gt1_Bowl : PySem.W.takesIn K (.builtin "object.__class__") = some true) (mrO_Bowl : PySem.W.mroIn K CO_Bowl (.type "object") = some true)
    (lO_Bowl : K.lookup fO_Bowl = some ⟨ocO_Bowl, odO_Bowl, .func (PySem.W.fnOf "__init__" "Bowl.__init__" (Eb Jq) (Dk Jq) (Ai Jq) .none kVO_Bowl dcO_Bowl pmO_Bowl anO_Bowl cdO_Bowl ctO_Bowl), slO_Bowl⟩) (cO_Bowl : PySem.W.codeIn K cdO_Bowl "Bowl.__init__" = true) (kfO_Bowl : PySem.W.keepIn K (.ref fO_Bowl) = true)
    (nfO_Bowl_form : PySem.W.findIn K (.ref CO_Bowl) "form" = some none)
    (nfO_Bowl_measure : PySem.W.findIn K (.ref CO_Bowl) "measure" = some none)
    (nfO_Bowl_lowest : PySem.W.findIn K (.ref CO_Bowl) "lowest" = some none)
    {CO_Saddle fO_Saddle : Addr} {odO_Saddle anO_Saddle : Option Addr} {slO_Saddle : Array (Option Value)} {ocO_Saddle kVO_Saddle dcO_Saddle pmO_Saddle cdO_Saddle ctO_Saddle : Value}
    (aO_Saddle : PySem.W.nsIn K mainGlobals "Saddle" = some (some (.ref CO_Saddle))) (mO_Saddle : PySem.W.makesIn K CO_Saddle = true) (iO_Saddle : PySem.W.findIn K (.ref CO_Saddle) "__init__" = some (some (.ref fO_Saddle))) (nO_Saddle : PySem.W.isFn K (.ref fO_Saddle) = true) (kO_Saddle : PySem.W.keepIn K (.ref CO_Saddle) = true)
    (pgO_Saddle : PySem.W.plainGet K CO_Saddle Str.empty = true) (hdO_Saddle : PySem.W.hasDictIn K CO_Saddle = true) (poO_Saddle : PySem.W.plainOver K CO_Saddle = true) (saO_Saddle : PySem.W.findIn K (.ref CO_Saddle) "__setattr__" = some (some (.builtin "object.__setattr__")))
    (clO_Saddle : PySem.W.findIn K (.ref CO_Saddle) "__class__" = some (some (.builtin "object.__class__"))) (gg1_Saddle : PySem.W.specialIn K (.builtin "object.__class__") "__get__" = some (some (.builtin "getset_descriptor.__get__"))) (gt1_Saddle : PySem.W.takesIn K (.builtin "object.__class__") = some true) (mrO_Saddle : PySem.W.mroIn K CO_Saddle (.type "object") = some true)
    (lO_Saddle : K.lookup fO_Saddle = some ⟨ocO_Saddle, odO_Saddle, .func (PySem.W.fnOf "__init__" "Saddle.__init__" (Eb Gm) (Dk Gm) (Ai Gm) .none kVO_Saddle dcO_Saddle pmO_Saddle anO_Saddle cdO_Saddle ctO_Saddle), slO_Saddle⟩) (cO_Saddle : PySem.W.codeIn K cdO_Saddle "Saddle.__init__" = true) (kfO_Saddle : PySem.W.keepIn K (.ref fO_Saddle) = true)
    (nfO_Saddle_form : PySem.W.findIn K (.ref CO_Saddle) "form" = some none)
    (nfO_Saddle_measure : PySem.W.findIn K (.ref CO_Saddle) "measure" = some none)
    (nfO_Saddle_lowest : PySem.W.findIn K (.ref CO_Saddle) "lowest" = some none)
    {gM_least : Addr} {odM_least anM_least : Option Addr} {slM_least : Array (Option Value)} {ocM_least kVM_least dcM_least pmM_least cdM_least ctM_least : Value}
    (fM_least_Bowl : PySem.W.findIn K (.ref CO_Bowl) "least" = some (some (.ref gM_least)))
    (fM_least_Saddle : PySem.W.findIn K (.ref CO_Saddle) "least" = some (some (.ref gM_least)))
    (nM_least : PySem.W.isFn K (.ref gM_least) = true) (lM_least : K.lookup gM_least = some ⟨ocM_least, odM_least, .func (PySem.W.fnOf "least" "Shape.least" (Eb Ho) (Dk Ho) (Ai Ho) .none kVM_least dcM_least pmM_least anM_least cdM_least ctM_least), slM_least⟩) (cM_least : PySem.W.codeIn K cdM_least "Shape.least" = true) (kM_least : PySem.W.keepIn K (.ref gM_least) = true)
    {C_SAME : Addr} {od_SAME : Option Addr} {sl_SAME : Array (Option Value)} {n_SAME : Nat} {t_SAME_0 : Tok} {t_SAME_1 : Tok} {t_SAME_2 : Tok} {t_SAME_3 : Tok}
    (a_SAME : PySem.W.nsIn K mainGlobals "SAME" = some (some (.ref C_SAME))) (l_SAME : K.lookup C_SAME = some ⟨.type "tuple", od_SAME, .seq #[.int (1) t_SAME_0, .int (0) t_SAME_1, .int (0) t_SAME_2, .int (1) t_SAME_3] n_SAME, sl_SAME⟩)
    {t_MOST_MEASURE : Tok} (a_MOST_MEASURE : PySem.W.nsIn K mainGlobals "MOST_MEASURE" = some (some (.int (4000) t_MOST_MEASURE)))
    : ∃ fd : FuncData, (∀ (s : Shared) (v : Value), BindsTo s fd ⟨[v], []⟩ [("_law_script", v)]) ∧ ∀ base : Heap, K.In base → base.Ns mainGlobals mg → GP l.prog w K mg base CX0 13 fa fd ["_law_script"] (lSp K Q9) := by
  obtain ⟨f56, oc56, od56, kV56, dc56, pm56, an56, cd56, ct56, sl56, a56, l56, c56, k56⟩ := h56
  have e := hfa.symm.trans (PySem.W.mg_of X G a56)
  cases e
  have F56 := Lr (st := Mh) l56 c56 k56
  have FS_Shape := Lr (st := Hh) lS_Shape cS_Shape kS_Shape
  have FO_Bowl := Lr (st := Jq) lO_Bowl cO_Bowl kfO_Bowl
  have FO_Saddle := Lr (st := Gm) lO_Saddle cO_Saddle kfO_Saddle
  have FM_least := Lr (st := Ho) lM_least cM_least kM_least
  have T : Txt K mg := {
    o_Bowl := ⟨_, _, _, ⟨⟨mO_Bowl, iO_Bowl, nO_Bowl, kO_Bowl⟩, aO_Bowl, PySem.W.mg_of X G aO_Bowl, ⟨pgO_Bowl, hdO_Bowl, poO_Bowl, saO_Bowl⟩, fun f hf => by simp only [List.mem_cons, List.not_mem_nil, or_false] at hf; rcases hf with hf | hf | hf <;> (subst hf; first | exact nfO_Bowl_form | exact nfO_Bowl_measure | exact nfO_Bowl_lowest)⟩, FO_Bowl, FO_Bowl.binds (ps := ["self", "form"]) fun _ _ _ _ _ _ us hl => match us, hl with | [_, _], _ => rfl⟩
    ic_Bowl := ⟨(fun C e => by rw [aO_Bowl] at e; cases e; exact clO_Bowl), gg1_Bowl, gt1_Bowl, (fun C e => by rw [aO_Bowl] at e; cases e; exact mrO_Bowl)⟩
    na_Bowl_form := fun C e => by rw [aO_Bowl] at e; cases e; exact nfO_Bowl_form
    na_Bowl_measure := fun C e => by rw [aO_Bowl] at e; cases e; exact nfO_Bowl_measure
    na_Bowl_lowest := fun C e => by rw [aO_Bowl] at e; cases e; exact nfO_Bowl_lowest
    o_Saddle := ⟨_, _, _, ⟨⟨mO_Saddle, iO_Saddle, nO_Saddle, kO_Saddle⟩, aO_Saddle, PySem.W.mg_of X G aO_Saddle, ⟨pgO_Saddle, hdO_Saddle, poO_Saddle, saO_Saddle⟩, fun f hf => by simp only [List.mem_cons, List.not_mem_nil, or_false] at hf; rcases hf with hf | hf | hf <;> (subst hf; first | exact nfO_Saddle_form | exact nfO_Saddle_measure | exact nfO_Saddle_lowest)⟩, FO_Saddle, FO_Saddle.binds (ps := ["self", "form"]) fun _ _ _ _ _ _ us hl => match us, hl with | [_, _], _ => rfl⟩
    ic_Saddle := ⟨(fun C e => by rw [aO_Saddle] at e; cases e; exact clO_Saddle), gg1_Saddle, gt1_Saddle, (fun C e => by rw [aO_Saddle] at e; cases e; exact mrO_Saddle)⟩
    na_Saddle_form := fun C e => by rw [aO_Saddle] at e; cases e; exact nfO_Saddle_form
    na_Saddle_measure := fun C e => by rw [aO_Saddle] at e; cases e; exact nfO_Saddle_measure
    na_Saddle_lowest := fun C e => by rw [aO_Saddle] at e; cases e; exact nfO_Saddle_lowest
    cm_Shape := ⟨_, _, ⟨⟨_, PySem.W.mg_of X G aS_Shape, sS_Shape, rS_Shape, fS_Shape⟩, kS_Shape⟩, FS_Shape, FS_Shape.binds (ps := ["self", "form", "lowest"]) fun _ _ _ _ _ _ us hl => match us, hl with | [_, _, _], _ => rfl⟩
    me_least := ⟨_, _, fun c hc => by simp only [List.mem_cons, List.not_mem_nil, or_false] at hc; rcases hc with hc | hc <;> (subst hc; intro C e; first | (rw [aO_Bowl] at e; cases e; exact ⟨fM_least_Bowl, nM_least, kM_least⟩) | (rw [aO_Saddle] at e; cases e; exact ⟨fM_least_Saddle, nM_least, kM_least⟩)), kM_least, FM_least, FM_least.binds (ps := ["self"]) fun _ _ _ _ _ _ us hl => match us, hl with | [_], _ => rfl⟩
    t_divisor := tM X G h0 (by walk_at "b2")
    t_shares := tM X G h1 (by walk_at "b2")
    t_row_less := tM X G h2 (by walk_at "b3")
    t_root := tM X G h3 (by walk_at "b1")
    t_is_square := tM X G h4 (by walk_at "b1")
    t_check_at_most := tM X G h5 (by walk_at "b2")
    t_is_turn := tM X G h6 (by walk_at "b1")
    t_check_turn := tM X G h7 (by walk_at "b1")
    t_led := tM X G h8 (by walk_at "b2")
    t_put_behind := tM X G h9 (by walk_at "b2")
    t_back := tM X G h10 (by walk_at "b1")
    t_measure := tM X G h11 (by walk_at "b1")
    t_value := tM X G h12 (by walk_at "b2")
    t_content := tM X G h13 (by walk_at "b1")
    t_moved := tM X G h14 (by walk_at "b2")
    t_middle := tM X G h15 (by walk_at "b3")
    t_shape := tM X G h16 (by walk_at "b1")
    t_check_bowl := tM X G h17 (by walk_at "b1")
    t_stands_least := tM X G h18 (by walk_at "b1")
    t_settled := tM X G h19 (by walk_at "b1")
    t_turn_lower := tM X G h20 (by walk_at "b1")
    t_check_saddle := tM X G h21 (by walk_at "b1")
    t_stands_level := tM X G h22 (by walk_at "b2")
    t_turn_behind := tM X G h23 (by walk_at "b2")
    t_stop_behind := tM X G h24 (by walk_at "b2")
    t_eased := tM X G h25 (by walk_at "b1")
    t_stops_round := tM X G h26 (by walk_at "b1")
    t_lowered := tM X G h27 (by walk_at "b1")
    t_shape_of := tM X G h28 (by walk_at "b1")
    t_least_of := tM X G h29 (by walk_at "b1")
    t_product := tM X G h30 (by walk_at "b2")
    t_check_pair := tM X G h31 (by walk_at "b2")
    t_check_plain := tM X G h32 (by walk_at "b1")
    t_half_of_middles := tM X G h33 (by walk_at "b2")
    t_common_shares := tM X G h34 (by walk_at "b2")
    t_joint_form := tM X G h35 (by walk_at "b3")
    t_joint_rows := tM X G h36 (by walk_at "b4")
    t_rows_led := tM X G h37 (by walk_at "b2")
    t_check_measure := tM X G h38 (by walk_at "b1")
    t_unit := tM X G h39 (by walk_at "b1")
    t__law_cell := tM X G h40 (by walk_at "b2")
    t__law_whole := tM X G h41 (by walk_at "b1")
    t__law_wholes := tM X G h42 (by walk_at "b2")
    t__law_bar := tM X G h43 (by walk_at "b1")
    t__law_root := tM X G h44 (by walk_at "b1")
    t__law_flat := tM X G h45 (by walk_at "b1")
    t__law_level := tM X G h46 (by walk_at "b2")
    t__law_behind := tM X G h47 (by walk_at "b2")
    t__law_bowl := tM X G h48 (by walk_at "b1")
    t__law_least := tM X G h49 (by walk_at "b1")
    t__law_rest := tM X G h50 (by walk_at "b2")
    t__law_turn := tM X G h51 (by walk_at "b2")
    t__law_value := tM X G h52 (by walk_at "b3")
    t__law_moved := tM X G h53 (by walk_at "b2")
    t__law_sum := tM X G h54 (by walk_at "b4")
    t__law_united := tM X G h55 (by walk_at "b2")
    t_law := ⟨_, _, F56, PySem.W.mg_of X G a56, F56.binds (ps := ["_law_script"]) fun _ _ _ _ _ _ us hl => match us, hl with | [_], _ => rfl⟩
    z_abs := PySem.W.mg_none_of X G z_abs
    z_bool := PySem.W.mg_none_of X G z_bool
    z_int := PySem.W.mg_none_of X G z_int
    z_isinstance := PySem.W.mg_none_of X G z_isinstance
    z_len := PySem.W.mg_none_of X G z_len
    z_max := PySem.W.mg_none_of X G z_max
    z_min := PySem.W.mg_none_of X G z_min
    z_range := PySem.W.mg_none_of X G z_range
    z_tuple := PySem.W.mg_none_of X G z_tuple
    z_zip := PySem.W.mg_none_of X G z_zip
    k_SAME := ⟨_, PySem.W.mg_of X G a_SAME, fun H => CP.mpr ⟨_, [.int (1), .int (0), .int (0), .int (1)], rfl, .inr ⟨_, _, _, l_SAME, rfl, rfl, Av (by show 4 ≤ 1000; decide), .cons ⟨_, rfl⟩ (.cons ⟨_, rfl⟩ (.cons ⟨_, rfl⟩ (.cons ⟨_, rfl⟩ (.nil))))⟩, RpL.cons (Bm.mpr rfl) (RpL.cons (Bm.mpr rfl) (RpL.cons (Bm.mpr rfl) (RpL.cons (Bm.mpr rfl) (RpL.nil))))⟩⟩
    m_MOST_MEASURE := ⟨_, PySem.W.mg_of X G a_MOST_MEASURE⟩
  }
  refine ⟨PySem.W.fnOf "law" "law" (Eb Mh) (Dk Mh) (Ai Mh) .none kV56 dc56 pm56 an56 cd56 ct56, fun s v => .of_eq rfl, fun base kb nb => ?_⟩
  have gm_least := W7 l.prog w base T 
  have g_divisor := U4 l.prog w base T 
  have g_row_less := Tr l.prog w base T 
  have g_root := AbP l.prog w base T 
  have g_check_at_most := Lk l.prog w base T 
  have g_is_turn := Vu l.prog w base T 
  have g_put_behind := Pa l.prog w base T 
  have g_measure := Uz l.prog w base T 
  have g_value := Z0 l.prog w base T 
  have g_middle := W4 l.prog w base T 
  have g_stands_least := Mx l.prog w base T 
  have g_turn_lower := Px l.prog w base T 
  have g_stands_level := Mw l.prog w base T 
  have g_turn_behind := M9 l.prog w base T 
  have g_half_of_middles := JZ l.prog w base T 
  have g__law_cell := Rr l.prog w base T 
  have g__law_whole := Pu l.prog w base T 
  have g__law_bar := TF l.prog w base T 
  have g__law_root := Rz l.prog w base T 
  have g__law_level := Ph l.prog w base T 
  have g__law_bowl := RN l.prog w base T 
  have g__law_rest := R5 l.prog w base T 
  have g__law_turn := Rq l.prog w base T 
  have g__law_value := Qd l.prog w base T 
  have gc_Shape := Xh l.prog w base T g_measure
  have g_shares := Xc l.prog w base T g_row_less
  have g_is_square := QX l.prog w base T g_root
  have g_check_turn := P0 l.prog w base T g_is_turn
  have g_content := Vs l.prog w base T g_divisor
  have g_joint_form := Qc l.prog w base T g_half_of_middles g_measure
  have g_joint_rows := PJ l.prog w base T g_half_of_middles g_measure
  have g__law_wholes := Ny l.prog w base T g__law_whole
  have g__law_flat := RJ l.prog w base T g__law_bar g__law_root
  have g__law_behind := N7 l.prog w base T g__law_bar
  have g__law_moved := PX l.prog w base T g__law_value
  have g__law_sum := Tz l.prog w base T g__law_cell
  have g_led := Aeb l.prog w base T g_check_turn
  have g_back := Aat l.prog w base T g_check_turn
  have g_moved := ZJ l.prog w base T g_check_turn g_value g_middle
  have g_shape := Z7 l.prog w base T g_measure g_is_square
  have g_check_plain := NP l.prog w base T g_content
  have g_common_shares := La l.prog w base T g_shares g_half_of_middles
  have g_check_measure := Lb l.prog w base T g_is_square
  have g__law_least := Pk l.prog w base T g__law_root g__law_behind g__law_bar g__law_bowl g__law_level
  have g__law_united := Nu l.prog w base T g__law_cell g__law_sum g__law_rest
  have g_check_bowl := Qf l.prog w base T g_shape
  have g_check_saddle := Mv l.prog w base T g_check_at_most g_shape g_measure
  have g_stop_behind := Nb l.prog w base T g_turn_behind g_moved g_put_behind
  have g_rows_led := TQ l.prog w base T g_led
  have g_settled := Ve l.prog w base T g_check_bowl g_stands_least g_turn_lower g_moved g_put_behind
  have g_eased := YH l.prog w base T g_check_saddle g_root g_measure g_stands_level g_stop_behind
  have gi_Bowl := Aal l.prog w base T gc_Shape g_settled
  have g_stops_round := OD l.prog w base T g_root g_eased g_stop_behind g_measure
  have g_lowered := Vx l.prog w base T g_check_saddle g_stops_round
  have gi_Saddle := Um l.prog w base T gc_Shape g_lowered
  have g_shape_of := TY l.prog w base T gi_Bowl gi_Saddle g_shape
  have g_least_of := S7 l.prog w base T g_shape_of
  have g_check_pair := Pz l.prog w base T g_shape_of g_check_plain
  have g_product := VB l.prog w base T gm_least g_check_pair g_common_shares g_joint_form g_rows_led g_shape_of g_back g_joint_rows
  have g_unit := Abh l.prog w base T g_check_measure g_check_at_most g_least_of
  have g_law := Ae2 l.prog w base T g__law_bar g_unit g__law_moved g__law_least g__law_united g__law_flat g__law_turn g__law_wholes g_product
  obtain ⟨f, fd, FT, GG⟩ := g_law
  have e1 := FT.mg.symm.trans (PySem.W.mg_of X G a56)
  cases e1
  have e2 := FT.fn.uniq F56
  subst e2
  exact GG
theorem walk {l : PySem.W.OpenLaw} {q : Program} {loose : List Str} {XP : (Str → Option Value) → Heap → Prop} {YP : World → Heap → Prop} {d : DefRec} {K : Params → PySem.W.Frag} (hn : l.most = some 63) (hdf : d.params.defaults = [])
    (hY : ∀ (w : World) (h : Heap), YP w h → (K w.params).In h)
    (F : ∀ (w : World) (mg : Str → Option Value) (fa : Addr) (h : Heap), (K w.params).In h → h.Ns mainGlobals mg → mg d.name = some (.ref fa) →
      ∃ fd : FuncData, (∀ (s : Shared) (u : Value), BindsTo s fd ⟨[u], []⟩ [("_law_script", u)]) ∧ ∀ base : Heap, (K w.params).In base → base.Ns mainGlobals mg → GP l.prog w (K w.params) mg base CX0 13 fa fd ["_law_script"] (lSp (K w.params) Q9)) :
    PySem.W.WalkO q loose XP YP l.row.toRowW d [] (fun f vs => PySem.call f vs) :=
  L2.AaZ (n := 63) (k := 13) (x := "_law_script") (CX := fun _ => CX0) (sp := fun w => lSp (K w.params) Q9) hn (by decide) hdf ⟨rfl, by decide, by decide⟩ hY F (fun w H a ns hl _ hS => Xy hl hS) fun _ _ _ _ _ z => z
end My
open PySem PySem.W PyProof.Rows
local macro_rules | `(tactic| walk_at "nF") => `(tactic| (refine' My.AfO ?qa ?ql ?qc ?qk; (case qa => k_is); (case ql => k_is); (case qc => k_is); (case qk => k_is)))
set_option maxRecDepth 100000 in
set_option maxHeartbeats 0 in
theorem PySem.Challenge.cw_formcycle_k44_unit_and_opposite_holds : PySem.Challenge.rw_formcycle_k44_unit_and_opposite.Holds := by
  w_on
  refine holds_law (by kernel_rfl) fun said => ?_
  refine holds_open (r := PySem.Challenge.rw_formcycle_k44_unit_and_opposite.row) (q := My.vw) (loose := []) (Xt := fun s => xlAt My.vw [] s && recOk (RowW.records (PySem.Challenge.rw_formcycle_k44_unit_and_opposite.row.toRowW)) s) (XP := XL My.vw []) (Yf := Hook.obs (kHook My.KK My.asK (fun _ => by kernel_rfl))) (Ya := Hook.val (kHook My.KK My.asK (fun _ => by kernel_rfl))) (YP := Hook.says (kHook My.KK My.asK (fun _ => by kernel_rfl))) (N := 4650) My.hl (Hook.of (kHook My.KK My.asK (fun _ => by kernel_rfl))) (Hook.keeps (kHook My.KK My.asK (fun _ => by kernel_rfl))) (fun s e => xl_of s (Bool.and_eq_true_iff.mp e).1) XL.keeps (by rfl) (by rfl) (by rfl) (fun s e => recFacts_of (Bool.and_eq_true_iff.mp e).2) (by rfl) said (by decide +kernel) ⟨rfl, rfl, rfl, rfl, rfl, by decide +kernel⟩ ?hw ?hc
  (case hw => w_witness2)
  k_fill
  refine My.walk (l := PySem.Challenge.rw_formcycle_k44_unit_and_opposite) rfl rfl (fun w h Y => PySem.W.kIn_of Y) ?F
  case F =>
    intro w mg fa h KX G hmg
    refine' My.all_mk KX G hmg ?h0 ?h1 ?h2 ?h3 ?h4 ?h5 ?h6 ?h7 ?h8 ?h9 ?h10 ?h11 ?h12 ?h13 ?h14 ?h15 ?h16 ?h17 ?h18 ?h19 ?h20 ?h21 ?h22 ?h23 ?h24 ?h25 ?h26 ?h27 ?h28 ?h29 ?h30 ?h31 ?h32 ?h33 ?h34 ?h35 ?h36 ?h37 ?h38 ?h39 ?h40 ?h41 ?h42 ?h43 ?h44 ?h45 ?h46 ?h47 ?h48 ?h49 ?h50 ?h51 ?h52 ?h53 ?h54 ?h55 ?h56 ?z_abs ?z_bool ?z_int ?z_isinstance ?z_len ?z_max ?z_min ?z_range ?z_tuple ?z_zip ?aS_Shape ?sS_Shape ?rS_Shape ?fS_Shape ?lS_Shape ?cS_Shape ?kS_Shape ?aO_Bowl ?mO_Bowl ?iO_Bowl ?nO_Bowl ?kO_Bowl ?pgO_Bowl ?hdO_Bowl ?poO_Bowl ?saO_Bowl ?clO_Bowl ?gg1_Bowl ?gt1_Bowl ?mrO_Bowl ?lO_Bowl ?cO_Bowl ?kfO_Bowl ?nfO_Bowl_form ?nfO_Bowl_measure ?nfO_Bowl_lowest ?aO_Saddle ?mO_Saddle ?iO_Saddle ?nO_Saddle ?kO_Saddle ?pgO_Saddle ?hdO_Saddle ?poO_Saddle ?saO_Saddle ?clO_Saddle ?gg1_Saddle ?gt1_Saddle ?mrO_Saddle ?lO_Saddle ?cO_Saddle ?kfO_Saddle ?nfO_Saddle_form ?nfO_Saddle_measure ?nfO_Saddle_lowest ?fM_least_Bowl ?fM_least_Saddle ?nM_least ?lM_least ?cM_least ?kM_least ?a_SAME ?l_SAME ?a_MOST_MEASURE
    (case h0 => walk_at "nF")
    (case h1 => walk_at "nF")
    (case h2 => walk_at "nF")
    (case h3 => walk_at "nF")
    (case h4 => walk_at "nF")
    (case h5 => walk_at "nF")
    (case h6 => walk_at "nF")
    (case h7 => walk_at "nF")
    (case h8 => walk_at "nF")
    (case h9 => walk_at "nF")
    (case h10 => walk_at "nF")
    (case h11 => walk_at "nF")
    (case h12 => walk_at "nF")
    (case h13 => walk_at "nF")
    (case h14 => walk_at "nF")
    (case h15 => walk_at "nF")
    (case h16 => walk_at "nF")
    (case h17 => walk_at "nF")
    (case h18 => walk_at "nF")
    (case h19 => walk_at "nF")
    (case h20 => walk_at "nF")
    (case h21 => walk_at "nF")
    (case h22 => walk_at "nF")
    (case h23 => walk_at "nF")
    (case h24 => walk_at "nF")
    (case h25 => walk_at "nF")
    (case h26 => walk_at "nF")
    (case h27 => walk_at "nF")
    (case h28 => walk_at "nF")
    (case h29 => walk_at "nF")
    (case h30 => walk_at "nF")
    (case h31 => walk_at "nF")
    (case h32 => walk_at "nF")
    (case h33 => walk_at "nF")
    (case h34 => walk_at "nF")
    (case h35 => walk_at "nF")
    (case h36 => walk_at "nF")
    (case h37 => walk_at "nF")
    (case h38 => walk_at "nF")
    (case h39 => walk_at "nF")
    (case h40 => walk_at "nF")
    (case h41 => walk_at "nF")
    (case h42 => walk_at "nF")
    (case h43 => walk_at "nF")
    (case h44 => walk_at "nF")
    (case h45 => walk_at "nF")
    (case h46 => walk_at "nF")
    (case h47 => walk_at "nF")
    (case h48 => walk_at "nF")
    (case h49 => walk_at "nF")
    (case h50 => walk_at "nF")
    (case h51 => walk_at "nF")
    (case h52 => walk_at "nF")
    (case h53 => walk_at "nF")
    (case h54 => walk_at "nF")
    (case h55 => walk_at "nF")
    (case h56 => walk_at "nF")
    (case z_abs => k_is)
    (case z_bool => k_is)
    (case z_int => k_is)
    (case z_isinstance => k_is)
    (case z_len => k_is)
    (case z_max => k_is)
    (case z_min => k_is)
    (case z_range => k_is)
    (case z_tuple => k_is)
    (case z_zip => k_is)
    (case aS_Shape => k_is)
    (case sS_Shape => k_is)
    (case rS_Shape => k_is)
    (case fS_Shape => k_is)
    (case lS_Shape => k_is)
    (case cS_Shape => k_is)
    (case kS_Shape => k_is)
    (case aO_Bowl => k_is)
    (case mO_Bowl => k_is)
    (case iO_Bowl => k_is)
    (case nO_Bowl => k_is)
    (case kO_Bowl => k_is)
    (case pgO_Bowl => k_is)
    (case hdO_Bowl => k_is)
    (case poO_Bowl => k_is)
    (case saO_Bowl => k_is)
    (case clO_Bowl => k_is)
    (case gg1_Bowl => k_is)
    (case gt1_Bowl => k_is)
    (case mrO_Bowl => k_is)
    (case lO_Bowl => k_is)
    (case cO_Bowl => k_is)
    (case kfO_Bowl => k_is)
    (case nfO_Bowl_form => k_is)
    (case nfO_Bowl_measure => k_is)
    (case nfO_Bowl_lowest => k_is)
    (case aO_Saddle => k_is)
    (case mO_Saddle => k_is)
    (case iO_Saddle => k_is)
    (case nO_Saddle => k_is)
    (case kO_Saddle => k_is)
    (case pgO_Saddle => k_is)
    (case hdO_Saddle => k_is)
    (case poO_Saddle => k_is)
    (case saO_Saddle => k_is)
    (case clO_Saddle => k_is)
    (case gg1_Saddle => k_is)
    (case gt1_Saddle => k_is)
    (case mrO_Saddle => k_is)
    (case lO_Saddle => k_is)
    (case cO_Saddle => k_is)
    (case kfO_Saddle => k_is)
    (case nfO_Saddle_form => k_is)
    (case nfO_Saddle_measure => k_is)
    (case nfO_Saddle_lowest => k_is)
    (case fM_least_Bowl => k_is)
    (case fM_least_Saddle => k_is)
    (case nM_least => k_is)
    (case lM_least => k_is)
    (case cM_least => k_is)
    (case kM_least => k_is)
    (case a_SAME => k_is)
    (case l_SAME => k_is)
    (case a_MOST_MEASURE => k_is)
