import PyProof.Rows.All
import Wide.All
import OpenK.AllK
import Wide.FinOn
import Lean
import PyProof.EqAt
import PyProof.EqKinds
import PyProof.TupleCall
import PySem.Challenge.RW_formcycle_k29_no_saddle
set_option Elab.async false
set_option linter.all false
set_option maxRecDepth 100000
set_option maxRecDepth 1000000
set_option maxHeartbeats 0
theorem My.said0 : PySem.Challenge.rw_formcycle_k29_no_saddle.wellSaid = true := by kernel_rfl
namespace My
open PySem PySem.W
noncomputable def JQ (tb : String → Option Builtin) (p : Program) (w : World) (m : Nat) (ann : Option Value) : Nat → SharedT → Thread → Option SharedT
  | 0, _, _ => none
  | k + 1, s, t => match through t with
    | true => some s
    | false => match stepOk m ann t with
      | false => none
      | true => match stepT (denote tb) p w s t with
        | some (s', t') => JQ tb p w m ann k s' t'
        | none => none
theorem Ja {tb : String → Option Builtin} {p : Program} {w : World} {m : Nat} {ann : Option Value} : ∀ (k : Nat) {s r : SharedT} {t : Thread}, JQ tb p w m ann k s t = some r → topRun tb p w m ann k s.abs t = some r.abs
  | 0, s, r, t, h => by cases h
  | k + 1, s, r, t, h => by
    unfold JQ at h
    unfold topRun
    cases e : through t with
    | true =>
      rw [e] at h
      cases h
      rfl
    | false =>
      rw [e] at h
      dsimp only at h ⊢
      cases e2 : stepOk m ann t with
      | false => rw [e2] at h; cases h
      | true =>
        rw [e2] at h
        dsimp only at h ⊢
        cases e3 : stepT (denote tb) p w s t with
        | none => rw [e3] at h; cases h
        | some st =>
          obtain ⟨s', t'⟩ := st
          rw [e3] at h
          rw [stepT_spec e3]
          exact Ja k h
noncomputable def Tt : List Obj → Nat → BT → BT
  | [], _, t => t
  | o :: os, n, t => Tt os (n + 1) (t.ins n o)
noncomputable def Ip (w : World) (os : OsState) : SharedT := ⟨Tt (boot_heap w.params).objs.toList 0 .nil, (boot_heap w.params).objs.size, (boot_heap w.params).life, Array.mk [], boot_drawn, boot_toks, os⟩
noncomputable def Ax (w : World) (os : OsState) : Shared := ⟨boot_heap w.params, Array.mk [], boot_drawn, boot_toks, os⟩
noncomputable def stays (p : Program) (s₀ s₁ : Shared) : Bool := staticsOk (importedModules p.main.body) s₀.heap s₁.heap && namesBound p s₁.heap && gensDone s₁ && laidKept s₀.heap s₁.heap
theorem boot_abs : ∀ w os, (Ip w os).abs = Ax w os := fun w os => by kernel_rfl
theorem RN {p : Program} {w : World} {N : Nat} {α : Type} {F : Shared → α} {g : α} (e : opening p = plainProg p.main.scope.names) (hN : Nat.ble 600 N = true) (f : ∀ s, fenceModules? p s = some s)
    (h : ∀ os, (JQ treeTable p w (Ax w os).heap.objs.size ((Ax w os).heap.nsMap mainGlobals "__annotations__") N (Ip w os) (topStub p)).map (fun r => (stays p (Ax w os) r.abs, F r.abs)) = some (true, g))
    (h0 : ∀ os, ((Ax w os).heap.isNs mainGlobals && (Ax w os).gens.size == 0) = true) : (openEnds treeTable p w N).map F = some g := by
  have hb := boot_open e hN f w
  unfold openEnds
  cases q : fencedOpening treeTable p w N with
  | none => rw [q] at hb; cases hb
  | some s =>
    rw [q] at hb
    have hs : s = Ax w s.os := by
      obtain ⟨a, b, c, d, o⟩ := s
      simp only [Option.map_some, Option.some.injEq, Prod.mk.injEq] at hb
      obtain ⟨rfl, rfl, rfl, rfl⟩ := hb
      rfl
    generalize s.os = o at hs
    subst hs
    show (topFrom treeTable p w N (Ax w o)).map F = some g
    unfold topFrom
    rw [h0 o]
    have hh := h o
    cases q2 : JQ treeTable p w (Ax w o).heap.objs.size ((Ax w o).heap.nsMap mainGlobals "__annotations__") N (Ip w o) (topStub p) with
    | none => rw [q2] at hh; cases hh
    | some r =>
      rw [q2] at hh
      have hr := Ja N q2
      rw [boot_abs] at hr
      simp only [Option.map_some, Option.some.injEq, Prod.mk.injEq] at hh
      obtain ⟨h1, h2⟩ := hh
      unfold stays at h1
      dsimp only
      rw [hr]
      show (match staticsOk (importedModules p.main.body) (Ax w o).heap r.abs.heap && namesBound p r.abs.heap && gensDone r.abs && laidKept (Ax w o).heap r.abs.heap with
        | true => some r.abs
        | false => none).map F = some g
      rw [h1]
      exact congrArg some h2
noncomputable def TR (p : Program) (w : World) (os : OsState) (N : Nat) : Option SharedT := JQ treeTable p w (Ax w os).heap.objs.size ((Ax w os).heap.nsMap mainGlobals "__annotations__") N (Ip w os) (topStub p)
theorem Za {p : Program} {w : World} {N : Nat} {α β : Type} {F : Shared → α} {G : Shared → β} {f' : α} {g' : β} (e : opening p = plainProg p.main.scope.names) (hN : Nat.ble 600 N = true) (f : ∀ s, fenceModules? p s = some s)
    (h1 : ∀ os, (TR p w os N).map (fun r => stays p (Ax w os) r.abs) = some true) (h2 : ∀ os, (TR p w os N).map (fun r => F r.abs) = some f') (h3 : ∀ os, (TR p w os N).map (fun r => G r.abs) = some g')
    (h0 : ∀ os, ((Ax w os).heap.isNs mainGlobals && (Ax w os).gens.size == 0) = true) : (openEnds treeTable p w N).map (fun s => (F s, G s)) = some (f', g') :=
  RN (F := fun s => (F s, G s)) e hN f (fun os => by
    have a := h1 os
    have b := h2 os
    have c := h3 os
    unfold TR at a b c
    revert a b c
    generalize JQ treeTable p w (Ax w os).heap.objs.size ((Ax w os).heap.nsMap mainGlobals "__annotations__") N (Ip w os) (topStub p) = o
    intro a b c
    cases o with
    | none => cases a
    | some r =>
      simp only [Option.map_some, Option.some.injEq] at a b c ⊢
      rw [a, b, c]) h0
end My
namespace My
open PySem PySem.W
noncomputable def goT (tb : String → Option Builtin) (p : Program) (w : World) (m : Nat) (ann : Option Value) : Nat → SharedT → Thread → Option (SharedT × Thread)
  | 0, s, t => some (s, t)
  | k + 1, s, t => match through t with
    | true => none
    | false => match stepOk m ann t with
      | false => none
      | true => match stepT (denote tb) p w s t with
        | some (s', t') => goT tb p w m ann k s' t'
        | none => none
theorem Om {tb : String → Option Builtin} {p : Program} {w : World} {m : Nat} {ann : Option Value} : ∀ (k : Nat) {s s' : SharedT} {t t' : Thread}, goT tb p w m ann k s t = some (s', t') → topGo tb p w m ann k s.abs t = some (s'.abs, t')
  | 0, s, s', t, t', h => by cases h; rfl
  | k + 1, s, s', t, t', h => by
    unfold goT at h
    unfold topGo
    cases e : through t with
    | true => rw [e] at h; cases h
    | false =>
      rw [e] at h
      dsimp only at h ⊢
      cases e2 : stepOk m ann t with
      | false => rw [e2] at h; cases h
      | true =>
        rw [e2] at h
        dsimp only at h ⊢
        cases e3 : stepT (denote tb) p w s t with
        | none => rw [e3] at h; cases h
        | some st =>
          obtain ⟨s2, t2⟩ := st
          rw [e3] at h
          rw [stepT_spec e3]
          exact Om k h
theorem Qn {p : Program} {w : World} {N : Nat} {α : Type} {F : Shared → α} {g : α} (e : opening p = plainProg p.main.scope.names) (hN : Nat.ble 600 N = true) (f : ∀ s, fenceModules? p s = some s)
    (h : ∀ os, ∃ r : Shared, topRun treeTable p w (Ax w os).heap.objs.size ((Ax w os).heap.nsMap mainGlobals "__annotations__") N (Ax w os) (topStub p) = some r ∧ stays p (Ax w os) r = true ∧ F r = g)
    (h0 : ∀ os, ((Ax w os).heap.isNs mainGlobals && (Ax w os).gens.size == 0) = true) : (openEnds treeTable p w N).map F = some g := by
  have hb := boot_open e hN f w
  unfold openEnds
  cases q : fencedOpening treeTable p w N with
  | none => rw [q] at hb; cases hb
  | some s =>
    rw [q] at hb
    have hs : s = Ax w s.os := by
      obtain ⟨a, b, c, d, o⟩ := s
      simp only [Option.map_some, Option.some.injEq, Prod.mk.injEq] at hb
      obtain ⟨rfl, rfl, rfl, rfl⟩ := hb
      rfl
    generalize s.os = o at hs
    subst hs
    show (topFrom treeTable p w N (Ax w o)).map F = some g
    unfold topFrom
    rw [h0 o]
    obtain ⟨r, hr, h1, h2⟩ := h o
    unfold stays at h1
    dsimp only
    rw [hr]
    show (match staticsOk (importedModules p.main.body) (Ax w o).heap r.heap && namesBound p r.heap && gensDone r && laidKept (Ax w o).heap r.heap with
      | true => some r
      | false => none).map F = some g
    rw [h1]
    exact congrArg some h2
theorem N6 {p : Program} {w : World} {N : Nat} {α β : Type} {F : Shared → α} {G : Shared → β} {f' : α} {g' : β} {TL : OsState → Option SharedT} (e : opening p = plainProg p.main.scope.names) (hN : Nat.ble 600 N = true) (f : ∀ s, fenceModules? p s = some s)
    (hr : ∀ os r, TL os = some r → topRun treeTable p w (Ax w os).heap.objs.size ((Ax w os).heap.nsMap mainGlobals "__annotations__") N (Ax w os) (topStub p) = some r.abs)
    (h1 : ∀ os, (TL os).map (fun r => stays p (Ax w os) r.abs) = some true) (h2 : ∀ os, (TL os).map (fun r => F r.abs) = some f') (h3 : ∀ os, (TL os).map (fun r => G r.abs) = some g')
    (h0 : ∀ os, ((Ax w os).heap.isNs mainGlobals && (Ax w os).gens.size == 0) = true) : (openEnds treeTable p w N).map (fun s => (F s, G s)) = some (f', g') :=
  Qn (F := fun s => (F s, G s)) e hN f (fun os => by
    have a := h1 os
    have b := h2 os
    have c := h3 os
    have d := hr os
    cases q : TL os with
    | none => rw [q] at a; cases a
    | some r =>
      rw [q] at a b c
      simp only [Option.map_some, Option.some.injEq] at a b c
      exact ⟨_, d r q, a, by rw [b, c]⟩) h0
end My
set_option maxRecDepth 1000000
set_option maxHeartbeats 0
namespace My
open PySem PySem.W
noncomputable def tp (i : Nat) : Stmt := PySem.Challenge.pw_formcycle_k29_no_saddle.main.body.getD i (.Pass ⟨0, 0, 0, 0⟩)
noncomputable def fA (s : Stmt) : Arguments := match s with
  | .FunctionDef _ a _ _ _ _ _ _ _ _ => a
  | _ => ⟨[], [], none, [], [], none, []⟩
noncomputable def fB (s : Stmt) : List Stmt := match s with
  | .FunctionDef _ _ b _ _ _ _ _ _ _ => b
  | _ => []
noncomputable def fS (s : Stmt) : Scope := match s with
  | .FunctionDef _ _ _ _ _ _ c _ _ _ => c
  | _ => ⟨.function, [], false, false, []⟩
noncomputable def inC (s : Stmt) (j : Nat) : Stmt := match s with
  | .ClassDef _ _ _ b _ _ _ _ _ _ _ => b.getD j (.Pass ⟨0, 0, 0, 0⟩)
  | _ => .Pass ⟨0, 0, 0, 0⟩
noncomputable section
noncomputable abbrev O := Obj
noncomputable abbrev sT (s : String) (t : Nat) : Value := .str (.ofString s) t
noncomputable abbrev iZ (n : Int) : Value := .int n 0
noncomputable abbrev dE (P : Params) (s : String) (t : Nat) (v : Value) : DictEntry := .mk (PyData.keyHash P (.ofString s)) (.str (.ofString s) t) v
noncomputable abbrev fO (n q : String) (w : Stmt) (m : String) (t c : Nat) : Obj := .mk (.type "function") none (Data.func (FuncData.mk (.ofString n) (.ofString q) (fA w) (.stmts (fB w)) (fS w) 3 [] .none .none .none (.str (.ofString m) t) none (.ref c) .none 0)) #[]
noncomputable abbrev tO (a : Array Value) : Obj := .mk (.type "tuple") none (Data.seq a) #[]
noncomputable abbrev cO (a : Array Value) : Obj := .mk (.type "code") none (Data.fields a) #[]
noncomputable abbrev nO (a : Array Value) : Obj := .mk .none none (Data.fields a) #[]
noncomputable abbrev mO (a : Array DictEntry) : Obj := .mk (.type "dict") none (Data.dict a) #[]
noncomputable abbrev bO (a : Array Value) : Obj := .mk (.type "builtin_function_or_method") none (Data.fields a) #[]
noncomputable abbrev Lf (o : Obj) : BT := .node o .nil .nil
noncomputable abbrev Nd (o : Obj) (l r : BT) : BT := .node o l r
noncomputable abbrev sF (t : Nat) : Value := .str (.ofString "/claim/cut.py") t
noncomputable def tE : Obj := .mk (.type "tuple") none (Data.seq #[]) #[]
noncomputable abbrev cF (n q : String) (a l k r t : Nat) : Obj := .mk (.type "code") none (Data.fields #[.str (.ofString n) a, .str (.ofString q) (a + 1), .str (.ofString "/claim/cut.py") (a + 2), .int l 0, .int k 0, .int 0 0, .int 0 0, .int 3 0, .ref r, .bool true, .int 181 0, .ref (r + 1), .none, .ref (r + 2), .ref (r + 3), .ref (r + 4), .int t 0, .int l 0, .str (.ofString "/claim/cut.py") (t + 1)]) #[]
noncomputable abbrev pO (n q : String) (w : Stmt) (c : Nat) : Obj := .mk .none none (Data.func (FuncData.mk (.ofString n) (.ofString q) (fA w) (.stmts (fB w)) (fS w) 3 [] .none .none .none .none none (.ref c) .none 0)) #[]
noncomputable abbrev rO (c l : Nat) (m : String) (t : Nat) : Obj := .mk (.type "frame") none Data.plain #[some (.ref c), some (.ref 3), some (.ref l), none, some (.str (.ofString m) t), none, some (.ref 0)]
noncomputable abbrev sO (c : Nat) : Obj := .mk (.type "super") none (Data.fields #[.ref c, .ref c, .ref c]) #[]
noncomputable abbrev dO (a : Array DictEntry) (n : Nat) : Obj := .mk (.type "dict") none (Data.dict a n) #[]
noncomputable abbrev xO (n : String) (b c d e t u : Nat) : Obj := .mk (.type "type") none (Data.cls (ClassData.mk (.ofString n) [.ref b] [.ref c, .ref b, .type "ValueError", .type "Exception", .type "BaseException", .type "object"] d (.ofString n) true [] [] false none false)) #[some (.ref e), none, some (.str (.ofString n) t), some (.str (.ofString n) u), some (.builtin "ValueError.__new__"), some (.bool true)]
noncomputable def o2:O:=.mk .none none (Data.dict #[]) #[]
noncomputable def o3 (P:Params):O:=dO #[dE P "__name__" 165 (sT "law_formcycle_k29_no_saddle" 718),dE P "__doc__" 166 .none,dE P "__package__" 167 .none,dE P "__loader__" 168 (.builtin "__main__.__loader__#opaque"),dE P "__spec__" 169 .none,dE P "__annotations__" 170 (.ref 6),dE P "__builtins__" 171 (.ref 4),dE P "__file__" 173 (sF 172),dE P "__cached__" 174 .none,dE P "FormError" 206 (.ref 24),dE P "NoTurn" 231 (.ref 44),dE P "NoShape" 256 (.ref 63),dE P "TooGreat" 283 (.ref 82),dE P "NoRoot" 308 (.ref 101),dE P "NotLevel" 333 (.ref 120),dE P "NotOwn" 358 (.ref 139),dE P "Apart" 374 (.ref 151),dE P "NotPlain" 399 (.ref 170),dE P "NoMeasure" 424 (.ref 189),dE P "Nought" 440 (.ref 201),dE P "NoAnswer" 465 (.ref 220),dE P "divisor" 476 (.ref 229),dE P "root" 485 (.ref 236),dE P "is_square" 493 (.ref 243),dE P "check_at_most" 501 (.ref 250),dE P "SAME" 508 (.ref 251),dE P "is_turn" 515 (.ref 258),dE P "check_turn" 522 (.ref 265),dE P "put_behind" 530 (.ref 272),dE P "back" 537 (.ref 279),dE P "measure" 546 (.ref 286),dE P "value" 556 (.ref 293),dE P "content" 563 (.ref 300),dE P "moved" 573 (.ref 307),dE P "middle" 583 (.ref 314),dE P "shape" 591 (.ref 321),dE P "MOST_MEASURE" 595 (.int 4000 594),dE P "check_saddle" 602 (.ref 328),dE P "is_level" 609 (.ref 335),dE P "stands_level" 618 (.ref 342),dE P "after" 626 (.ref 349),dE P "turn_behind" 637 (.ref 356),dE P "stop_behind" 646 (.ref 363),dE P "eased" 655 (.ref 370),dE P "stops_round" 666 (.ref 377),dE P "round_of" 672 (.ref 382),dE P "step_of" 684 (.ref 389),dE P "step_pair" 694 (.ref 396),dE P "power_of" 704 (.ref 403),dE P "count_without_sign" 717 (.ref 410),dE P "_law_cell" 727 (.ref 417),dE P "_law_bar" 734 (.ref 424),dE P "_law_root" 742 (.ref 431),dE P "_law_number" 750 (.ref 438),dE P "_law_form" 761 (.ref 445),dE P "_law_ask" 769 (.ref 452),dE P "_law_told" 779 (.ref 459),dE P "_law_others" 786 (.ref 466),dE P "_law_no_shape" 795 (.ref 473),dE P "_law_too_great" 805 (.ref 480),dE P "_law_made" 815 (.ref 487),dE P "law" 830 (.ref 494)] 62
noncomputable def o15:O:=tO #[.type "ValueError"]
noncomputable def o23 (P:Params):O:=dO #[dE P "__module__" 196 (sT "formcycle.errors" 187),dE P "__firstlineno__" 200 (.int 2 199),dE P "__static_attributes__" 201 (.ref 22),dE P "__weakref__" 203 (.ref 25),dE P "__doc__" 204 .none] 3
noncomputable def o24:O:=.mk (.type "type") none (Data.cls (ClassData.mk (.ofString "FormError") [.type "ValueError"] [.ref 24, .type "ValueError", .type "Exception", .type "BaseException", .type "object"] 23 (.ofString "FormError") Bool.true [] [.ref 44,.ref 63,.ref 82,.ref 101,.ref 120,.ref 139,.ref 151,.ref 170,.ref 189,.ref 201,.ref 220] Bool.false none Bool.false)) #[some (.ref 15), none, some (sT "FormError" 189), some (sT "FormError" 197), some (.builtin "ValueError.__new__"), some (.bool true)]
noncomputable def o25:O:=.mk (.type "getset_descriptor") none (Data.fields #[sT "__weakref__" 202,.ref 24, .builtin "ExceptionGroup.__weakref__", .none]) #[]
noncomputable def o28:O:=tO #[.ref 24]
noncomputable def o37:O:=tO #[sT "self" 222,sT "turn" 223]
noncomputable def o40:O:=cF "__init__" "NoTurn.__init__" 219 6 2 35 224
noncomputable def o41:O:=fO "__init__" "NoTurn.__init__" (inC (tp 2) 0) "formcycle.errors" 187 40
noncomputable def o42:O:=tO #[sT "turn" 227]
noncomputable def o43 (P:Params):O:=dO #[dE P "__module__" 214 (sT "formcycle.errors" 187),dE P "__firstlineno__" 218 (.int 4 217),dE P "__init__" 226 (.ref 41),dE P "__static_attributes__" 228 (.ref 42),dE P "__doc__" 229 .none] 2
noncomputable def o44:O:=xO "NoTurn" 24 44 43 28 207 215
noncomputable def o47:O:=tO #[.ref 24]
noncomputable def o56:O:=tO #[sT "self" 247,sT "form" 248]
noncomputable def o59:O:=cF "__init__" "NoShape.__init__" 244 10 2 54 249
noncomputable def o60:O:=fO "__init__" "NoShape.__init__" (inC (tp 3) 0) "formcycle.errors" 187 59
noncomputable def o61:O:=tO #[sT "form" 252]
noncomputable def o62 (P:Params):O:=dO #[dE P "__module__" 239 (sT "formcycle.errors" 187),dE P "__firstlineno__" 243 (.int 8 242),dE P "__init__" 251 (.ref 60),dE P "__static_attributes__" 253 (.ref 61),dE P "__doc__" 254 .none] 2
noncomputable def o63:O:=xO "NoShape" 24 63 62 47 232 240
noncomputable def o66:O:=tO #[.ref 24]
noncomputable def o75:O:=tO #[sT "self" 272,sT "number" 273,sT "most" 274]
noncomputable def o78:O:=cF "__init__" "TooGreat.__init__" 269 14 3 73 275
noncomputable def o79:O:=fO "__init__" "TooGreat.__init__" (inC (tp 4) 0) "formcycle.errors" 187 78
noncomputable def o80:O:=tO #[sT "most" 278,sT "number" 279]
noncomputable def o81 (P:Params):O:=dO #[dE P "__module__" 264 (sT "formcycle.errors" 187),dE P "__firstlineno__" 268 (.int 12 267),dE P "__init__" 277 (.ref 79),dE P "__static_attributes__" 280 (.ref 80),dE P "__doc__" 281 .none] 2
noncomputable def o82:O:=xO "TooGreat" 24 82 81 66 257 265
noncomputable def o85:O:=tO #[.ref 24]
noncomputable def o94:O:=tO #[sT "self" 299,sT "number" 300]
noncomputable def o97:O:=cF "__init__" "NoRoot.__init__" 296 19 2 92 301
noncomputable def o98:O:=fO "__init__" "NoRoot.__init__" (inC (tp 5) 0) "formcycle.errors" 187 97
noncomputable def o99:O:=tO #[sT "number" 304]
noncomputable def o100 (P:Params):O:=dO #[dE P "__module__" 291 (sT "formcycle.errors" 187),dE P "__firstlineno__" 295 (.int 17 294),dE P "__init__" 303 (.ref 98),dE P "__static_attributes__" 305 (.ref 99),dE P "__doc__" 306 .none] 2
noncomputable def Wu:O:=xO "NoRoot" 24 101 100 85 284 292
noncomputable def Xf:O:=tO #[.ref 24]
noncomputable def Vp:O:=tO #[sT "self" 324,sT "form" 325]
noncomputable def Xb:O:=cF "__init__" "NotLevel.__init__" 321 23 2 111 326
noncomputable def WT:O:=fO "__init__" "NotLevel.__init__" (inC (tp 6) 0) "formcycle.errors" 187 116
noncomputable def V0:O:=tO #[sT "form" 329]
noncomputable def Xr (P:Params):O:=dO #[dE P "__module__" 316 (sT "formcycle.errors" 187),dE P "__firstlineno__" 320 (.int 21 319),dE P "__init__" 328 (.ref 117),dE P "__static_attributes__" 330 (.ref 118),dE P "__doc__" 331 .none] 2
noncomputable def WQ:O:=xO "NotLevel" 24 120 119 104 309 317
noncomputable def Vw:O:=tO #[.ref 24]
noncomputable def WL:O:=tO #[sT "self" 349,sT "turn" 350]
noncomputable def VR:O:=cF "__init__" "NotOwn.__init__" 346 27 2 130 351
noncomputable def VB:O:=fO "__init__" "NotOwn.__init__" (inC (tp 7) 0) "formcycle.errors" 187 135
noncomputable def Vv:O:=tO #[sT "turn" 354]
noncomputable def WR (P:Params):O:=dO #[dE P "__module__" 341 (sT "formcycle.errors" 187),dE P "__firstlineno__" 345 (.int 25 344),dE P "__init__" 353 (.ref 136),dE P "__static_attributes__" 355 (.ref 137),dE P "__doc__" 356 .none] 2
noncomputable def V9:O:=xO "NotOwn" 24 139 138 123 334 342
noncomputable def AaV:O:=tO #[.ref 24]
noncomputable def Ys (P:Params):O:=dO #[dE P "__module__" 366 (sT "formcycle.errors" 187),dE P "__firstlineno__" 370 (.int 29 369),dE P "__static_attributes__" 371 (.ref 149),dE P "__doc__" 372 .none] 2
noncomputable def AaI:O:=xO "Apart" 24 151 150 142 359 367
noncomputable def AaJ:O:=tO #[.ref 24]
noncomputable def Zw:O:=tO #[sT "self" 390,sT "form" 391]
noncomputable def AaH:O:=cF "__init__" "NotPlain.__init__" 387 33 2 161 392
noncomputable def Zd:O:=fO "__init__" "NotPlain.__init__" (inC (tp 9) 0) "formcycle.errors" 187 166
noncomputable def Zh:O:=tO #[sT "form" 395]
noncomputable def Zz (P:Params):O:=dO #[dE P "__module__" 382 (sT "formcycle.errors" 187),dE P "__firstlineno__" 386 (.int 31 385),dE P "__init__" 394 (.ref 167),dE P "__static_attributes__" 396 (.ref 168),dE P "__doc__" 397 .none] 2
noncomputable def Xv:O:=xO "NotPlain" 24 170 169 154 375 383
noncomputable def YW:O:=tO #[.ref 24]
noncomputable def Aav:O:=tO #[sT "self" 415,sT "number" 416]
noncomputable def Y7:O:=cF "__init__" "NoMeasure.__init__" 412 37 2 180 417
noncomputable def Zf:O:=fO "__init__" "NoMeasure.__init__" (inC (tp 10) 0) "formcycle.errors" 187 185
noncomputable def Z9:O:=tO #[sT "number" 420]
noncomputable def YS (P:Params):O:=dO #[dE P "__module__" 407 (sT "formcycle.errors" 187),dE P "__firstlineno__" 411 (.int 35 410),dE P "__init__" 419 (.ref 186),dE P "__static_attributes__" 421 (.ref 187),dE P "__doc__" 422 .none] 2
noncomputable def Aaj:O:=xO "NoMeasure" 24 189 188 173 400 408
noncomputable def Ze:O:=tO #[.ref 24]
noncomputable def o200 (P:Params):O:=dO #[dE P "__module__" 432 (sT "formcycle.errors" 187),dE P "__firstlineno__" 436 (.int 39 435),dE P "__static_attributes__" 437 (.ref 199),dE P "__doc__" 438 .none] 2
noncomputable def Aam:O:=xO "Nought" 24 201 200 192 425 433
noncomputable def Zk:O:=tO #[.ref 24]
noncomputable def ZL:O:=tO #[sT "self" 456,sT "point" 457]
noncomputable def Z0:O:=cF "__init__" "NoAnswer.__init__" 453 43 2 211 458
noncomputable def Aag:O:=fO "__init__" "NoAnswer.__init__" (inC (tp 12) 0) "formcycle.errors" 187 216
noncomputable def Z2:O:=tO #[sT "point" 461]
noncomputable def Aaa (P:Params):O:=dO #[dE P "__module__" 448 (sT "formcycle.errors" 187),dE P "__firstlineno__" 452 (.int 41 451),dE P "__init__" 460 (.ref 217),dE P "__static_attributes__" 462 (.ref 218),dE P "__doc__" 463 .none] 2
noncomputable def Y6:O:=xO "NoAnswer" 24 220 219 204 441 449
noncomputable def Zo:O:=tO #[sT "one" 471,sT "other" 472,sT "rest" 473]
noncomputable def Yq:O:=cF "divisor" "divisor" 468 46 2 223 474
noncomputable def Yb:O:=fO "divisor" "divisor" (tp 14) "formcycle.wholes" 466 228
noncomputable def ZM:O:=tO #[sT "number" 480,sT "guess" 481,sT "better" 482]
noncomputable def Z4:O:=cF "root" "root" 477 52 1 230 483
noncomputable def Xz:O:=fO "root" "root" (tp 15) "formcycle.wholes" 466 235
noncomputable def YD:O:=tO #[sT "number" 489,sT "side" 490]
noncomputable def Z8:O:=cF "is_square" "is_square" 486 63 1 237 491
noncomputable def Yp:O:=fO "is_square" "is_square" (tp 16) "formcycle.wholes" 466 242
noncomputable def ZP:O:=tO #[sT "number" 497,sT "most" 498]
noncomputable def YB:O:=cF "check_at_most" "check_at_most" 494 68 2 244 499
noncomputable def Yc:O:=fO "check_at_most" "check_at_most" (tp 17) "formcycle.wholes" 466 249
noncomputable def X5:O:=tO #[.int 1 504, .int 0 505, .int 0 506, .int 1 507]
noncomputable def YQ:O:=tO #[sT "turn" 512]
noncomputable def Aaf:O:=cF "is_turn" "is_turn" 509 73 1 252 513
noncomputable def AaU:O:=fO "is_turn" "is_turn" (tp 20) "formcycle.turns" 502 257
noncomputable def ZR:O:=tO #[sT "turn" 519]
noncomputable def Zy:O:=cF "check_turn" "check_turn" 516 75 1 259 520
noncomputable def X6:O:=fO "check_turn" "check_turn" (tp 21) "formcycle.turns" 502 264
noncomputable def AaA:O:=tO #[sT "one" 526,sT "other" 527]
noncomputable def YL:O:=cF "put_behind" "put_behind" 523 78 2 266 528
noncomputable def Aal:O:=fO "put_behind" "put_behind" (tp 22) "formcycle.turns" 502 271
noncomputable def ZS:O:=tO #[sT "turn" 534]
noncomputable def Z6:O:=cF "back" "back" 531 80 1 273 535
noncomputable def Y4:O:=fO "back" "back" (tp 23) "formcycle.turns" 502 278
noncomputable def Yv:O:=tO #[sT "form" 543]
noncomputable def XD:O:=cF "measure" "measure" 540 84 1 280 544
noncomputable def YH:O:=fO "measure" "measure" (tp 25) "formcycle.forms" 538 285
noncomputable def Aac:O:=tO #[sT "form" 550,sT "point" 551,sT "x" 552,sT "y" 553]
noncomputable def Zn:O:=cF "value" "value" 547 86 2 287 554
noncomputable def XQ:O:=fO "value" "value" (tp 26) "formcycle.forms" 538 292
noncomputable def AcI:O:=tO #[sT "form" 560]
noncomputable def Ab8:O:=cF "content" "content" 557 90 1 294 561
noncomputable def o300:O:=fO "content" "content" (tp 27) "formcycle.forms" 538 299
noncomputable def Acq:O:=tO #[sT "form" 567,sT "turn" 568,sT "left" 569,sT "right" 570]
noncomputable def AbO:O:=cF "moved" "moved" 564 92 2 301 571
noncomputable def AbU:O:=fO "moved" "moved" (tp 28) "formcycle.forms" 538 306
noncomputable def AbE:O:=tO #[sT "form" 577,sT "left" 578,sT "right" 579,sT "crossed" 580]
noncomputable def Abb:O:=cF "middle" "middle" 574 97 3 308 581
noncomputable def Acl:O:=fO "middle" "middle" (tp 29) "formcycle.forms" 538 313
noncomputable def AbL:O:=tO #[sT "form" 587,sT "number" 588]
noncomputable def AcV:O:=cF "shape" "shape" 584 100 1 315 589
noncomputable def Ab7:O:=fO "shape" "shape" (tp 30) "formcycle.forms" 538 320
noncomputable def AcO:O:=tO #[sT "form" 599]
noncomputable def Abd:O:=cF "check_saddle" "check_saddle" 596 111 1 322 600
noncomputable def AcA:O:=fO "check_saddle" "check_saddle" (tp 33) "formcycle.saddles" 592 327
noncomputable def AbP:O:=tO #[sT "form" 606]
noncomputable def Acf:O:=cF "is_level" "is_level" 603 115 1 329 607
noncomputable def Aby:O:=fO "is_level" "is_level" (tp 34) "formcycle.saddles" 592 334
noncomputable def Acg:O:=tO #[sT "form" 613,sT "far" 614,sT "b" 615]
noncomputable def Acb:O:=cF "stands_level" "stands_level" 610 118 2 336 616
noncomputable def Ab2:O:=fO "stands_level" "stands_level" (tp 35) "formcycle.saddles" 592 341
noncomputable def Abj:O:=tO #[sT "form" 622,sT "far" 623]
noncomputable def Aa0:O:=cF "after" "after" 619 121 1 343 624
noncomputable def AcT:O:=fO "after" "after" (tp 36) "formcycle.saddles" 592 348
noncomputable def AcP:O:=tO #[sT "form" 630,sT "top" 631,sT "b" 632,sT "c" 633,sT "d" 634]
noncomputable def Aa4:O:=cF "turn_behind" "turn_behind" 627 127 2 350 635
noncomputable def Ac0:O:=fO "turn_behind" "turn_behind" (tp 37) "formcycle.saddles" 592 355
noncomputable def AcE:O:=tO #[sT "stop" 641,sT "top" 642,sT "turn" 643]
noncomputable def Ac1:O:=cF "stop_behind" "stop_behind" 638 132 2 357 644
noncomputable def Aa7:O:=fO "stop_behind" "stop_behind" (tp 38) "formcycle.saddles" 592 362
noncomputable def AbS:O:=tO #[sT "form" 650,sT "far" 651,sT "stop" 652]
noncomputable def Abm:O:=cF "eased" "eased" 647 135 1 364 653
noncomputable def Acs:O:=fO "eased" "eased" (tp 39) "formcycle.saddles" 592 369
noncomputable def Abs:O:=tO #[sT "form" 659,sT "far" 660,sT "first" 661,sT "stops" 662,sT "stop" 663]
noncomputable def Ach:O:=cF "stops_round" "stops_round" 656 142 1 371 664
noncomputable def o377:O:=fO "stops_round" "stops_round" (tp 40) "formcycle.saddles" 592 376
noncomputable def AbT:O:=cO #[sT "round_of" 667,sT "round_of" 668, sF 669,iZ 152,iZ 1,iZ 0,iZ 0,iZ 3,.ref 378, .bool true,iZ 181,.ref 379, .none, .none, .none,.ref 380,iZ 670,iZ 152, sF 671]
noncomputable def Abz:O:=fO "round_of" "round_of" (tp 41) "formcycle.saddles" 592 381
noncomputable def AbK:O:=tO #[sT "form" 676,sT "common" 677,sT "plain" 678,sT "pair" 679,sT "t" 680,sT "u" 681]
noncomputable def Ab4:O:=cF "step_of" "step_of" 673 157 1 383 682
noncomputable def Ace:O:=fO "step_of" "step_of" (tp 42) "formcycle.saddles" 592 388
noncomputable def Abt:O:=tO #[sT "form" 688,sT "plain_first" 689,sT "stops" 690,sT "once" 691]
noncomputable def Abo:O:=cF "step_pair" "step_pair" 685 165 2 390 692
noncomputable def Abw:O:=fO "step_pair" "step_pair" (tp 43) "formcycle.saddles" 592 395
noncomputable def AaZ:O:=tO #[sT "form" 698,sT "turn" 699,sT "sign" 700,sT "count" 701]
noncomputable def AcL:O:=cF "power_of" "power_of" 695 169 2 397 702
noncomputable def AaX:O:=fO "power_of" "power_of" (tp 44) "formcycle.saddles" 592 402
noncomputable def Acp:O:=tO #[sT "step" 708,sT "third" 709,sT "doubled" 710,sT "count" 711,sT "came" 712,sT "place" 713,sT "further" 714]
noncomputable def AcK:O:=cF "count_without_sign" "count_without_sign" 705 179 2 404 715
noncomputable def AcZ:O:=fO "count_without_sign" "count_without_sign" (tp 45) "formcycle.saddles" 592 409
noncomputable def AbW:O:=tO #[sT "_law_script" 723,sT "_law_k" 724]
noncomputable def AcC:O:=cF "_law_cell" "_law_cell" 720 192 2 411 725
noncomputable def Aa3:O:=fO "_law_cell" "_law_cell" (tp 47) "law_formcycle_k29_no_saddle" 718 416
noncomputable def AbB:O:=tO #[sT "_law_form_here" 731]
noncomputable def AbR:O:=cF "_law_bar" "_law_bar" 728 196 1 418 732
noncomputable def Ac2:O:=fO "_law_bar" "_law_bar" (tp 48) "law_formcycle_k29_no_saddle" 718 423
noncomputable def Abk:O:=tO #[sT "_law_number_here" 738,sT "_law_near" 739]
noncomputable def Aca:O:=cF "_law_root" "_law_root" 735 198 1 425 740
noncomputable def Aa6:O:=fO "_law_root" "_law_root" (tp 49) "law_formcycle_k29_no_saddle" 718 430
noncomputable def Aa5:O:=tO #[sT "_law_cell_here" 746,sT "_law_kind" 747]
noncomputable def AbM:O:=cF "_law_number" "_law_number" 743 203 1 432 748
noncomputable def Abn:O:=fO "_law_number" "_law_number" (tp 50) "law_formcycle_k29_no_saddle" 718 437
noncomputable def AcB:O:=tO #[sT "_law_cells" 754,sT "_law_m" 755,sT "_law_n" 756,sT "_law_k" 757,sT "_law_g" 758]
noncomputable def o444:O:=cF "_law_form" "_law_form" 751 209 1 439 759
noncomputable def AcF:O:=fO "_law_form" "_law_form" (tp 51) "law_formcycle_k29_no_saddle" 718 444
noncomputable def Acu:O:=tO #[sT "_law_way" 765,sT "_law_form_here" 766]
noncomputable def AcX:O:=cF "_law_ask" "_law_ask" 762 217 2 446 767
noncomputable def Ab6:O:=fO "_law_ask" "_law_ask" (tp 52) "law_formcycle_k29_no_saddle" 718 451
noncomputable def AcN:O:=tO #[sT "_law_way" 773,sT "_law_form_here" 774,sT "_law_told_here" 775,sT "e" 776]
noncomputable def AbQ:O:=cF "_law_told" "_law_told" 770 229 2 453 777
noncomputable def Abh:O:=fO "_law_told" "_law_told" (tp 53) "law_formcycle_k29_no_saddle" 718 458
noncomputable def Ack:O:=tO #[sT "_law_told_here" 783]
noncomputable def Acx:O:=cF "_law_others" "_law_others" 780 236 1 460 784
noncomputable def Aa1:O:=fO "_law_others" "_law_others" (tp 54) "law_formcycle_k29_no_saddle" 718 465
noncomputable def Ab1:O:=tO #[sT "_law_way" 790,sT "_law_form_here" 791,sT "_law_told_here" 792]
noncomputable def AcU:O:=cF "_law_no_shape" "_law_no_shape" 787 240 2 467 793
noncomputable def Acm:O:=fO "_law_no_shape" "_law_no_shape" (tp 55) "law_formcycle_k29_no_saddle" 718 472
noncomputable def AbD:O:=tO #[sT "_law_way" 799,sT "_law_form_here" 800,sT "_law_most" 801,sT "_law_told_here" 802]
noncomputable def Ab5:O:=cF "_law_too_great" "_law_too_great" 796 243 3 474 803
noncomputable def Abi:O:=fO "_law_too_great" "_law_too_great" (tp 56) "law_formcycle_k29_no_saddle" 718 479
noncomputable def Abv:O:=tO #[sT "_law_number_here" 809,sT "_law_made_here" 810,sT "_law_form_here" 811,sT "_law_turn" 812]
noncomputable def AbG:O:=cF "_law_made" "_law_made" 806 246 1 481 813
noncomputable def Aa2:O:=fO "_law_made" "_law_made" (tp 57) "law_formcycle_k29_no_saddle" 718 486
noncomputable def AbX:O:=tO #[sT "_law_script" 819,sT "_law_form_here" 820,sT "_law_bar_here" 821,sT "_law_saddle" 822,sT "_law_b" 823,sT "_law_wide" 824,sT "_law_most" 825,sT "_law_cell_here" 826,sT "_law_found" 827]
noncomputable def AbY:O:=cF "law" "law" 816 259 1 488 828
noncomputable def AcJ:O:=fO "law" "law" (tp 58) "law_formcycle_k29_no_saddle" 718 493
noncomputable def KK : Params → Frag :=
fun P => (nat_lit 2,o2)::(nat_lit 3,o3 P)::(nat_lit 15,o15)::(nat_lit 22,tE)::(nat_lit 23,o23 P)::(nat_lit 24,o24)::(nat_lit 25,o25)::(nat_lit 28,o28)::(nat_lit 35,tE)::(nat_lit 37,o37)::(nat_lit 38,tE)::(nat_lit 40,o40)::(nat_lit 41,o41)::(nat_lit 42,o42)::(nat_lit 43,o43 P)::(nat_lit 44,o44)::(nat_lit 47,o47)::(nat_lit 54,tE)::(nat_lit 56,o56)::(nat_lit 57,tE)::(nat_lit 59,o59)::(nat_lit 60,o60)::(nat_lit 61,o61)::(nat_lit 62,o62 P)::(nat_lit 63,o63)::(nat_lit 66,o66)::(nat_lit 73,tE)::(nat_lit 75,o75)::(nat_lit 76,tE)::(nat_lit 78,o78)::(nat_lit 79,o79)::(nat_lit 80,o80)::(nat_lit 81,o81 P)::(nat_lit 82,o82)::(nat_lit 85,o85)::(nat_lit 92,tE)::(nat_lit 94,o94)::(nat_lit 95,tE)::(nat_lit 97,o97)::(nat_lit 98,o98)::(nat_lit 99,o99)::(nat_lit 100,o100 P)::(nat_lit 101,Wu)::(nat_lit 104,Xf)::(nat_lit 111,tE)::(nat_lit 113,Vp)::(nat_lit 114,tE)::(nat_lit 116,Xb)::(nat_lit 117,WT)::(nat_lit 118,V0)::(nat_lit 119,Xr P)::(nat_lit 120,WQ)::(nat_lit 123,Vw)::(nat_lit 130,tE)::(nat_lit 132,WL)::(nat_lit 133,tE)::(nat_lit 135,VR)::(nat_lit 136,VB)::(nat_lit 137,Vv)::(nat_lit 138,WR P)::(nat_lit 139,V9)::(nat_lit 142,AaV)::(nat_lit 149,tE)::(nat_lit 150,Ys P)::(nat_lit 151,AaI)::(nat_lit 154,AaJ)::(nat_lit 161,tE)::(nat_lit 163,Zw)::(nat_lit 164,tE)::(nat_lit 166,AaH)::(nat_lit 167,Zd)::(nat_lit 168,Zh)::(nat_lit 169,Zz P)::(nat_lit 170,Xv)::(nat_lit 173,YW)::(nat_lit 180,tE)::(nat_lit 182,Aav)::(nat_lit 183,tE)::(nat_lit 185,Y7)::(nat_lit 186,Zf)::(nat_lit 187,Z9)::(nat_lit 188,YS P)::(nat_lit 189,Aaj)::(nat_lit 192,Ze)::(nat_lit 199,tE)::(nat_lit 200,o200 P)::(nat_lit 201,Aam)::(nat_lit 204,Zk)::(nat_lit 211,tE)::(nat_lit 213,ZL)::(nat_lit 214,tE)::(nat_lit 216,Z0)::(nat_lit 217,Aag)::(nat_lit 218,Z2)::(nat_lit 219,Aaa P)::(nat_lit 220,Y6)::(nat_lit 223,tE)::(nat_lit 225,Zo)::(nat_lit 226,tE)::(nat_lit 228,Yq)::(nat_lit 229,Yb)::(nat_lit 230,tE)::(nat_lit 232,ZM)::(nat_lit 233,tE)::(nat_lit 235,Z4)::(nat_lit 236,Xz)::(nat_lit 237,tE)::(nat_lit 239,YD)::(nat_lit 240,tE)::(nat_lit 242,Z8)::(nat_lit 243,Yp)::(nat_lit 244,tE)::(nat_lit 246,ZP)::(nat_lit 247,tE)::(nat_lit 249,YB)::(nat_lit 250,Yc)::(nat_lit 251,X5)::(nat_lit 252,tE)::(nat_lit 254,YQ)::(nat_lit 255,tE)::(nat_lit 257,Aaf)::(nat_lit 258,AaU)::(nat_lit 259,tE)::(nat_lit 261,ZR)::(nat_lit 262,tE)::(nat_lit 264,Zy)::(nat_lit 265,X6)::(nat_lit 266,tE)::(nat_lit 268,AaA)::(nat_lit 269,tE)::(nat_lit 271,YL)::(nat_lit 272,Aal)::(nat_lit 273,tE)::(nat_lit 275,ZS)::(nat_lit 276,tE)::(nat_lit 278,Z6)::(nat_lit 279,Y4)::(nat_lit 280,tE)::(nat_lit 282,Yv)::(nat_lit 283,tE)::(nat_lit 285,XD)::(nat_lit 286,YH)::(nat_lit 287,tE)::(nat_lit 289,Aac)::(nat_lit 290,tE)::(nat_lit 292,Zn)::(nat_lit 293,XQ)::(nat_lit 294,tE)::(nat_lit 296,AcI)::(nat_lit 297,tE)::(nat_lit 299,Ab8)::(nat_lit 300,o300)::(nat_lit 301,tE)::(nat_lit 303,Acq)::(nat_lit 304,tE)::(nat_lit 306,AbO)::(nat_lit 307,AbU)::(nat_lit 308,tE)::(nat_lit 310,AbE)::(nat_lit 311,tE)::(nat_lit 313,Abb)::(nat_lit 314,Acl)::(nat_lit 315,tE)::(nat_lit 317,AbL)::(nat_lit 318,tE)::(nat_lit 320,AcV)::(nat_lit 321,Ab7)::(nat_lit 322,tE)::(nat_lit 324,AcO)::(nat_lit 325,tE)::(nat_lit 327,Abd)::(nat_lit 328,AcA)::(nat_lit 329,tE)::(nat_lit 331,AbP)::(nat_lit 332,tE)::(nat_lit 334,Acf)::(nat_lit 335,Aby)::(nat_lit 336,tE)::(nat_lit 338,Acg)::(nat_lit 339,tE)::(nat_lit 341,Acb)::(nat_lit 342,Ab2)::(nat_lit 343,tE)::(nat_lit 345,Abj)::(nat_lit 346,tE)::(nat_lit 348,Aa0)::(nat_lit 349,AcT)::(nat_lit 350,tE)::(nat_lit 352,AcP)::(nat_lit 353,tE)::(nat_lit 355,Aa4)::(nat_lit 356,Ac0)::(nat_lit 357,tE)::(nat_lit 359,AcE)::(nat_lit 360,tE)::(nat_lit 362,Ac1)::(nat_lit 363,Aa7)::(nat_lit 364,tE)::(nat_lit 366,AbS)::(nat_lit 367,tE)::(nat_lit 369,Abm)::(nat_lit 370,Acs)::(nat_lit 371,tE)::(nat_lit 373,Abs)::(nat_lit 374,tE)::(nat_lit 376,Ach)::(nat_lit 377,o377)::(nat_lit 378,tE)::(nat_lit 381,AbT)::(nat_lit 382,Abz)::(nat_lit 383,tE)::(nat_lit 385,AbK)::(nat_lit 386,tE)::(nat_lit 388,Ab4)::(nat_lit 389,Ace)::(nat_lit 390,tE)::(nat_lit 392,Abt)::(nat_lit 393,tE)::(nat_lit 395,Abo)::(nat_lit 396,Abw)::(nat_lit 397,tE)::(nat_lit 399,AaZ)::(nat_lit 400,tE)::(nat_lit 402,AcL)::(nat_lit 403,AaX)::(nat_lit 404,tE)::(nat_lit 406,Acp)::(nat_lit 407,tE)::(nat_lit 409,AcK)::(nat_lit 410,AcZ)::(nat_lit 411,tE)::(nat_lit 413,AbW)::(nat_lit 414,tE)::(nat_lit 416,AcC)::(nat_lit 417,Aa3)::(nat_lit 418,tE)::(nat_lit 420,AbB)::(nat_lit 421,tE)::(nat_lit 423,AbR)::(nat_lit 424,Ac2)::(nat_lit 425,tE)::(nat_lit 427,Abk)::(nat_lit 428,tE)::(nat_lit 430,Aca)::(nat_lit 431,Aa6)::(nat_lit 432,tE)::(nat_lit 434,Aa5)::(nat_lit 435,tE)::(nat_lit 437,AbM)::(nat_lit 438,Abn)::(nat_lit 439,tE)::(nat_lit 441,AcB)::(nat_lit 442,tE)::(nat_lit 444,o444)::(nat_lit 445,AcF)::(nat_lit 446,tE)::(nat_lit 448,Acu)::(nat_lit 449,tE)::(nat_lit 451,AcX)::(nat_lit 452,Ab6)::(nat_lit 453,tE)::(nat_lit 455,AcN)::(nat_lit 456,tE)::(nat_lit 458,AbQ)::(nat_lit 459,Abh)::(nat_lit 460,tE)::(nat_lit 462,Ack)::(nat_lit 463,tE)::(nat_lit 465,Acx)::(nat_lit 466,Aa1)::(nat_lit 467,tE)::(nat_lit 469,Ab1)::(nat_lit 470,tE)::(nat_lit 472,AcU)::(nat_lit 473,Acm)::(nat_lit 474,tE)::(nat_lit 476,AbD)::(nat_lit 477,tE)::(nat_lit 479,Ab5)::(nat_lit 480,Abi)::(nat_lit 481,tE)::(nat_lit 483,Abv)::(nat_lit 484,tE)::(nat_lit 486,AbG)::(nat_lit 487,Aa2)::(nat_lit 488,tE)::(nat_lit 490,AbX)::(nat_lit 491,tE)::(nat_lit 493,AbY)::(nat_lit 494,AcJ)::[]
noncomputable def Br:O:=nO #[]
noncomputable def Og:O:=cO #[sT "<module>" 182,sT "<module>" 183, sF 184,iZ 1,iZ 0,iZ 0,iZ 0,iZ 0,.ref 11, .bool false,iZ 181,.ref 12, .none, .none, .none, .none,iZ 185,iZ 1, sF 186]
noncomputable def Oz:O:=rO 13 3 "__main__" 164
noncomputable def AcY (P:Params):O:=dO #[dE P "__name__" 165 (sT "formcycle.errors" 187),dE P "__doc__" 166 .none,dE P "__package__" 167 .none,dE P "__loader__" 168 (.builtin "__main__.__loader__#opaque"),dE P "__spec__" 169 .none,dE P "__annotations__" 170 (.ref 6),dE P "__builtins__" 171 (.ref 4),dE P "__file__" 173 (sF 172),dE P "__cached__" 174 .none,dE P "FormError" 206 (.ref 24),dE P "NoTurn" 231 (.ref 44),dE P "NoShape" 256 (.ref 63),dE P "TooGreat" 283 (.ref 82),dE P "NoRoot" 308 (.ref 101),dE P "NotLevel" 333 (.ref 120),dE P "NotOwn" 358 (.ref 139)] 16
noncomputable def ZD:O:=nO #[iZ 2,iZ 0,.ref 20,iZ 4,iZ 0,.ref 33,iZ 8,iZ 0,.ref 52,iZ 12,iZ 0,.ref 71,iZ 17,iZ 0,.ref 90,iZ 21,iZ 0,.ref 109,iZ 25,iZ 0,.ref 128]
noncomputable def CQ:O:=bO #[.builtin "type.__prepare__", .type "type"]
noncomputable def TX (P:Params):O:=dO #[dE P "__module__" 196 (sT "formcycle.errors" 187),dE P "__qualname__" 198 (sT "FormError" 197),dE P "__firstlineno__" 200 (.int 2 199),dE P "__static_attributes__" 201 (.ref 22)] 4
noncomputable def T7:O:=cO #[sT "FormError" 191,sT "FormError" 192, sF 193,iZ 2,iZ 0,iZ 0,iZ 0,iZ 0,.ref 18, .bool false,iZ 181,.ref 19, .none, .none, .none, .none,iZ 194,iZ 2, sF 195]
noncomputable def Uu:O:=rO 20 17 "formcycle.errors" 187
noncomputable def Yd:O:=.mk (.type "type") none (Data.cls (ClassData.mk (.ofString "FormError") [.type "ValueError"] [.ref 24, .type "ValueError", .type "Exception", .type "BaseException", .type "object"] 23 (.ofString "FormError") Bool.true [] [.ref 44,.ref 63,.ref 82,.ref 101,.ref 120,.ref 139] Bool.false none Bool.false)) #[some (.ref 15), none, some (sT "FormError" 189), some (sT "FormError" 197), some (.builtin "ValueError.__new__"), some (.bool true)]
noncomputable def TV:O:=sO 24
noncomputable def Tn:O:=bO #[.builtin "object.__init_subclass__",.ref 24]
noncomputable def TJ (P:Params):O:=dO #[dE P "__module__" 214 (sT "formcycle.errors" 187),dE P "__qualname__" 216 (sT "NoTurn" 215),dE P "__firstlineno__" 218 (.int 4 217),dE P "__init__" 226 (.ref 41),dE P "__static_attributes__" 228 (.ref 42)] 5
noncomputable def Uy:O:=nO #[iZ 6,iZ 4,.ref 40]
noncomputable def Ud:O:=cO #[sT "NoTurn" 209,sT "NoTurn" 210, sF 211,iZ 4,iZ 0,iZ 0,iZ 0,iZ 0,.ref 31, .bool false,iZ 181,.ref 32, .none, .none, .none, .none,iZ 212,iZ 4, sF 213]
noncomputable def U0:O:=rO 33 30 "formcycle.errors" 187
noncomputable def Uz:O:=.mk .none none (Data.func (FuncData.mk (.ofString "__init__") (.ofString "NoTurn.__init__") (fA (inC (tp 2) 0)) (.stmts (fB (inC (tp 2) 0))) (fS (inC (tp 2) 0)) 0 [] .none .none .none .none none .none .none 0)) #[]
noncomputable def UJ:O:=sO 44
noncomputable def Vb:O:=bO #[.builtin "object.__init_subclass__",.ref 44]
noncomputable def Vg (P:Params):O:=dO #[dE P "__module__" 239 (sT "formcycle.errors" 187),dE P "__qualname__" 241 (sT "NoShape" 240),dE P "__firstlineno__" 243 (.int 8 242),dE P "__init__" 251 (.ref 60),dE P "__static_attributes__" 253 (.ref 61)] 5
noncomputable def Uv:O:=nO #[iZ 10,iZ 4,.ref 59]
noncomputable def UW:O:=cO #[sT "NoShape" 234,sT "NoShape" 235, sF 236,iZ 8,iZ 0,iZ 0,iZ 0,iZ 0,.ref 50, .bool false,iZ 181,.ref 51, .none, .none, .none, .none,iZ 237,iZ 8, sF 238]
noncomputable def Ug:O:=rO 52 49 "formcycle.errors" 187
noncomputable def Uk:O:=.mk .none none (Data.func (FuncData.mk (.ofString "__init__") (.ofString "NoShape.__init__") (fA (inC (tp 3) 0)) (.stmts (fB (inC (tp 3) 0))) (fS (inC (tp 3) 0)) 0 [] .none .none .none .none none .none .none 0)) #[]
noncomputable def Vf:O:=sO 63
noncomputable def Uh:O:=bO #[.builtin "object.__init_subclass__",.ref 63]
noncomputable def Ul (P:Params):O:=dO #[dE P "__module__" 264 (sT "formcycle.errors" 187),dE P "__qualname__" 266 (sT "TooGreat" 265),dE P "__firstlineno__" 268 (.int 12 267),dE P "__init__" 277 (.ref 79),dE P "__static_attributes__" 280 (.ref 80)] 5
noncomputable def Ve:O:=nO #[iZ 14,iZ 4,.ref 78]
noncomputable def U5:O:=cO #[sT "TooGreat" 259,sT "TooGreat" 260, sF 261,iZ 12,iZ 0,iZ 0,iZ 0,iZ 0,.ref 69, .bool false,iZ 181,.ref 70, .none, .none, .none, .none,iZ 262,iZ 12, sF 263]
noncomputable def T5:O:=rO 71 68 "formcycle.errors" 187
noncomputable def Uj:O:=.mk .none none (Data.func (FuncData.mk (.ofString "__init__") (.ofString "TooGreat.__init__") (fA (inC (tp 4) 0)) (.stmts (fB (inC (tp 4) 0))) (fS (inC (tp 4) 0)) 0 [] .none .none .none .none none .none .none 0)) #[]
noncomputable def Vc:O:=sO 82
noncomputable def U7:O:=bO #[.builtin "object.__init_subclass__",.ref 82]
noncomputable def T8 (P:Params):O:=dO #[dE P "__module__" 291 (sT "formcycle.errors" 187),dE P "__qualname__" 293 (sT "NoRoot" 292),dE P "__firstlineno__" 295 (.int 17 294),dE P "__init__" 303 (.ref 98),dE P "__static_attributes__" 305 (.ref 99)] 5
noncomputable def Ut:O:=nO #[iZ 19,iZ 4,.ref 97]
noncomputable def Us:O:=cO #[sT "NoRoot" 286,sT "NoRoot" 287, sF 288,iZ 17,iZ 0,iZ 0,iZ 0,iZ 0,.ref 88, .bool false,iZ 181,.ref 89, .none, .none, .none, .none,iZ 289,iZ 17, sF 290]
noncomputable def Uo:O:=rO 90 87 "formcycle.errors" 187
noncomputable def TQ:O:=.mk .none none (Data.func (FuncData.mk (.ofString "__init__") (.ofString "NoRoot.__init__") (fA (inC (tp 5) 0)) (.stmts (fB (inC (tp 5) 0))) (fS (inC (tp 5) 0)) 0 [] .none .none .none .none none .none .none 0)) #[]
noncomputable def Oa:O:=sO 101
noncomputable def Pb:O:=bO #[.builtin "object.__init_subclass__",.ref 101]
noncomputable def NK (P:Params):O:=dO #[dE P "__module__" 316 (sT "formcycle.errors" 187),dE P "__qualname__" 318 (sT "NotLevel" 317),dE P "__firstlineno__" 320 (.int 21 319),dE P "__init__" 328 (.ref 117),dE P "__static_attributes__" 330 (.ref 118)] 5
noncomputable def OD:O:=nO #[iZ 23,iZ 4,.ref 116]
noncomputable def Pu:O:=cO #[sT "NotLevel" 311,sT "NotLevel" 312, sF 313,iZ 21,iZ 0,iZ 0,iZ 0,iZ 0,.ref 107, .bool false,iZ 181,.ref 108, .none, .none, .none, .none,iZ 314,iZ 21, sF 315]
noncomputable def Qi:O:=rO 109 106 "formcycle.errors" 187
noncomputable def NT:O:=.mk .none none (Data.func (FuncData.mk (.ofString "__init__") (.ofString "NotLevel.__init__") (fA (inC (tp 6) 0)) (.stmts (fB (inC (tp 6) 0))) (fS (inC (tp 6) 0)) 0 [] .none .none .none .none none .none .none 0)) #[]
noncomputable def Ov:O:=sO 120
noncomputable def Qo:O:=bO #[.builtin "object.__init_subclass__",.ref 120]
noncomputable def Ph (P:Params):O:=dO #[dE P "__module__" 341 (sT "formcycle.errors" 187),dE P "__qualname__" 343 (sT "NotOwn" 342),dE P "__firstlineno__" 345 (.int 25 344),dE P "__init__" 353 (.ref 136),dE P "__static_attributes__" 355 (.ref 137)] 5
noncomputable def Pk:O:=nO #[iZ 27,iZ 4,.ref 135]
noncomputable def Qc:O:=cO #[sT "NotOwn" 336,sT "NotOwn" 337, sF 338,iZ 25,iZ 0,iZ 0,iZ 0,iZ 0,.ref 126, .bool false,iZ 181,.ref 127, .none, .none, .none, .none,iZ 339,iZ 25, sF 340]
noncomputable def Nk:O:=rO 128 125 "formcycle.errors" 187
noncomputable def Pz:O:=.mk .none none (Data.func (FuncData.mk (.ofString "__init__") (.ofString "NotOwn.__init__") (fA (inC (tp 7) 0)) (.stmts (fB (inC (tp 7) 0))) (fS (inC (tp 7) 0)) 0 [] .none .none .none .none none .none .none 0)) #[]
noncomputable def Py:O:=sO 139
noncomputable def Oh:O:=bO #[.builtin "object.__init_subclass__",.ref 139]
noncomputable def Yj (P:Params):O:=dO #[dE P "__name__" 165 (sT "formcycle.forms" 538),dE P "__doc__" 166 .none,dE P "__package__" 167 .none,dE P "__loader__" 168 (.builtin "__main__.__loader__#opaque"),dE P "__spec__" 169 .none,dE P "__annotations__" 170 (.ref 6),dE P "__builtins__" 171 (.ref 4),dE P "__file__" 173 (sF 172),dE P "__cached__" 174 .none,dE P "FormError" 206 (.ref 24),dE P "NoTurn" 231 (.ref 44),dE P "NoShape" 256 (.ref 63),dE P "TooGreat" 283 (.ref 82),dE P "NoRoot" 308 (.ref 101),dE P "NotLevel" 333 (.ref 120),dE P "NotOwn" 358 (.ref 139),dE P "Apart" 374 (.ref 151),dE P "NotPlain" 399 (.ref 170),dE P "NoMeasure" 424 (.ref 189),dE P "Nought" 440 (.ref 201),dE P "NoAnswer" 465 (.ref 220),dE P "divisor" 476 (.ref 229),dE P "root" 485 (.ref 236),dE P "is_square" 493 (.ref 243),dE P "check_at_most" 501 (.ref 250),dE P "SAME" 508 (.ref 251),dE P "is_turn" 515 (.ref 258),dE P "check_turn" 522 (.ref 265),dE P "put_behind" 530 (.ref 272),dE P "back" 537 (.ref 279),dE P "measure" 546 (.ref 286),dE P "value" 556 (.ref 293)] 32
noncomputable def Wj:O:=nO #[iZ 2,iZ 0,.ref 20,iZ 4,iZ 0,.ref 33,iZ 8,iZ 0,.ref 52,iZ 12,iZ 0,.ref 71,iZ 17,iZ 0,.ref 90,iZ 21,iZ 0,.ref 109,iZ 25,iZ 0,.ref 128,iZ 29,iZ 0,.ref 147,iZ 31,iZ 0,.ref 159,iZ 35,iZ 0,.ref 178,iZ 39,iZ 0,.ref 197,iZ 41,iZ 0,.ref 209,iZ 46,iZ 0,.ref 228,iZ 52,iZ 0,.ref 235,iZ 63,iZ 0,.ref 242,iZ 68,iZ 0,.ref 249,iZ 73,iZ 0,.ref 257,iZ 75,iZ 0,.ref 264,iZ 78,iZ 0,.ref 271,iZ 80,iZ 0,.ref 278,iZ 84,iZ 0,.ref 285,iZ 86,iZ 0,.ref 292]
noncomputable def RX (P:Params):O:=dO #[dE P "__module__" 366 (sT "formcycle.errors" 187),dE P "__qualname__" 368 (sT "Apart" 367),dE P "__firstlineno__" 370 (.int 29 369),dE P "__static_attributes__" 371 (.ref 149)] 4
noncomputable def R0:O:=cO #[sT "Apart" 361,sT "Apart" 362, sF 363,iZ 29,iZ 0,iZ 0,iZ 0,iZ 0,.ref 145, .bool false,iZ 181,.ref 146, .none, .none, .none, .none,iZ 364,iZ 29, sF 365]
noncomputable def QZ:O:=rO 147 144 "formcycle.errors" 187
noncomputable def RG:O:=sO 151
noncomputable def Rw:O:=bO #[.builtin "object.__init_subclass__",.ref 151]
noncomputable def Qu (P:Params):O:=dO #[dE P "__module__" 382 (sT "formcycle.errors" 187),dE P "__qualname__" 384 (sT "NotPlain" 383),dE P "__firstlineno__" 386 (.int 31 385),dE P "__init__" 394 (.ref 167),dE P "__static_attributes__" 396 (.ref 168)] 5
noncomputable def S7:O:=nO #[iZ 33,iZ 4,.ref 166]
noncomputable def Ro:O:=cO #[sT "NotPlain" 377,sT "NotPlain" 378, sF 379,iZ 31,iZ 0,iZ 0,iZ 0,iZ 0,.ref 157, .bool false,iZ 181,.ref 158, .none, .none, .none, .none,iZ 380,iZ 31, sF 381]
noncomputable def Ti:O:=rO 159 156 "formcycle.errors" 187
noncomputable def RM:O:=.mk .none none (Data.func (FuncData.mk (.ofString "__init__") (.ofString "NotPlain.__init__") (fA (inC (tp 9) 0)) (.stmts (fB (inC (tp 9) 0))) (fS (inC (tp 9) 0)) 0 [] .none .none .none .none none .none .none 0)) #[]
noncomputable def Tc:O:=sO 170
noncomputable def Qw:O:=bO #[.builtin "object.__init_subclass__",.ref 170]
noncomputable def RV (P:Params):O:=dO #[dE P "__module__" 407 (sT "formcycle.errors" 187),dE P "__qualname__" 409 (sT "NoMeasure" 408),dE P "__firstlineno__" 411 (.int 35 410),dE P "__init__" 419 (.ref 186),dE P "__static_attributes__" 421 (.ref 187)] 5
noncomputable def Ss:O:=nO #[iZ 37,iZ 4,.ref 185]
noncomputable def RP:O:=cO #[sT "NoMeasure" 402,sT "NoMeasure" 403, sF 404,iZ 35,iZ 0,iZ 0,iZ 0,iZ 0,.ref 176, .bool false,iZ 181,.ref 177, .none, .none, .none, .none,iZ 405,iZ 35, sF 406]
noncomputable def QD:O:=rO 178 175 "formcycle.errors" 187
noncomputable def Sv:O:=.mk .none none (Data.func (FuncData.mk (.ofString "__init__") (.ofString "NoMeasure.__init__") (fA (inC (tp 10) 0)) (.stmts (fB (inC (tp 10) 0))) (fS (inC (tp 10) 0)) 0 [] .none .none .none .none none .none .none 0)) #[]
noncomputable def R8:O:=sO 189
noncomputable def Q5:O:=bO #[.builtin "object.__init_subclass__",.ref 189]
noncomputable def Rb (P:Params):O:=dO #[dE P "__module__" 432 (sT "formcycle.errors" 187),dE P "__qualname__" 434 (sT "Nought" 433),dE P "__firstlineno__" 436 (.int 39 435),dE P "__static_attributes__" 437 (.ref 199)] 4
noncomputable def SM:O:=cO #[sT "Nought" 427,sT "Nought" 428, sF 429,iZ 39,iZ 0,iZ 0,iZ 0,iZ 0,.ref 195, .bool false,iZ 181,.ref 196, .none, .none, .none, .none,iZ 430,iZ 39, sF 431]
noncomputable def QJ:O:=rO 197 194 "formcycle.errors" 187
noncomputable def QG:O:=sO 201
noncomputable def QV:O:=bO #[.builtin "object.__init_subclass__",.ref 201]
noncomputable def Sy (P:Params):O:=dO #[dE P "__module__" 448 (sT "formcycle.errors" 187),dE P "__qualname__" 450 (sT "NoAnswer" 449),dE P "__firstlineno__" 452 (.int 41 451),dE P "__init__" 460 (.ref 217),dE P "__static_attributes__" 462 (.ref 218)] 5
noncomputable def S8:O:=nO #[iZ 43,iZ 4,.ref 216]
noncomputable def QB:O:=cO #[sT "NoAnswer" 443,sT "NoAnswer" 444, sF 445,iZ 41,iZ 0,iZ 0,iZ 0,iZ 0,.ref 207, .bool false,iZ 181,.ref 208, .none, .none, .none, .none,iZ 446,iZ 41, sF 447]
noncomputable def QW:O:=rO 209 206 "formcycle.errors" 187
noncomputable def Qt:O:=.mk .none none (Data.func (FuncData.mk (.ofString "__init__") (.ofString "NoAnswer.__init__") (fA (inC (tp 12) 0)) (.stmts (fB (inC (tp 12) 0))) (fS (inC (tp 12) 0)) 0 [] .none .none .none .none none .none .none 0)) #[]
noncomputable def RK:O:=sO 220
noncomputable def Tf:O:=bO #[.builtin "object.__init_subclass__",.ref 220]
noncomputable def Rg:O:=.mk .none none (Data.func (FuncData.mk (.ofString "divisor") (.ofString "divisor") (fA (tp 14)) (.stmts (fB (tp 14))) (fS (tp 14)) 0 [] .none .none .none .none none .none .none 0)) #[]
noncomputable def R9:O:=.mk .none none (Data.func (FuncData.mk (.ofString "root") (.ofString "root") (fA (tp 15)) (.stmts (fB (tp 15))) (fS (tp 15)) 0 [] .none .none .none .none none .none .none 0)) #[]
noncomputable def Rm:O:=.mk .none none (Data.func (FuncData.mk (.ofString "is_square") (.ofString "is_square") (fA (tp 16)) (.stmts (fB (tp 16))) (fS (tp 16)) 0 [] .none .none .none .none none .none .none 0)) #[]
noncomputable def SX:O:=.mk .none none (Data.func (FuncData.mk (.ofString "check_at_most") (.ofString "check_at_most") (fA (tp 17)) (.stmts (fB (tp 17))) (fS (tp 17)) 0 [] .none .none .none .none none .none .none 0)) #[]
noncomputable def Rk:O:=.mk .none none (Data.func (FuncData.mk (.ofString "is_turn") (.ofString "is_turn") (fA (tp 20)) (.stmts (fB (tp 20))) (fS (tp 20)) 0 [] .none .none .none .none none .none .none 0)) #[]
noncomputable def QX:O:=.mk .none none (Data.func (FuncData.mk (.ofString "check_turn") (.ofString "check_turn") (fA (tp 21)) (.stmts (fB (tp 21))) (fS (tp 21)) 0 [] .none .none .none .none none .none .none 0)) #[]
noncomputable def S6:O:=.mk .none none (Data.func (FuncData.mk (.ofString "put_behind") (.ofString "put_behind") (fA (tp 22)) (.stmts (fB (tp 22))) (fS (tp 22)) 0 [] .none .none .none .none none .none .none 0)) #[]
noncomputable def SJ:O:=.mk .none none (Data.func (FuncData.mk (.ofString "back") (.ofString "back") (fA (tp 23)) (.stmts (fB (tp 23))) (fS (tp 23)) 0 [] .none .none .none .none none .none .none 0)) #[]
noncomputable def SN:O:=.mk .none none (Data.func (FuncData.mk (.ofString "measure") (.ofString "measure") (fA (tp 25)) (.stmts (fB (tp 25))) (fS (tp 25)) 0 [] .none .none .none .none none .none .none 0)) #[]
noncomputable def RB:O:=.mk .none none (Data.func (FuncData.mk (.ofString "value") (.ofString "value") (fA (tp 26)) (.stmts (fB (tp 26))) (fS (tp 26)) 0 [] .none .none .none .none none .none .none 0)) #[]
noncomputable def tr0 (P : Params) : BT := Nd (boot_o_0 P) (Nd (boot_o_1 P) (Nd (boot_o_3 P) (Lf (boot_o_7 P)) (Lf tE)) (Nd (boot_o_5 P) (Lf (boot_o_9 P)) (Lf Og))) (Nd (boot_o_2 P) (Nd (boot_o_4 P) (Lf (boot_o_8 P)) (Lf Br)) (Nd (boot_o_6 P) (Lf (boot_o_10 P)) (Lf Oz)))
noncomputable def St0 (w : World) (os : OsState) : SharedT := ⟨tr0 w.params, 15, Life.mk [] [] [] 0 [] [] Bool.false #[] [] 0 Bool.false Bool.false Bool.false 0 [2000, 10, 10] Bool.false 0 Bool.true [] [] 0 Bool.false, Array.mk [], Drawn.mk 0 0 0 0, 187, os⟩
noncomputable def ps0 : Pos := ⟨0, 0, 0, 0⟩
noncomputable def tr8 (P : Params) : BT := Nd (boot_o_0 P) (Nd (boot_o_1 P) (Nd (AcY P) (Nd (boot_o_7 P) (Nd o15 (Nd tE (Nd o63 (Lf Pk) .nil) (Lf tE)) (Nd o47 (Lf o79) (Lf tE))) (Nd (o23 P) (Nd Uz (Nd U5 (Lf VR) .nil) (Lf Pb)) (Nd Br (Lf (T8 P)) (Lf (Xr P))))) (Nd tE (Nd Br (Nd tE (Nd CQ (Lf Br) .nil) (Lf o99)) (Nd Uv (Lf Vc) (Lf NT))) (Nd Tn (Nd (o43 P) (Nd o75 (Lf V9) .nil) (Lf tE)) (Nd o59 (Lf Uo) (Lf Vw))))) (Nd (boot_o_5 P) (Nd (boot_o_9 P) (Nd (TX P) (Nd Ud (Nd Uh (Lf Nk) .nil) (Lf o97)) (Nd (Vg P) (Lf (o81 P)) (Lf Vp))) (Nd o25 (Nd o41 (Nd tE (Lf Vv) .nil) (Lf CQ)) (Nd tE (Lf Ut) (Lf Ov)))) (Nd Og (Nd Uu (Nd o37 (Nd tE (Lf tE) .nil) (Lf Wu)) (Nd Ug (Lf o85) (Lf WT))) (Nd CQ (Nd UJ (Nd Uj (Lf Oh) .nil) (Lf Pu)) (Nd o61 (Lf Br) (Lf (Ph P))))))) (Nd (boot_o_2 P) (Nd (boot_o_4 P) (Nd (boot_o_8 P) (Nd CQ (Nd Uy (Nd Vf (Lf Qc) .nil) (Lf TQ)) (Nd CQ (Lf o80) (Lf Br))) (Nd Yd (Nd o40 (Nd T5 (Lf VB) .nil) (Lf Xf)) (Nd o56 (Lf tE) (Lf WQ)))) (Nd ZD (Nd T7 (Nd Br (Nd (Ul P) (Lf WL) .nil) (Lf (o100 P))) (Nd UW (Lf U7) (Lf Xb))) (Nd o28 (Nd o44 (Nd tE (Lf Py) .nil) (Lf OD)) (Nd o60 (Lf tE) (Lf CQ))))) (Nd (boot_o_6 P) (Nd (boot_o_10 P) (Nd tE (Nd U0 (Nd o66 (Lf tE) .nil) (Lf o98)) (Nd tE (Lf o82) (Lf tE))) (Nd TV (Nd o42 (Nd Br (Lf (WR P)) .nil) (Lf (NK P))) (Nd Uk (Lf Us) (Lf Qo)))) (Nd Oz (Nd tE (Nd tE (Nd Ve (Lf Pz) .nil) (Lf Oa)) (Nd tE (Lf CQ) (Lf V0))) (Nd (TJ P) (Nd Vb (Lf o78) (Lf Qi)) (Nd (o62 P) (Lf o94) (Lf tE))))))
noncomputable def St8 (w : World) (os : OsState) : SharedT := ⟨tr8 w.params, 142, Life.mk [] [] [] 0 [] [] Bool.false #[] [] 0 Bool.false Bool.false Bool.false 0 [2000, 10, 10] Bool.false 0 Bool.true [] [] 0 Bool.false, Array.mk [], Drawn.mk 0 0 0 0, 359, os⟩
noncomputable def ps8 : Pos := ⟨25, 0, 28, 24⟩
noncomputable def Aa8 (P : Params) : BT := Nd (boot_o_0 P) (Nd (boot_o_1 P) (Nd (Yj P) (Nd (boot_o_7 P) (Nd o15 (Nd tE (Nd o63 (Nd Pk (Lf tE) .nil) (Lf Q5)) (Nd tE (Nd Ro (Lf tE) .nil) (Lf tE))) (Nd o47 (Nd o79 (Nd CQ (Lf YL) .nil) (Lf tE)) (Nd tE (Lf (RV P)) (Lf YD)))) (Nd (o23 P) (Nd Uz (Nd U5 (Nd VR (Lf QX) .nil) (Lf tE)) (Nd Pb (Lf Zd) (Lf Br))) (Nd Br (Nd (T8 P) (Nd AaI (Lf Y4) .nil) (Lf Qt)) (Nd (Xr P) (Lf tE) (Lf tE))))) (Nd tE (Nd Br (Nd tE (Nd CQ (Nd Br (Lf tE) .nil) (Lf tE)) (Nd o99 (Nd Zw (Lf RB) .nil) (Lf Rg))) (Nd Uv (Nd Vc (Nd R0 (Lf ZS) .nil) (Lf tE)) (Nd NT (Lf QD) (Lf Yp)))) (Nd Tn (Nd (o43 P) (Nd o75 (Nd V9 (Lf Br) .nil) (Lf QV)) (Nd tE (Lf Tc) (Lf Z4))) (Nd o59 (Nd Uo (Nd CQ (Lf tE) .nil) (Lf (Aaa P))) (Nd Vw (Lf Z9) (Lf X5)))))) (Nd (boot_o_5 P) (Nd (boot_o_9 P) (Nd (TX P) (Nd Ud (Nd Uh (Nd Nk (Lf Aaf) .nil) (Lf CQ)) (Nd o97 (Nd tE (Lf Aac) .nil) (Lf Zo))) (Nd (Vg P) (Nd (o81 P) (Nd tE (Lf tE) .nil) (Lf QB)) (Nd Vp (Lf Ss) (Lf Rm)))) (Nd o25 (Nd o41 (Nd tE (Nd Vv (Lf X6) .nil) (Lf Aam)) (Nd CQ (Lf (Zz P)) (Lf tE))) (Nd tE (Nd Ut (Nd Rw (Lf Br) .nil) (Lf Aag)) (Nd Ov (Lf Y7) (Lf YB))))) (Nd Og (Nd Uu (Nd o37 (Nd tE (Nd tE (Lf ZR) .nil) (Lf SM)) (Nd Wu (Nd RM (Lf XQ) .nil) (Lf Yb))) (Nd Ug (Nd o85 (Nd tE (Lf SJ) .nil) (Lf ZL)) (Nd WT (Lf Br) (Lf Br)))) (Nd CQ (Nd UJ (Nd Uj (Nd Oh (Lf tE) .nil) (Lf CQ)) (Nd Pu (Lf YW) (Lf tE))) (Nd o61 (Nd Br (Nd tE (Lf XD) .nil) (Lf RK)) (Nd (Ph P) (Lf Aaj) (Lf Br))))))) (Nd (boot_o_2 P) (Nd (boot_o_4 P) (Nd (boot_o_8 P) (Nd CQ (Nd Uy (Nd Vf (Nd Qc (Lf Rk) .nil) (Lf Ze)) (Nd TQ (Nd Ti (Lf Br) .nil) (Lf Br))) (Nd CQ (Nd o80 (Nd (RX P) (Lf Aal) .nil) (Lf S8)) (Nd Br (Lf tE) (Lf tE)))) (Nd o24 (Nd o40 (Nd T5 (Nd VB (Lf Zy) .nil) (Lf (o200 P))) (Nd Xf (Lf Zh) (Lf ZM))) (Nd o56 (Nd tE (Nd RG (Lf tE) .nil) (Lf Z0)) (Nd WQ (Lf Sv) (Lf SX))))) (Nd Wj (Nd T7 (Nd Br (Nd (Ul P) (Nd WL (Lf Br) .nil) (Lf Br)) (Nd (o100 P) (Nd tE (Lf Zn) .nil) (Lf Yq))) (Nd UW (Nd U7 (Nd QZ (Lf tE) .nil) (Lf Br)) (Nd Xb (Lf tE) (Lf tE)))) (Nd o28 (Nd o44 (Nd tE (Nd Py (Lf AaA) .nil) (Lf Zk)) (Nd OD (Lf Qw) (Lf Xz))) (Nd o60 (Nd tE (Nd (Qu P) (Lf SN) .nil) (Lf Y6)) (Nd CQ (Lf (YS P)) (Lf tE)))))) (Nd (boot_o_6 P) (Nd (boot_o_10 P) (Nd tE (Nd U0 (Nd o66 (Nd tE (Lf AaU) .nil) (Lf (Rb P))) (Nd o98 (Nd Br (Lf tE) .nil) (Lf tE))) (Nd tE (Nd o82 (Nd Br (Lf Br) .nil) (Lf QW)) (Nd tE (Lf RP) (Lf Z8)))) (Nd TV (Nd o42 (Nd Br (Nd (WR P) (Lf tE) .nil) (Lf QG)) (Nd (NK P) (Lf Xv) (Lf R9))) (Nd Uk (Nd Us (Nd AaJ (Lf Yv) .nil) (Lf Z2)) (Nd Qo (Lf Zf) (Lf Yc))))) (Nd Oz (Nd tE (Nd tE (Nd Ve (Nd Pz (Lf tE) .nil) (Lf QJ)) (Nd Oa (Lf AaH) (Lf tE))) (Nd tE (Nd CQ (Nd (Ys P) (Lf Z6) .nil) (Lf tE)) (Nd V0 (Lf Aav) (Lf ZP)))) (Nd (TJ P) (Nd Vb (Nd o78 (Nd AaV (Lf S6) .nil) (Lf (Sy P))) (Nd Qi (Lf CQ) (Lf Br))) (Nd (o62 P) (Nd o94 (Nd S7 (Lf YH) .nil) (Lf Tf)) (Nd tE (Lf R8) (Lf YQ)))))))
noncomputable def YG (w : World) (os : OsState) : SharedT := ⟨Aa8 w.params, 294, Life.mk [] [] [] 0 [] [] Bool.false #[] [] 0 Bool.false Bool.false Bool.false 0 [2000, 10, 10] Bool.false 0 Bool.true [] [] 0 Bool.false, Array.mk [], Drawn.mk 0 0 0 0, 557, os⟩
noncomputable def Aas : Pos := ⟨86, 0, 89, 62⟩
end
noncomputable def vw : Program := { PySem.Challenge.pw_formcycle_k29_no_saddle with main := { PySem.Challenge.pw_formcycle_k29_no_saddle.main with body := [tp 1, tp 2, tp 3, tp 4, tp 5, tp 6, tp 7, tp 8, tp 9, tp 10, tp 11, tp 12, tp 14, tp 15, tp 16, tp 17, tp 19, tp 20, tp 21, tp 22, tp 23, tp 25, tp 26, tp 27, tp 28, tp 29, tp 30, tp 32, tp 33, tp 34, tp 35, tp 36, tp 37, tp 38, tp 39, tp 40, tp 41, tp 42, tp 43, tp 44, tp 45, tp 47, tp 48, tp 49, tp 50, tp 51, tp 52, tp 53, tp 54, tp 55, tp 56, tp 57, tp 58] } }
noncomputable def asK : List Nat := [2, 3, 15, 22, 23, 24, 25, 28, 35, 37, 38, 40, 41, 42, 43, 44, 47, 54, 56, 57, 59, 60, 61, 62, 63, 66, 73, 75, 76, 78, 79, 80, 81, 82, 85, 92, 94, 95, 97, 98, 99, 100, 101, 104, 111, 113, 114, 116, 117, 118, 119, 120, 123, 130, 132, 133, 135, 136, 137, 138, 139, 142, 149, 150, 151, 154, 161, 163, 164, 166, 167, 168, 169, 170, 173, 180, 182, 183, 185, 186, 187, 188, 189, 192, 199, 200, 201, 204, 211, 213, 214, 216, 217, 218, 219, 220, 223, 225, 226, 228, 229, 230, 232, 233, 235, 236, 237, 239, 240, 242, 243, 244, 246, 247, 249, 250, 251, 252, 254, 255, 257, 258, 259, 261, 262, 264, 265, 266, 268, 269, 271, 272, 273, 275, 276, 278, 279, 280, 282, 283, 285, 286, 287, 289, 290, 292, 293, 294, 296, 297, 299, 300, 301, 303, 304, 306, 307, 308, 310, 311, 313, 314, 315, 317, 318, 320, 321, 322, 324, 325, 327, 328, 329, 331, 332, 334, 335, 336, 338, 339, 341, 342, 343, 345, 346, 348, 349, 350, 352, 353, 355, 356, 357, 359, 360, 362, 363, 364, 366, 367, 369, 370, 371, 373, 374, 376, 377, 378, 381, 382, 383, 385, 386, 388, 389, 390, 392, 393, 395, 396, 397, 399, 400, 402, 403, 404, 406, 407, 409, 410, 411, 413, 414, 416, 417, 418, 420, 421, 423, 424, 425, 427, 428, 430, 431, 432, 434, 435, 437, 438, 439, 441, 442, 444, 445, 446, 448, 449, 451, 452, 453, 455, 456, 458, 459, 460, 462, 463, 465, 466, 467, 469, 470, 472, 473, 474, 476, 477, 479, 480, 481, 483, 484, 486, 487, 488, 490, 491, 493, 494]
noncomputable def bE : List Stmt := behindTheImports PySem.Challenge.rw_formcycle_k29_no_saddle.row.prog
noncomputable def ev : Env := { scope := PySem.Challenge.rw_formcycle_k29_no_saddle.row.prog.main.scope, locals := mainNs, globals := mainNs, cells := [], code := .ref 13, frame := some 14 }
noncomputable def cc : Code := .body bE ev
noncomputable def qq : Pos := .mk 0 0 0 0
noncomputable def pp : Pos := ⟨0, 0, 0, 0⟩
theorem Ym : ∀ w os, goT treeTable PySem.Challenge.rw_formcycle_k29_no_saddle.row.prog w 11 (some (.ref 6)) 12 (Ip w os) (topStub PySem.Challenge.rw_formcycle_k29_no_saddle.row.prog) = some (St0 w os, ⟨denote treeTable cc, cc, pp, [topFrame qq]⟩) := fun w os => by kernel_rfl
theorem Yh : ∀ w os, segRunT treeTable PySem.Challenge.rw_formcycle_k29_no_saddle.row.prog w 11 (some (.ref 6)) 1 1 (St0 w os) (blockOf bE ev cc pp [topFrame qq]) = some (.next, St0 w os, cc, ps0) := fun w os => by kernel_rfl
noncomputable def l8 : List Stmt := List.take 8 bE
noncomputable def r8 : List Stmt := List.drop 8 bE
theorem g_8 : ∀ w os, segRunT treeTable PySem.Challenge.rw_formcycle_k29_no_saddle.row.prog w 11 (some (.ref 6)) 1 1668 (St0 w os) (piecesOf l8 ev cc ps0 [topFrame qq]) = some (.next, St8 w os, cc, ps8) := fun w os => by kernel_rfl
noncomputable def l27 : List Stmt := List.take 19 r8
noncomputable def r27 : List Stmt := List.drop 19 r8
theorem Acy : ∀ w os, segRunT treeTable PySem.Challenge.rw_formcycle_k29_no_saddle.row.prog w 11 (some (.ref 6)) 1 1503 (St8 w os) (piecesOf l27 ev cc ps8 [topFrame qq]) = some (.next, YG w os, cc, Aas) := fun w os => by kernel_rfl
noncomputable def TL (w : World) (os : OsState) : Option SharedT := JQ treeTable PySem.Challenge.rw_formcycle_k29_no_saddle.row.prog w 11 (some (.ref 6)) 982 (YG w os) (restOf r27 ev cc Aas [topFrame qq])
theorem hr : ∀ w os r, TL w os = some r → topRun treeTable PySem.Challenge.rw_formcycle_k29_no_saddle.row.prog w (Ax w os).heap.objs.size ((Ax w os).heap.nsMap mainGlobals "__annotations__") 4166 (Ax w os) (topStub PySem.Challenge.rw_formcycle_k29_no_saddle.row.prog) = some r.abs := fun w os r h => by
  rw [show (Ax w os).heap.objs.size = 11 by kernel_rfl, show (Ax w os).heap.nsMap mainGlobals "__annotations__" = some (.ref 6) by kernel_rfl]
  have k := Ja _ h
  have k := piece_app (segRun_of (Acy w os)) k
  rw [show l27 ++ r27 = r8 from List.take_append_drop _ _] at k
  have k := piece_app (segRun_of (g_8 w os)) k
  rw [show l8 ++ r8 = bE from List.take_append_drop _ _] at k
  have k := piece_block (segRun_of (Yh w os)) k
  have k := go_top (Om _ (Ym w os)) k
  rw [boot_abs] at k
  exact k
noncomputable def sA0 (s : Shared) := PyProof.Rows.seen ((PyProof.Rows.recsOf vw).map (·.name)) (PyProof.Rows.ownsOf vw) [] { s with gens := #[] }
noncomputable def sA1 (s : Shared) := s.heap.bltView
noncomputable def sA2 (s : Shared) := s.heap.keysOk (looseW vw []) ((PyProof.Rows.recsOf vw).map (·.name)) ((PyProof.Rows.litsOf vw).map (·.1)) ((PyProof.Rows.clssOf vw (looseW vw [])).map (·.name)) && s.heap.accountedOkI (importedModules PySem.Challenge.rw_formcycle_k29_no_saddle.row.prog.main.body) && s.heap.isNs mainGlobals && s.heap.isNs builtinsNs && PyProof.Rows.tablesOk vw s.heap && (xlAt vw [] s && recOk (RowW.records PySem.Challenge.rw_formcycle_k29_no_saddle.row.toRowW) s) && (if true then s.gens.size == 0 else !leftWithCleanup s.gens)
noncomputable def sA3 (s : Shared) := PyProof.Rows.tabsOk vw s
noncomputable def sA4 (s : Shared) := pinSeenD vw (PyProof.Rows.drecsOf vw) s
noncomputable def sA5 (s : Shared) := PyProof.Rows.plainSeenE vw (looseW vw []) s
noncomputable def sA6 (s : Shared) := PyProof.Rows.plainSeenD vw [] s
noncomputable def sA7 (s : Shared) := wideSeen vw s
noncomputable def sA8 (s : Shared) := clsSeenW vw [] s
theorem hA : ∀ (w : World) (os : OsState), (TL w os).map (fun r => stays PySem.Challenge.rw_formcycle_k29_no_saddle.row.prog (Ax w os) r.abs) = some true := fun w os => by kernel_rfl
theorem hB0 : ∀ (w : World) (os : OsState), (TL w os).map (fun r => sA0 r.abs) = some (PyProof.Rows.expectedOf vw) := fun w os => by kernel_rfl
theorem hB1 : ∀ (w : World) (os : OsState), (TL w os).map (fun r => (sA1 r.abs, sA3 r.abs, sA4 r.abs, sA6 r.abs, sA8 r.abs)) = some (bltViewBooted, true, pinGoodD (PyProof.Rows.drecsOf vw), PyProof.Rows.plainGoodD vw [], clsGoodW vw []) := fun w os => by kernel_rfl
theorem hB2 : ∀ (w : World) (os : OsState), (TL w os).map (fun r => sA2 r.abs) = some true := fun w os => by kernel_rfl
theorem hB5 : ∀ (w : World) (os : OsState), (TL w os).map (fun r => sA5 r.abs) = some (PyProof.Rows.plainGoodE vw (looseW vw [])) := fun w os => by kernel_rfl
theorem hB7 : ∀ (w : World) (os : OsState), (TL w os).map (fun r => sA7 r.abs) = some (wideGood vw) := fun w os => by kernel_rfl
theorem nine {α0 α1 α2 α3 α4 α5 α6 α7 α8 : Type} {o : Option SharedT} {A0 : Shared → α0} {A1 : Shared → α1} {A2 : Shared → α2} {A3 : Shared → α3} {A4 : Shared → α4} {A5 : Shared → α5} {A6 : Shared → α6} {A7 : Shared → α7} {A8 : Shared → α8} {a0 : α0} {a1 : α1} {a2 : α2} {a3 : α3} {a4 : α4} {a5 : α5} {a6 : α6} {a7 : α7} {a8 : α8}
    (h0 : o.map (fun r => A0 r.abs) = some a0) (h1 : o.map (fun r => (A1 r.abs, A3 r.abs, A4 r.abs, A6 r.abs, A8 r.abs)) = some (a1, a3, a4, a6, a8)) (h2 : o.map (fun r => A2 r.abs) = some a2) (h5 : o.map (fun r => A5 r.abs) = some a5) (h7 : o.map (fun r => A7 r.abs) = some a7) :
    o.map (fun r => (A0 r.abs, A1 r.abs, A2 r.abs, A3 r.abs, A4 r.abs, A5 r.abs, A6 r.abs, A7 r.abs, A8 r.abs)) = some (a0, a1, a2, a3, a4, a5, a6, a7, a8) := by
  cases o with
  | none => cases h0
  | some r =>
    simp only [Option.map_some, Option.some.injEq, Prod.mk.injEq] at h0 h1 h2 h5 h7 ⊢
    exact ⟨h0, h1.1, h2, h1.2.1, h1.2.2.1, h5, h1.2.2.2.1, h7, h1.2.2.2.2⟩
theorem hB : ∀ (w : World) (os : OsState), (TL w os).map (fun r => openSeen vw [] (importedModules PySem.Challenge.rw_formcycle_k29_no_saddle.row.prog.main.body) (fun s => xlAt vw [] s && recOk (RowW.records PySem.Challenge.rw_formcycle_k29_no_saddle.row.toRowW) s) true r.abs) = some (openGood vw []) := fun w os => nine (A0 := sA0) (A1 := sA1) (A2 := sA2) (A3 := sA3) (A4 := sA4) (A5 := sA5) (A6 := sA6) (A7 := sA7) (A8 := sA8) (hB0 w os) (hB1 w os) (hB2 w os) (hB5 w os) (hB7 w os)
theorem hC : ∀ (w : World) (os : OsState), (TL w os).map (fun r => Hook.obs (kHook My.KK My.asK (fun _ => by kernel_rfl)) r.abs) = some (Hook.val (kHook My.KK My.asK (fun _ => by kernel_rfl)) w) := fun w os => by kernel_rfl
theorem hl : LeftO PySem.Challenge.rw_formcycle_k29_no_saddle.row.prog vw [] (fun s => xlAt vw [] s && recOk (RowW.records PySem.Challenge.rw_formcycle_k29_no_saddle.row.toRowW) s) (Hook.obs (kHook My.KK My.asK (fun _ => by kernel_rfl))) (Hook.val (kHook My.KK My.asK (fun _ => by kernel_rfl))) 4166 := fun w => N6 (TL := TL w) (by kernel_rfl) (by decide) (fun _ => by kernel_rfl) (hr w) (hA w) (hB w) (hC w) (fun os => by kernel_rfl)
end My
namespace L2
open PySem PySem.Spec PyProof.Rows
noncomputable abbrev Key := Sum Int Str
noncomputable def Uc : Key → Value → Bool
  | .inl k, v => Value.isInt k v
  | .inr x, v => Value.isStrOf x v
noncomputable def AbV (w : World) : Key → Int
  | .inl k => hashInt k
  | .inr x => hashStr w x
theorem BJ : ∀ {k : Key} {v : Value}, Uc k v = true → (∃ i t, k = Sum.inl i ∧ v = Value.int i t) ∨ (∃ x t, k = Sum.inr x ∧ v = Value.str x t)
  | .inl i, v, h => by
    obtain ⟨t, e⟩ := Value.isInt_shape (k := i) (v := v) h
    exact .inl ⟨i, t, rfl, e⟩
  | .inr x, v, h => by
    obtain ⟨t, e⟩ := Value.isStrOf_shape (x := x) (v := v) h
    exact .inr ⟨x, t, rfl, e⟩
theorem Wo (a b : Int) : decide ((Sum.inl a : Key) = Sum.inl b) = (a == b) := by
  by_cases e : a = b
  · subst e; simp
  · have h : ¬ (Sum.inl a : Key) = Sum.inl b := fun q => e (Sum.inl.inj q)
    rw [decide_eq_false h]
    exact (beq_eq_false_iff_ne.mpr e).symm
theorem Xj (a b : Str) : decide ((Sum.inr a : Key) = Sum.inr b) = decide (a = b) := by
  by_cases e : a = b
  · subst e; simp
  · have h : ¬ (Sum.inr a : Key) = Sum.inr b := fun q => e (Sum.inr.inj q)
    rw [decide_eq_false h, decide_eq_false e]
theorem Vx (a : Int) (b : Str) : decide ((Sum.inl a : Key) = Sum.inr b) = false := decide_eq_false (fun q => nomatch q)
theorem VF (a : Str) (b : Int) : decide ((Sum.inr a : Key) = Sum.inl b) = false := decide_eq_false (fun q => nomatch q)
noncomputable def Jw (prog : Program) (w : World) : PySem.KeyKind prog w Key where
  is := Uc
  hash := AbV w
  inj := fun v a b ha hb => by
    rcases BJ ha with ⟨i, t, rfl, rfl⟩ | ⟨x, t, rfl, rfl⟩
    · rcases BJ hb with ⟨j, u, rfl, e⟩ | ⟨y, u, rfl, e⟩
      · injection e with e1 _; rw [e1]
      · exact nomatch e
    · rcases BJ hb with ⟨j, u, rfl, e⟩ | ⟨y, u, rfl, e⟩
      · exact nomatch e
      · injection e with e1 _; rw [e1]
  byValue := fun k v h => by
    rcases BJ h with ⟨i, t, rfl, rfl⟩ | ⟨x, t, rfl, rfl⟩ <;> rfl
  pyHash := fun hv h => by
    rcases BJ hv with ⟨i, t, rfl, rfl⟩ | ⟨x, t, rfl, rfl⟩
    · exact wpAny_pyHash_int h
    · exact wpAny_pyHash_str h
  eqBool := fun hu hv h => by
    rcases BJ hu with ⟨i, t, rfl, rfl⟩ | ⟨x, t, rfl, rfl⟩
    · rcases BJ hv with ⟨j, u, rfl, rfl⟩ | ⟨y, u, rfl, rfl⟩
      · rw [Wo] at h; exact wpAny_eqBool_int h
      · rw [Vx] at h; exact SeqAt.EqAt.int_str i t y u _ _ _ _ h
    · rcases BJ hv with ⟨j, u, rfl, rfl⟩ | ⟨y, u, rfl, rfl⟩
      · rw [VF] at h; exact SeqAt.EqAt.str_int x t j u _ _ _ _ h
      · rw [Xj] at h; exact wpAny_eqBool_str h
  «strs» := fun k x t v h => by
    rcases BJ h with ⟨i, u, rfl, e⟩ | ⟨y, u, rfl, e⟩
    · exact nomatch e
    · injection e with e1 _
      subst e1
      cases v <;> rfl
end L2
namespace L2
open PySem PySem.Spec PyProof.Rows
inductive V where
  | non | bl (b : Bool) | int (i : Int) | str (x : Str) | byt (b : Array UInt8) | flt (b : UInt64) | ref (a : Addr) | ty (n : String)
  deriving DecidableEq
noncomputable def RelV : V → Value → Prop
  | .non, u => u = Value.none
  | .bl b, u => u = Value.bool b
  | .int i, u => ∃ t, u = Value.int i t
  | .str x, u => ∃ t, u = Value.str x t
  | .byt b, u => ∃ t, u = Value.bytes b t
  | .flt b, u => ∃ t, u = Value.float b t
  | .ref a, u => u = Value.ref a
  | .ty n, u => u = Value.type n
noncomputable abbrev Vals : List V → List Value → Prop := Paired RelV
theorem Vals.length {xs : List V} {us : List Value} (r : Vals xs us) : xs.length = us.length := Paired.length r
theorem Vals.get : ∀ {xs : List V} {us : List Value} {i : Nat} {x : V}, Vals xs us → xs[i]? = some x → ∃ u, us[i]? = some u ∧ RelV x u
  | _, _, _, _, .nil, e => by simp at e
  | _, _, 0, _, .cons r _, e => by simp at e; subst e; exact ⟨_, rfl, r⟩
  | _, _, i + 1, x, .cons _ t, e => by
    obtain ⟨u, h1, h2⟩ := Vals.get (i := i) (x := x) t (by simpa using e)
    exact ⟨u, by simpa using h1, h2⟩
theorem Vals.append : ∀ {xs ys : List V} {us ws : List Value}, Vals xs us → Vals ys ws → Vals (xs ++ ys) (us ++ ws)
  | _, _, _, _, .nil, s => s
  | _, _, _, _, .cons r t, s => .cons r (Vals.append t s)
theorem Vals.take : ∀ {xs : List V} {us : List Value} (n : Nat), Vals xs us → Vals (xs.take n) (us.take n)
  | _, _, 0, _ => .nil
  | _, _, _ + 1, .nil => .nil
  | _, _, n + 1, .cons r t => .cons r (Vals.take n t)
theorem Vals.drop : ∀ {xs : List V} {us : List Value} (n : Nat), Vals xs us → Vals (xs.drop n) (us.drop n)
  | _, _, 0, r => r
  | _, _, _ + 1, .nil => .nil
  | _, _, n + 1, .cons _ t => Vals.drop n t
noncomputable def J9 : Option V → Option Value → Prop
  | some v, some u => RelV v u
  | none, none => True
  | _, _ => False
noncomputable def KV {κ : Type} : List (κ × V) → List (κ × Value) → Prop := Paired fun (p : κ × V) (q : κ × Value) => p.1 = q.1 ∧ RelV p.2 q.2
noncomputable def kV : Key → V
  | .inl i => .int i
  | .inr x => .str x
inductive HO where
    | lst (xs : List V)
    | tup (xs : List V)
    | dK (kvs : List (Key × V)) | dT (kvs : List (List Key × V))
    | set (S : Int → Bool) (n : Nat)
    | ins (C dx : Addr) (fs : List (Str × V))
    | own (x : Addr)
    | xd (fs : List (Str × V))
    | met (f x : Addr)
    | rng (lo hi : Int)
    | frz (o : Obj) (u : HO)
    | tbl (ps : Array Value)
    | ext (φ : Heap → Prop)
noncomputable abbrev Hp := Addr → Option HO
noncomputable def upd (H : Hp) (a : Addr) (o : HO) : Hp := fun b => if b = a then some o else H b
theorem Am {H : Hp} {a : Addr} {o : HO} : upd H a o a = some o := by unfold upd; rw [if_pos rfl]
theorem Ag {H : Hp} {a b : Addr} {o : HO} (h : b ≠ a) : upd H a o b = H b := by unfold upd; rw [if_neg h]
theorem Ak {H : Hp} {a b : Addr} {o : HO} (h : H a = some o) (h' : H b = none) : a ≠ b := by
  intro e; subst e; rw [h] at h'; cases h'
section
variable (P : Program) (w : World)
noncomputable def Cz (H : Hp) (h : Heap) (a : Addr) : HO → Prop
  | .lst xs => xs.length ≤ sizeLine ∧ ∃ (its : List Value) (n : Nat), Vals xs its ∧ h.get? a = some { cls := .type "list", data := .seq its.toArray n }
  | .tup xs => xs.length ≤ sizeLine ∧ ∃ its : List Value, Vals xs its ∧ IsTup h a its.toArray
  | .dK kvs => kvs.length ≤ sizeLine ∧ (a == sysModules) = false ∧ ∃ vs, KV kvs vs ∧ h.DictOf (Jw P w) a vs
  | .dT kvs => kvs.length ≤ sizeLine ∧ (a == sysModules) = false ∧ ∃ xs : List (List Key × Addr × Value),
      Paired (fun (p : List Key × V) (q : List Key × Addr × Value) => p.1 = q.1 ∧ H q.2.1 = some (.tup (p.1.map kV)) ∧ RelV p.2 q.2.2) kvs xs ∧
      ∃ o es ep, h.get? a = some o ∧ o.ExactDict ∧ o.data = .dict es ep ∧ es.toList = xs.map (entryOfKey (tupleKind (Jw P w))) ∧ (xs.map (·.1)).Nodup
  | .set S n => h.SetOf (intKind P w) a S n
  | .ins C dx fs => H dx = some (.own a) ∧ fs.length ≤ 1000 ∧ dx ≠ a ∧ h.get? a = some (PySem.W.instObj C dx) ∧
      ∃ mA, h.Ns1 dx mA ∧ (∀ f, J9 (fs.lookup f) (mA f)) ∧ PySem.Within mA (fs.map (·.1))
  | .own _ => ∃ o, h.get? a = some o
  | .xd fs => ∃ mA, h.Ns1 a mA ∧ ∀ f, J9 (fs.lookup f) (mA f)
  | .rng lo hi => ∃ t u v, h.get? a = some { cls := .type "range", data := .fields #[.int lo t, .int hi u, .int 1 v] }
  | .frz o u => h.get? a = some o ∧ Cz H h a u
  | .tbl ps => h.get? a = some { cls := .none, data := .fields ps }
  | .met f x => h.get? a = some (PySem.W.methodObj (.ref f) (.ref x))
  | .ext φ => φ h ∧ (∃ o, h.get? a = some o) ∧ ∀ h1 h2 : Heap, φ h1 → (∀ o, h1.get? a = some o → h2.get? a = some o) → φ h2
noncomputable def HOk (H : Hp) (h : Heap) : Prop := ∀ a o, H a = some o → Cz P w H h a o
end
section
variable {P : Program} {w : World} {H H' : Hp} {h h' : Heap} {a : Addr} {o : HO}
theorem Cz.lt (x : Cz P w H h a o) : a < h.objs.size := by
  cases o with
  | lst xs => obtain ⟨_, _, _, _, e⟩ := x; exact Heap.lt_size e
  | tup xs => obtain ⟨_, _, _, p⟩ := x; exact p.lt
  | dK kvs => obtain ⟨_, _, _, _, o, _, _, e, _⟩ := x; exact Heap.lt_size e
  | dT kvs => obtain ⟨_, _, _, _, o, _, _, e, _⟩ := x; exact Heap.lt_size e
  | set S n => obtain ⟨o, _, _, _, e, _⟩ := x; exact Heap.lt_size e
  | ins C dx fs => obtain ⟨_, _, _, e, _⟩ := x; exact Heap.lt_size e
  | own y => obtain ⟨_, e⟩ := x; exact Heap.lt_size e
  | xd fs => obtain ⟨_, ⟨_, _, _, e, _⟩, _⟩ := x; exact Heap.lt_size e
  | rng lo hi => obtain ⟨_, _, _, e⟩ := x; exact Heap.lt_size e
  | frz ob u => obtain ⟨e, _⟩ := x; exact Heap.lt_size e
  | tbl ps => exact Heap.lt_size (show h.get? a = some _ from x)
  | met f y => exact Heap.lt_size (show h.get? a = some _ from x)
  | ext φ => obtain ⟨_, ⟨_, e⟩, _⟩ := x; exact Heap.lt_size e
theorem Paired.mapP {α β : Type} {F G : α → β → Prop} : ∀ {l₁ : List α} {l₂ : List β}, Paired F l₁ l₂ → (∀ a b, F a b → G a b) → Paired G l₁ l₂
  | _, _, .nil, _ => .nil
  | _, _, .cons r t, f => .cons (f _ _ r) (Paired.mapP t f)
theorem Cz.stay (x : Cz P w H h a o) (k : ∀ b u, (b = a ∨ H b = some (.own a)) → h.get? b = some u → h'.get? b = some u)
    (ho : ∀ b, H b = some (.own a) → H' b = some (.own a)) (ht : ∀ b xs, H b = some (.tup xs) → H' b = some (.tup xs)) : Cz P w H' h' a o := by
  induction o with
  | lst xs => obtain ⟨z, its, n, r, e⟩ := x; exact ⟨z, its, n, r, k _ _ (.inl rfl) e⟩
  | tup xs => obtain ⟨z, its, r, ob, e, c⟩ := x; exact ⟨z, its, r, ob, k _ _ (.inl rfl) e, c⟩
  | dK kvs => obtain ⟨z, y, vs, r, ob, es, ep, e, c⟩ := x; exact ⟨z, y, vs, r, ob, es, ep, k _ _ (.inl rfl) e, c⟩
  | dT kvs =>
    obtain ⟨z, y, xs, r, ob, es, ep, e, c⟩ := x
    exact ⟨z, y, xs, Paired.mapP r fun p q z => ⟨z.1, ht _ _ z.2.1, z.2.2⟩, ob, es, ep, k _ _ (.inl rfl) e, c⟩
  | set S n => obtain ⟨ob, es, ep, t, e, c⟩ := x; exact ⟨ob, es, ep, t, k _ _ (.inl rfl) e, c⟩
  | ins C dx fs =>
    obtain ⟨d, z, ne, e, mA, ⟨od, es, ep, e2, c⟩, r⟩ := x
    exact ⟨ho _ d, z, ne, k _ _ (.inl rfl) e, mA, ⟨od, es, ep, k _ _ (.inr d) e2, c⟩, r⟩
  | own y => obtain ⟨ob, e⟩ := x; exact ⟨ob, k _ _ (.inl rfl) e⟩
  | xd fs => obtain ⟨mA, ⟨od, es, ep, e, c⟩, r⟩ := x; exact ⟨mA, ⟨od, es, ep, k _ _ (.inl rfl) e, c⟩, r⟩
  | rng lo hi => obtain ⟨t, u, v, e⟩ := x; exact ⟨t, u, v, k _ _ (.inl rfl) e⟩
  | frz ob u ih => obtain ⟨e, q⟩ := x; exact ⟨k _ _ (.inl rfl) e, ih q⟩
  | tbl ps =>
    have e : h.get? a = some { cls := .none, data := .fields ps } := x
    show h'.get? a = some { cls := .none, data := .fields ps }
    exact k a _ (.inl rfl) e
  | met f y =>
    have e : h.get? a = some (PySem.W.methodObj (.ref f) (.ref y)) := x
    show h'.get? a = some (PySem.W.methodObj (.ref f) (.ref y))
    exact k a _ (.inl rfl) e
  | ext φ => obtain ⟨p, ⟨o, e⟩, st⟩ := x; exact ⟨st _ _ p fun o q => k _ _ (.inl rfl) q, ⟨o, k _ _ (.inl rfl) e⟩, st⟩
theorem HOk.lt (x : HOk P w H h) (e : H a = some o) : a < h.objs.size := (x a o e).lt
theorem HOk.fresh (x : HOk P w H h) (e : h.objs.size ≤ a) : H a = none := by
  cases q : H a with
  | none => rfl
  | some u => exact absurd (Nat.lt_of_lt_of_le (x.lt q) e) (Nat.lt_irrefl _)
theorem HOk.kept (x : HOk P w H h) (k : ∀ b u, h.get? b = some u → h'.get? b = some u) : HOk P w H h' := fun a o e =>
  (x a o e).stay (fun b u _ q => k b u q) (fun _ q => q) fun _ _ q => q
theorem HOk.laid (x : HOk P w H h) (k : ∀ b u, h.get? b = some u → h'.get? b = some u) (hp : h.objs.size ≤ a) (new : Cz P w (upd H a o) h' a o) : HOk P w (upd H a o) h' := fun b u e => by
  have hn := x.fresh hp
  by_cases hb : b = a
  · subst hb; rw [Am] at e; cases e; exact new
  · rw [Ag hb] at e
    exact (x b u e).stay (fun c v _ q => k c v q) (fun c q => by rw [Ag (Ak q hn)]; exact q) fun c xs q => by rw [Ag (Ak q hn)]; exact q
end
noncomputable def Rd (H : Hp) (a : Addr) (u : HO) : Prop := H a = some u ∨ ∃ o, H a = some (.frz o u)
theorem Rd.ok {P : Program} {w : World} {H : Hp} {h : Heap} {a : Addr} {u : HO} (r : Rd H a u) (x : HOk P w H h) : Cz P w H h a u := by
  rcases r with r | ⟨o, r⟩
  · exact x a u r
  · obtain ⟨_, q⟩ := x a _ r
    exact q
noncomputable def Mut : Option HO → Prop
  | some (.lst _) => True
  | some (.dK _) => True
  | some (.dT _) => True
  | some (.set _ _) => True
  | some (.ins _ _ _) => True
  | some (.ext _) => True
  | _ => False
section
variable {P : Program} {w : World} {H : Hp} {h h' : Heap} {x e : Addr} {o' : HO}
theorem HOk.write (ok : HOk P w H h) (mu : Mut (H x)) (he : e = x ∨ H e = some (.own x)) (k : ∀ b u, b ≠ e → h.get? b = some u → h'.get? b = some u) (heo : ∃ u, h'.get? e = some u)
    (new : Cz P w (upd H x o') h' x o') : HOk P w (upd H x o') h' := fun b u q => by
  have nown : ∀ c y, H c = some (.own y) → c ≠ x := fun c y r z => by subst z; rw [r] at mu; exact mu
  have ntup : ∀ c xs, H c = some (.tup xs) → c ≠ x := fun c xs r z => by subst z; rw [r] at mu; exact mu
  by_cases hb : b = x
  · subst hb; rw [Am] at q; cases q; exact new
  · rw [Ag hb] at q
    by_cases hbe : b = e
    · have q' : H b = some (.own x) := by
        rcases he with z | z
        · exact absurd (hbe.trans z) hb
        · rw [hbe]; exact z
      rw [q] at q'; cases q'
      obtain ⟨v, hv⟩ := heo
      exact ⟨v, by rw [hbe]; exact hv⟩
    · refine (ok b u q).stay (fun c v hc r => k c v ?_ r) (fun c r => by rw [Ag (nown c b r)]; exact r) fun c xs r => by rw [Ag (ntup c xs r)]; exact r
      rcases hc with rfl | hc
      · exact hbe
      · rintro rfl
        rcases he with z | z
        · exact nown c b hc z
        · rw [hc] at z; cases z; exact hb rfl
end
structure Un (fs ex : List Addr) (H H' : Hp) (h h' : Heap) : Prop where
  keep : ∀ b o, h.get? b = some o → H b = none → b ∉ fs → b ∉ ex → h'.get? b = some o
  slot : ∀ b o, h.get? b = some o → H b = none → b ∈ fs → b ∉ ex → ∃ sl, h'.get? b = some { o with slots := sl }
  free : ∀ b o, h.get? b = some o → H b = none → b ∉ ex → H' b = none
  there : ∀ b o, h.get? b = some o → b ∉ ex → ∃ o', h'.get? b = some o'
  tups : ∀ b xs, H b = some (.tup xs) → H' b = some (.tup xs)
  frzs : ∀ b o u, H b = some (.frz o u) → H' b = some (.frz o u)
  tbls : ∀ b ps, H b = some (.tbl ps) → ∃ more, H' b = some (.tbl (ps ++ more))
section
variable {fs fs' ex ex' : List Addr} {H H1 H2 : Hp} {h h1 h2 h' : Heap} {a x e : Addr} {o : HO}
theorem Un.any (u : Un fs ex H H1 h h1) {b : Addr} {ob : Obj} (q : h.get? b = some ob) (n : H b = none) (hx : b ∉ ex) : ∃ sl, h1.get? b = some { ob with slots := sl } := by
  by_cases hb : b ∈ fs
  · exact u.slot b ob q n hb hx
  · exact ⟨ob.slots, u.keep b ob q n hb hx⟩
theorem Un.kept (k : ∀ b u, h.get? b = some u → h'.get? b = some u) : Un fs ex H H h h' :=
  ⟨fun b ob q _ _ _ => k b ob q, fun b ob q _ _ _ => ⟨ob.slots, k b ob q⟩, fun _ _ _ n _ => n, fun b ob q _ => ⟨ob, k b ob q⟩, fun _ _ q => q, fun _ _ _ q => q, fun _ ps q => ⟨#[], by rw [q]; simp⟩⟩
theorem Un.refl : Un fs ex H H h h := Un.kept fun _ _ q => q
theorem Un.laid (k : ∀ b u, h.get? b = some u → h'.get? b = some u) (hp : h.objs.size ≤ a) (hn : H a = none) : Un fs ex H (upd H a o) h h' where
  keep := fun b u q _ _ _ => k b u q
  slot := fun b u q _ _ _ => ⟨u.slots, k b u q⟩
  free := fun b u q n _ => by rw [Ag (Nat.ne_of_lt (Nat.lt_of_lt_of_le (Heap.lt_size q) hp))]; exact n
  there := fun b u q _ => ⟨u, k b u q⟩
  tups := fun b xs q => by rw [Ag (Ak q hn)]; exact q
  frzs := fun b u xs q => by rw [Ag (Ak q hn)]; exact q
  tbls := fun b ps q => ⟨#[], by rw [Ag (Ak q hn), q]; simp⟩
theorem Un.write (mu : Mut (H x)) (he : e = x ∨ H e = some (.own x)) (k : ∀ b u, b ≠ e → h.get? b = some u → h'.get? b = some u) (heo : ∃ u, h'.get? e = some u) : Un fs ex H (upd H x o) h h' := by
  have hx : ∀ b, H b = none → b ≠ x := fun b n z => by subst z; rw [n] at mu; exact mu
  have hb : ∀ b, H b = none → b ≠ e := fun b n z => by
    subst z
    rcases he with r | r
    · exact hx b n r
    · rw [n] at r; cases r
  have hm : ∀ b u, H b = some u → ¬ Mut (some u) → b ≠ x := fun b u q nm z => by subst z; rw [q] at mu; exact nm mu
  refine ⟨fun b u q n _ _ => k b u (hb b n) q, fun b u q n _ _ => ⟨u.slots, k b u (hb b n) q⟩, fun b u q n _ => by rw [Ag (hx b n)]; exact n, fun b u q _ => ?_,
    fun b xs q => by rw [Ag (hm b _ q fun z => z)]; exact q, fun b u xs q => by rw [Ag (hm b _ q fun z => z)]; exact q, fun b ps q => ⟨#[], by rw [Ag (hm b _ q fun z => z), q]; simp⟩⟩
  by_cases hbe : b = e
  · subst hbe; exact heo
  · exact ⟨u, k b u hbe q⟩
end
noncomputable def trk (h : Heap) (H : Hp) : List Addr := (List.range h.objs.size).filter fun a => (H a).isSome
noncomputable def Jt (h : Heap) (H : Hp) : Heap := PySem.W.hideAll h (trk h H)
theorem Ml (h : Heap) (H : Hp) : (Jt h H).objs.size = h.objs.size := PySem.W.hideAll_size _ _
theorem Nv {h : Heap} {H : Hp} {b : Addr} {o : Obj} (e : h.get? b = some o) (n : H b = none) : (Jt h H).get? b = some o :=
  PySem.W.hideAll_get _ e fun hm => by
    have q : (H b).isSome = true := (List.mem_filter.mp hm).2
    rw [n] at q; simp at q
theorem Sh {h : Heap} {H : Hp} {b : Addr} {o : Obj} (e : (Jt h H).get? b = some o) : h.get? b = some o ∧ H b = none := by
  have e' : h.get? b = some o := PySem.W.of_hideAll (trk h H) e
  refine ⟨e', ?_⟩
  cases q : H b with
  | none => rfl
  | some x =>
    have hm : b ∈ trk h H := List.mem_filter.mpr ⟨List.mem_range.mpr (Heap.lt_size e'), by simp [q]⟩
    have z : (Jt h H).get? b = none := PySem.W.hideAll_none (trk h H) hm
    rw [z] at e; cases e
noncomputable def R7 (g h : Heap) (L : Addr) : List (Addr × Obj) := (List.range h.objs.size).filterMap fun a => if a = L ∨ (g.get? a).isSome = true then none else (h.get? a).map fun o => (a, o)
noncomputable def rest (g h : Heap) (L d : Addr) : List (Addr × Obj) := (R7 g h L).filter fun p => decide (p.1 ≠ d)
end L2
namespace L2
open PySem PySem.Spec PyProof.Rows
structure Mod (K : PySem.W.Frag) (mg : Str → Option Value) (base : Heap) : Prop where
  kin : K.In base
  glob : base.Ns mainGlobals mg
  blt : ∃ mb, base.Ns builtinsNs mb ∧ ∀ x : Str, x ≠ "__name__" → mb x = bootBuiltins x
  nolimit : base.NoLimit
structure Cx where
  prog : Program
  w : World
  K : PySem.W.Frag
  mg : Str → Option Value
  base : Heap
  A : Around
  N : List Str
  s₀ : Shared
  H₀ : Hp
  env : Env
  outer : List Env
  stack : List Env
  ex : List Addr
  fn : Str → Bool
  calm : Bool
  pn : List (Addr × Obj)
  xe : Value → Shared → Prop
noncomputable def frs (l : List Env) : List Addr := l.filterMap (·.frame)
noncomputable abbrev Cx.fs (X : Cx) : List Addr := frs X.outer
noncomputable def Vis (sc : Scope) (x : Str) : Prop := sc.names.lookup x = some .local ∨ sc.names.lookup x = some .cell ∨ sc.names.lookup x = some .free
noncomputable def Loc (sc : Scope) (x : Str) : Prop := sc.names.lookup x = some .local ∨ sc.names.lookup x = some .cell
noncomputable def Look (env : Env) (h : Heap) (m : Str → Option Value) (x : Str) (u : Value) : Prop :=
  (env.kindOf x = some .local ∧ m x = some u) ∨ ((env.kindOf x = some .cell ∨ env.kindOf x = some .free) ∧ ∃ c, env.cells.lookup x = some c ∧ h.IsCell c (some u))
structure Cx.Ok (X : Cx) : Prop where
  mod : Mod X.K X.mg X.base
  kind : X.env.scope.kind = .function
  glob : X.env.globals = mainGlobals
  blt : X.env.builtins = builtinsNs
  above : X.s₀.heap.objs.size ≤ X.env.locals
  inj : ∀ x y c, X.env.cells.lookup x = some c → X.env.cells.lookup y = some c → x = y
  has : ∀ x, (X.env.kindOf x = some .cell ∨ X.env.kindOf x = some .free) → ∃ c, X.env.cells.lookup x = some c
  cab : ∀ x c, X.fn x = true → X.env.cells.lookup x = some c → X.s₀.heap.objs.size ≤ c
  hd : X.calm = true → X.A.handled = none
  frames : X.A.frames = some X.stack
  stk : X.stack = X.outer ∨ (X.stack = X.env :: X.outer ∧ X.env.frame = some X.env.locals)
  exf : ∀ b ∈ X.ex, b ≠ X.env.locals ∧ ∀ x c, X.env.cells.lookup x = some c → c ≠ b
  bs : ∀ b o, X.base.get? b = some o → X.s₀.heap.get? b = some o ∧ X.H₀ b = none
  bsz : X.base.objs.size ≤ X.s₀.heap.objs.size
  noex : ∀ b o, X.base.get? b = some o → b ∉ X.ex
  exfs : ∀ b ∈ X.ex, b ∉ X.fs
  funs : X.s₀.heap.FunFrames X.base X.outer
  frf : ∀ b ∈ X.fs, X.H₀ b = none
structure Inv (X : Cx) (pins : List (Addr × Obj)) (σ : List (Option V)) (H : Hp) (s : Shared) : Prop where
  ok : X.Ok
  os : s.os = X.s₀.os
  bare : AllBare s.gens
  base : Un X.fs X.ex X.H₀ H X.s₀.heap s.heap
  loc : ∃ m, s.heap.Ns X.env.locals m ∧ ∀ (i : Nat) (x : Str) (v : V), X.N[i]? = some x → σ[i]? = some (some v) → Vis X.env.scope x → ∃ u, RelV v u ∧ Look X.env s.heap m x u
  cell : ∀ x c, X.env.cells.lookup x = some c → ∃ v, s.heap.IsCell c v
  free : H X.env.locals = none
  freeC : ∀ x c, X.env.cells.lookup x = some c → H c = none
  pin : ∀ p ∈ X.pn ++ pins, s.heap.get? p.1 = some p.2 ∧ H p.1 = none ∧ p.1 ≠ X.env.locals ∧ p.1 ∉ X.fs ∧ ∀ v, p.2.data ≠ .cell v
  hok : HOk X.prog X.w H s.heap
  len : σ.length = X.N.length
section
variable {X : Cx} {pins : List (Addr × Obj)} {σ : List (Option V)} {H H' : Hp} {s : Shared} {h' : Heap}
theorem Cx.Ok.nofr (ok : X.Ok) {b : Addr} {o : Obj} (e : X.base.get? b = some o) : b ∉ X.fs := fun hb => by
  have := (ok.funs.mem hb).1
  rw [e] at this; cases this
theorem Inv.bs (I : Inv X pins σ H s) : ∀ b o, X.base.get? b = some o → s.heap.get? b = some o ∧ H b = none := fun b o e =>
  ⟨I.base.keep b o (I.ok.bs b o e).1 (I.ok.bs b o e).2 (I.ok.nofr e) (I.ok.noex b o e), I.base.free b o (I.ok.bs b o e).1 (I.ok.bs b o e).2 (I.ok.noex b o e)⟩
theorem Inv.bk (I : Inv X pins σ H s) : ∀ b o, X.base.get? b = some o → s.heap.get? b = some o := fun b o e => (I.bs b o e).1
theorem Inv.mod (I : Inv X pins σ H s) : Mod X.K X.mg X.base := I.ok.mod
theorem Inv.kIn (I : Inv X pins σ H s) : X.K.In s.heap := I.ok.mod.kin.keeps I.bk
theorem Inv.lt (I : Inv X pins σ H s) : X.env.locals < s.heap.objs.size := let ⟨_, hn, _⟩ := I.loc; hn.lt
theorem Inv.sz (I : Inv X pins σ H s) : X.s₀.heap.objs.size ≤ s.heap.objs.size := Nat.le_trans I.ok.above (Nat.le_of_lt I.lt)
theorem Inv.nofs (I : Inv X pins σ H s) {a : Addr} (h : s.heap.objs.size ≤ a) : a ∉ X.fs := fun hb => by
  obtain ⟨_, o, ho, _⟩ := I.ok.funs.mem hb
  exact absurd (Nat.lt_of_lt_of_le (Heap.lt_size ho) (Nat.le_trans I.sz h)) (Nat.lt_irrefl _)
theorem Inv.cne (I : Inv X pins σ H s) : ∀ x c, X.env.cells.lookup x = some c → c ≠ X.env.locals := fun x c e z => by
  obtain ⟨v, o, ho, hd⟩ := I.cell x c e
  obtain ⟨m, ⟨o', es, ep, ho', hd', _⟩, _⟩ := I.loc
  rw [z, ho'] at ho; cases ho; rw [hd'] at hd; cases hd
theorem Inv.funs (I : Inv X pins σ H s) : s.heap.FunFrames X.base X.outer := by
  have all : ∀ (l : List Env), (∀ b ∈ frs l, b ∈ X.fs) → X.s₀.heap.FunFrames X.base l → s.heap.FunFrames X.base l := by
    intro l
    induction l with
    | nil => intro _ _; trivial
    | cons env r ih =>
      intro hs hl
      obtain ⟨hk, ⟨L, o, hf, hn, ho, hd⟩, hr⟩ := hl
      have hL : L ∈ X.fs := hs L (by unfold frs; rw [List.filterMap_cons, hf]; exact List.mem_cons_self)
      obtain ⟨sl, e⟩ := I.base.slot L o ho (I.ok.frf L hL) hL fun z => I.ok.exfs L z hL
      exact ⟨hk, ⟨L, _, hf, hn, e, hd⟩, ih (fun b hb => hs b (by unfold frs; rw [List.filterMap_cons, hf]; exact List.mem_cons_of_mem _ hb)) hr⟩
  exact all X.outer (fun _ hb => hb) I.ok.funs
theorem Inv.stack (I : Inv X pins σ H s) : s.heap.FunFrames X.base X.stack := by
  rcases I.ok.stk with e | ⟨e, hf⟩
  · rw [e]; exact I.funs
  · rw [e]
    obtain ⟨m, hn, _⟩ := I.loc
    refine .cons (by rw [I.ok.kind]; decide) hf hn ?_ I.funs
    exact Heap.get?_none_of_le (Nat.le_trans I.ok.bsz I.ok.above)
theorem Inv.stkSub (I : Inv X pins σ H s) : ∀ b ∈ frs X.stack, b ∈ X.env.locals :: X.fs := fun b hb => by
  rcases I.ok.stk with e | ⟨e, hf⟩
  · rw [e] at hb; exact List.mem_cons_of_mem _ hb
  · rw [e] at hb
    unfold frs at hb
    rw [List.filterMap_cons, hf] at hb
    exact hb
theorem Inv.stkFree (I : Inv X pins σ H s) : ∀ b ∈ frs X.stack, H b = none := fun b hb => by
  rcases List.mem_cons.mp (I.stkSub b hb) with e | hb
  · rw [e]; exact I.free
  · obtain ⟨_, o, ho, _⟩ := I.ok.funs.mem hb
    exact I.base.free b o ho (I.ok.frf b hb) fun z => I.ok.exfs b z hb
theorem Inv.step {g' : Array GenState} {t' : Nat} {d' : Drawn} {ch : List Addr} (I : Inv X pins σ H s)
    (hch : ∀ b ∈ ch, (b ∈ X.ex ∨ X.s₀.heap.objs.size ≤ b) ∧ b ≠ X.env.locals ∧ (∀ x c, X.env.cells.lookup x = some c → c ≠ b) ∧ ∀ p ∈ X.pn ++ pins, p.1 ≠ b)
    (keep : ∀ b o, b ≠ X.env.locals → b ∉ X.fs → b ∉ ch → s.heap.get? b = some o → H b = none → h'.get? b = some o)
    (slot : ∀ b o, b ≠ X.env.locals → b ∈ X.fs → b ∉ ch → s.heap.get? b = some o → H b = none → ∃ sl, h'.get? b = some { o with slots := sl }) (free : ∀ b o, b ∉ ch → s.heap.get? b = some o → H b = none → H' b = none)
    (there : ∀ b o, b ∉ ch → s.heap.get? b = some o → ∃ o', h'.get? b = some o')
    (tups : ∀ b xs, H b = some (.tup xs) → H' b = some (.tup xs)) (frzs : ∀ b o u, H b = some (.frz o u) → H' b = some (.frz o u)) (tbls : ∀ b ps, H b = some (.tbl ps) → ∃ more, H' b = some (.tbl (ps ++ more)))
    (ns : ∀ m, s.heap.Ns X.env.locals m → h'.Ns X.env.locals m) (hok : HOk X.prog X.w H' h') (hg : AllBare g') :
    Inv X pins σ H' { s with heap := h', gens := g', drawn := d', toks := t' } := by
  have neL : ∀ b o, X.s₀.heap.get? b = some o → b ≠ X.env.locals := fun b o e => Nat.ne_of_lt (Nat.lt_of_lt_of_le (Heap.lt_size e) I.ok.above)
  have neC : ∀ b o, X.s₀.heap.get? b = some o → b ∉ X.ex → b ∉ ch := fun b o e hx hb => by
    rcases (hch b hb).1 with z | z
    · exact hx z
    · exact absurd (Nat.lt_of_lt_of_le (Heap.lt_size e) z) (Nat.lt_irrefl _)
  have cellK : ∀ x c, X.env.cells.lookup x = some c → ∀ v, s.heap.IsCell c v → h'.IsCell c v := fun x c e v ⟨o, ho, hd⟩ => by
    have nch : c ∉ ch := fun z => (hch c z).2.2.1 x c e rfl
    by_cases hc : c ∈ X.fs
    · obtain ⟨sl, q⟩ := slot c o (I.cne x c e) hc nch ho (I.freeC x c e)
      exact ⟨_, q, hd⟩
    · exact ⟨o, keep c o (I.cne x c e) hc nch ho (I.freeC x c e), hd⟩
  refine ⟨I.ok, I.os, hg, ⟨fun b o e n hb hx => ?_, fun b o e n hb hx => ?_, fun b o e n hx => ?_, fun b o e hx => ?_, fun b xs e => tups b xs (I.base.tups b xs e), fun b o xs e => frzs b o xs (I.base.frzs b o xs e), fun b ps e => ?_⟩, ?_, fun x c e => ?_, ?_, fun x c e => ?_, fun p hp => ?_, hok, I.len⟩
  · exact keep b o (neL b o e) hb (neC b o e hx) (I.base.keep b o e n hb hx) (I.base.free b o e n hx)
  · obtain ⟨sl, e1⟩ := I.base.slot b o e n hb hx
    obtain ⟨sl', e2⟩ := slot b _ (neL b o e) hb (neC b o e hx) e1 (I.base.free b o e n hx)
    exact ⟨sl', e2⟩
  · obtain ⟨o', e1⟩ := I.base.there b o e hx
    exact free b o' (neC b o e hx) e1 (I.base.free b o e n hx)
  · obtain ⟨o', e1⟩ := I.base.there b o e hx
    exact there b o' (neC b o e hx) e1
  · obtain ⟨m1, e1⟩ := I.base.tbls b ps e
    obtain ⟨m2, e2⟩ := tbls b _ e1
    exact ⟨m1 ++ m2, by rw [e2, Array.append_assoc]⟩
  · obtain ⟨m, hn, hl⟩ := I.loc
    refine ⟨m, ns m hn, fun i x v e1 e2 e3 => ?_⟩
    obtain ⟨u, r, l⟩ := hl i x v e1 e2 e3
    refine ⟨u, r, ?_⟩
    rcases l with l | ⟨k, c, e, z⟩
    · exact .inl l
    · exact .inr ⟨k, c, e, cellK x c e _ z⟩
  · obtain ⟨v, z⟩ := I.cell x c e
    exact ⟨v, cellK x c e v z⟩
  · obtain ⟨m, ⟨o, _, _, ho, _⟩, _⟩ := I.loc
    exact free _ o (fun z => (hch _ z).2.1 rfl) ho I.free
  · obtain ⟨v, o, ho, hd⟩ := I.cell x c e
    exact free c o (fun z => (hch c z).2.2.1 x c e rfl) ho (I.freeC x c e)
  · obtain ⟨e, n, ne, nf, d⟩ := I.pin p hp
    have nch : p.1 ∉ ch := fun z => (hch p.1 z).2.2.2 p hp rfl
    exact ⟨keep p.1 p.2 ne nf nch e n, free p.1 p.2 nch e n, ne, nf, d⟩
theorem Inv.un {t' : Nat} (I : Inv X pins σ H s) (u : Un X.fs [] H H' s.heap h') (hok : HOk X.prog X.w H' h') : Inv X pins σ H' { s with heap := h', toks := t' } := by
  obtain ⟨m, ⟨o, es, ep, ho, r⟩, _⟩ := id I.loc
  obtain ⟨sl, hL⟩ := u.any ho I.free (by simp)
  exact I.step (g' := s.gens) (d' := s.drawn) (ch := []) (fun _ z => nomatch z) (fun b o _ hb _ e n => u.keep b o e n hb (by simp)) (fun b o _ hb _ e n => u.slot b o e n hb (by simp)) (fun b o _ e n => u.free b o e n (by simp)) (fun b o _ e => u.there b o e (by simp)) u.tups u.frzs u.tbls (fun m' hm => by
    obtain ⟨o', es', ep', ho', r'⟩ := hm
    rw [ho] at ho'; cases ho'
    exact ⟨_, es', ep', hL, r'⟩) hok I.bare
theorem Inv.call {g' : Array GenState} {t' : Nat} {d' : Drawn} {ch : List Addr} (I : Inv X pins σ H s) (u : Un (frs X.stack) ch H H' s.heap h') (hok : HOk X.prog X.w H' h') (hg : AllBare g')
    (hch : ∀ b ∈ ch, (b ∈ X.ex ∨ X.s₀.heap.objs.size ≤ b) ∧ b ≠ X.env.locals ∧ (∀ x c, X.env.cells.lookup x = some c → c ≠ b) ∧ ∀ p ∈ X.pn ++ pins, p.1 ≠ b) :
    Inv X pins σ H' { s with heap := h', gens := g', drawn := d', toks := t' } := by
  obtain ⟨m, ⟨o, es, ep, ho, r⟩, _⟩ := id I.loc
  obtain ⟨sl, hL⟩ := u.any ho I.free fun z => (hch _ z).2.1 rfl
  exact I.step (ch := ch) hch (fun b o hL hb hc e n => u.keep b o e n (fun z => (List.mem_cons.mp (I.stkSub b z)).elim hL hb) hc) (fun b o _ _ hc e n => u.any e n hc) (fun b o hc e n => u.free b o e n hc) (fun b o hc e => u.there b o e hc) u.tups u.frzs u.tbls (fun m' hm => by
    obtain ⟨o', es', ep', ho', r'⟩ := hm
    rw [ho] at ho'; cases ho'
    exact ⟨_, es', ep', hL, r'⟩) hok hg
theorem Inv.turned {t' : Nat} {it : Addr} (I : Inv X pins σ H s) (k : ∀ b o, b ≠ it → s.heap.get? b = some o → h'.get? b = some o) (hn : H it = none) (hL : it ≠ X.env.locals)
    (h1 : it ∈ X.ex ∨ X.s₀.heap.objs.size ≤ it) (h2 : ∀ x c, X.env.cells.lookup x = some c → c ≠ it) (h3 : ∀ p ∈ X.pn ++ pins, p.1 ≠ it) : Inv X pins σ H { s with heap := h', toks := t' } := by
  have nit : ∀ b u, H b = some u → b ≠ it := fun b u e z => by rw [z, hn] at e; cases e
  refine I.step (g' := s.gens) (d' := s.drawn) (ch := [it]) (fun b hb => ?_) (fun b o _ _ hc e _ => k b o (fun z => hc (by simp [z])) e) (fun b o _ _ hc e _ => ⟨o.slots, k b o (fun z => hc (by simp [z])) e⟩) (fun _ _ _ _ n => n)
    (fun b o hc e => ⟨o, k b o (fun z => hc (by simp [z])) e⟩) (fun _ _ e => e) (fun _ _ _ e => e) (fun b ps e => ⟨#[], by rw [e]; simp⟩) (fun m hm => ?_) (fun b u e => ?_) I.bare
  · have e : b = it := by simpa using hb
    subst e
    exact ⟨h1, hL, h2, h3⟩
  · obtain ⟨o, es, ep, ho, r⟩ := hm
    exact ⟨o, es, ep, k _ o (Ne.symm hL) ho, r⟩
  · refine (I.hok b u e).stay (fun c v hc q => k c v ?_ q) (fun _ q => q) fun _ _ q => q
    rcases hc with z | z
    · rw [z]; exact nit b u e
    · exact nit c _ z
theorem Inv.tok (I : Inv X pins σ H s) (t : Nat) : Inv X pins σ H { s with toks := t } := I.un (h' := s.heap) (t' := t) Un.refl I.hok
theorem Inv.kept {t' : Nat} (I : Inv X pins σ H s) (k : ∀ b u, s.heap.get? b = some u → h'.get? b = some u) : Inv X pins σ H { s with heap := h', toks := t' } := I.un (Un.kept k) (I.hok.kept k)
theorem Inv.laid {a : Addr} {o : HO} {t' : Nat} (I : Inv X pins σ H s) (k : ∀ b u, s.heap.get? b = some u → h'.get? b = some u) (hp : s.heap.objs.size ≤ a) (new : Cz X.prog X.w (upd H a o) h' a o) :
    Inv X pins σ (upd H a o) { s with heap := h', toks := t' } := I.un (Un.laid k hp (I.hok.fresh hp)) (I.hok.laid k hp new)
theorem Inv.write {x e : Addr} {o : HO} {t' : Nat} (I : Inv X pins σ H s) (mu : Mut (H x)) (he : e = x ∨ H e = some (.own x)) (k : ∀ b u, b ≠ e → s.heap.get? b = some u → h'.get? b = some u) (heo : ∃ u, h'.get? e = some u)
    (new : Cz X.prog X.w (upd H x o) h' x o) : Inv X pins σ (upd H x o) { s with heap := h', toks := t' } := I.un (Un.write mu he k heo) (I.hok.write mu he k heo new)
theorem Inv.pins_of {pins' : List (Addr × Obj)} (I : Inv X pins σ H s) (h : ∀ p ∈ pins', s.heap.get? p.1 = some p.2 ∧ H p.1 = none ∧ p.1 ≠ X.env.locals ∧ p.1 ∉ X.fs ∧ ∀ v, p.2.data ≠ .cell v) : Inv X pins' σ H s :=
  ⟨I.ok, I.os, I.bare, I.base, I.loc, I.cell, I.free, I.freeC, fun p hp => (List.mem_append.mp hp).elim (fun z => I.pin p (List.mem_append_left _ z)) (h p), I.hok, I.len⟩
theorem HB {N : List Str} (hN : N.Nodup) {i j : Nat} {x : Str} (a : N[i]? = some x) (b : N[j]? = some x) : i = j := by
  obtain ⟨h1, e1⟩ := List.getElem?_eq_some_iff.mp a
  obtain ⟨h2, e2⟩ := List.getElem?_eq_some_iff.mp b
  exact (List.getElem_inj hN).mp (e1.trans e2.symm)
theorem Mi {M : Model} {A : Around} {E : Value → Shared → Prop} {i : Nat} {x : Str} {v : V} {u : Value} {Q : Unit → Shared → Prop} (I : Inv X pins σ H s) (hN : X.N.Nodup) (hi : X.N[i]? = some x) (hx : Loc X.env.scope x) (r : RelV v u)
    (h : ∀ s', Inv X pins (σ.set i (some v)) H s' → (∃ a, Heap.SameBut a s.heap s'.heap ∧ (a = X.env.locals ∨ X.env.cells.lookup x = some a)) → Q () s') (hf : X.fn x = true ∨ X.env.scope.names.lookup x = some .local := by first | exact .inl rfl | exact .inr rfl | assumption) : wpAny M A (storeName X.env x u) Q E s := by
  obtain ⟨m, hn, hl⟩ := id I.loc
  have hcls : (X.env.scope.kind == .class || (X.env.scope.kind == .module && X.env.locals != X.env.globals)) = false := by rw [I.ok.kind]; rfl
  have hiσ : i < σ.length := by rw [I.len]; exact (List.getElem?_eq_some_iff.mp hi).1
  have cne := I.cne
  have tracked : ∀ {a : Addr} {h' : Heap}, (∃ o, s.heap.get? a = some o ∧ H a = none) → Heap.SameBut a s.heap h' → HOk X.prog X.w H h' := fun {a h'} ha hs b ob e => by
    obtain ⟨_, _, hfree⟩ := ha
    refine (I.hok b ob e).stay (fun c w' hc q => (hs.2 c ?_).trans q) (fun _ q => q) fun _ _ q => q
    rintro rfl
    rcases hc with rfl | hc
    · rw [hfree] at e; cases e
    · rw [hfree] at hc; cases hc
  rcases hx with hk | hk
  · refine wpAny_storeName_local hk hn (fun h' hn' hs => ?_) hcls
    obtain ⟨oL, _, _, hoL, _⟩ := id hn
    refine h _ ⟨I.ok, I.os, I.bare, ⟨fun b o e n hb hx => ?_, fun b o e n hb hx => ?_, I.base.free, fun b o e hx => ?_, I.base.tups, I.base.frzs, I.base.tbls⟩, ⟨_, hn', fun j y v' e1 e2 e3 => ?_⟩, fun y c e => ?_, I.free, I.freeC, fun p hp => ?_, tracked ⟨oL, hoL, I.free⟩ hs, by simpa using I.len⟩ ⟨_, hs, .inl rfl⟩
    · exact (hs.2 b (Nat.ne_of_lt (Nat.lt_of_lt_of_le (Heap.lt_size e) I.ok.above))).trans (I.base.keep b o e n hb hx)
    · obtain ⟨sl, e1⟩ := I.base.slot b o e n hb hx
      exact ⟨sl, (hs.2 b (Nat.ne_of_lt (Nat.lt_of_lt_of_le (Heap.lt_size e) I.ok.above))).trans e1⟩
    · obtain ⟨o', e1⟩ := I.base.there b o e hx
      exact ⟨o', (hs.2 b (Nat.ne_of_lt (Nat.lt_of_lt_of_le (Heap.lt_size e) I.ok.above))).trans e1⟩
    · by_cases hj : j = i
      · subst hj
        rw [hi] at e1; cases e1
        rw [List.getElem?_set_self hiσ] at e2
        cases e2
        exact ⟨u, r, .inl ⟨hk, by simp⟩⟩
      · rw [List.getElem?_set_ne (Ne.symm hj)] at e2
        obtain ⟨u', r', q⟩ := hl j y v' e1 e2 e3
        refine ⟨u', r', ?_⟩
        rcases q with ⟨k, e⟩ | ⟨k, c, e, z⟩
        · refine .inl ⟨k, ?_⟩
          have : y ≠ x := fun e => hj (HB hN e1 (e ▸ hi))
          simp [this, e]
        · exact .inr ⟨k, c, e, z.sameBut hs (cne y c e)⟩
    · obtain ⟨w', z⟩ := I.cell y c e
      exact ⟨w', z.sameBut hs (cne y c e)⟩
    · obtain ⟨e, n, ne, nf, d⟩ := I.pin p hp
      exact ⟨(hs.2 p.1 ne).trans e, n, ne, nf, d⟩
  · have hfn : X.fn x = true := by
      rcases hf with z | z
      · exact z
      · rw [z] at hk; cases hk
    obtain ⟨c, hc⟩ := I.ok.has x (.inl hk)
    obtain ⟨w', z⟩ := I.cell x c hc
    refine wpAny_storeName_cell I.ok.kind hk hc z (fun h' hc' hs => ?_)
    obtain ⟨oc, hoc, hocd⟩ := id z
    refine h { s with heap := h' } ⟨I.ok, I.os, I.bare, ⟨fun b o e n hb hx => ?_, fun b o e n hb hx => ?_, I.base.free, fun b o e hx => ?_, I.base.tups, I.base.frzs, I.base.tbls⟩, ⟨m, hn.sameBut hs (Ne.symm (cne x c hc)), fun j y v' e1 e2 e3 => ?_⟩, fun y c' e => ?_, I.free, I.freeC, fun p hp => ?_, tracked ⟨oc, hoc, I.freeC x c hc⟩ hs, by simpa using I.len⟩ ⟨c, hs, .inr hc⟩
    · exact (hs.2 b (Nat.ne_of_lt (Nat.lt_of_lt_of_le (Heap.lt_size e) (I.ok.cab x c hfn hc)))).trans (I.base.keep b o e n hb hx)
    · obtain ⟨sl, e1⟩ := I.base.slot b o e n hb hx
      exact ⟨sl, (hs.2 b (Nat.ne_of_lt (Nat.lt_of_lt_of_le (Heap.lt_size e) (I.ok.cab x c hfn hc)))).trans e1⟩
    · obtain ⟨o', e1⟩ := I.base.there b o e hx
      exact ⟨o', (hs.2 b (Nat.ne_of_lt (Nat.lt_of_lt_of_le (Heap.lt_size e) (I.ok.cab x c hfn hc)))).trans e1⟩
    · by_cases hj : j = i
      · subst hj
        rw [hi] at e1; cases e1
        rw [List.getElem?_set_self hiσ] at e2
        cases e2
        exact ⟨u, r, .inr ⟨.inl hk, c, hc, hc'⟩⟩
      · rw [List.getElem?_set_ne (Ne.symm hj)] at e2
        obtain ⟨u', r', q⟩ := hl j y v' e1 e2 e3
        refine ⟨u', r', ?_⟩
        rcases q with q | ⟨k, c', e, z'⟩
        · exact .inl q
        · refine .inr ⟨k, c', e, z'.sameBut hs ?_⟩
          rintro rfl
          exact hj (HB hN e1 (I.ok.inj _ _ _ e hc ▸ hi))
    · by_cases hcc : c' = c
      · subst hcc; exact ⟨_, hc'⟩
      · obtain ⟨w2, z2⟩ := I.cell y c' e
        exact ⟨w2, z2.sameBut hs hcc⟩
    · obtain ⟨e, n, ne, nf, d⟩ := I.pin p hp
      refine ⟨(hs.2 p.1 ?_).trans e, n, ne, nf, d⟩
      intro q
      rw [q, hoc] at e
      have q' : oc = p.2 := Option.some.inj e
      exact d w' (by rw [← q']; exact hocd)
theorem Gm {M : Model} {A : Around} {E : Value → Shared → Prop} {i : Nat} {x : Str} {v : V} {u : Value} {Q : Unit → Shared → Prop} (I : Inv X pins σ H s) (hN : X.N.Nodup) (hi : X.N[i]? = some x) (hx : Loc X.env.scope x) (r : RelV v u)
    (h : ∀ s', Inv X pins (σ.set i (some v)) H s' → Q () s') (hf : X.fn x = true ∨ X.env.scope.names.lookup x = some .local := by first | exact .inl rfl | exact .inr rfl | assumption) : wpAny M A (storeName X.env x u) Q E s :=
  Mi I hN hi hx r (fun s' I' _ => h s' I') hf
theorem Inv.call' {s' : Shared} {ch : List Addr} (I : Inv X pins σ H s) (ho : s'.os = s.os) (u : Un (frs X.stack) ch H H' s.heap s'.heap) (hok : HOk X.prog X.w H' s'.heap) (hg : AllBare s'.gens)
    (hch : ∀ b ∈ ch, (b ∈ X.ex ∨ X.s₀.heap.objs.size ≤ b) ∧ b ≠ X.env.locals ∧ (∀ x c, X.env.cells.lookup x = some c → c ≠ b) ∧ ∀ p ∈ X.pn ++ pins, p.1 ≠ b) : Inv X pins σ H' s' := by
  obtain ⟨h', g', d', t', o'⟩ := s'
  have e : o' = s.os := ho
  subst e
  exact I.call (g' := g') (t' := t') (d' := d') u hok hg hch
end
noncomputable abbrev XK := Value → Option Addr → Hp → Prop
noncomputable abbrev St := List (Option V)
noncomputable abbrev VK := V → Hp → Prop
noncomputable abbrev TE := St → Hp → VK → Prop
noncomputable abbrev TT := St → Hp → (Bool → Hp → Prop) → Prop
noncomputable abbrev TA := St → Hp → (List V → Hp → Prop) → Prop
structure Ends where
  nx : St → Hp → Prop
  rt : VK
  bk : St → Hp → Prop := fun _ _ => False
  ct : St → Hp → Prop := fun _ _ => False
noncomputable abbrev TS := Ends → St → Hp → Prop
noncomputable def EP (X : Cx) (pins : List (Addr × Obj)) (σ : St) (Q : VK) (u : Value) (s' : Shared) : Prop := ∃ v H', Inv X pins σ H' s' ∧ RelV v u ∧ Q v H'
noncomputable def TP (X : Cx) (pins : List (Addr × Obj)) (σ : St) (Q : Bool → Hp → Prop) (b : Bool) (s' : Shared) : Prop := ∃ H', Inv X pins σ H' s' ∧ Q b H'
noncomputable def AP (X : Cx) (pins : List (Addr × Obj)) (σ : St) (Q : List V → Hp → Prop) (us : List Value) (s' : Shared) : Prop := ∃ vs H', Inv X pins σ H' s' ∧ Vals vs us ∧ Q vs H'
noncomputable def SP (X : Cx) (pins : List (Addr × Obj)) (D : Ends) (f : Flow) (s' : Shared) : Prop :=
  match f with
  | .next => ∃ σ' H', Inv X pins σ' H' s' ∧ D.nx σ' H'
  | .brk => ∃ σ' H', Inv X pins σ' H' s' ∧ D.bk σ' H'
  | .cont => ∃ σ' H', Inv X pins σ' H' s' ∧ D.ct σ' H'
  | .ret u => ∃ v σ' H', Inv X pins σ' H' s' ∧ RelV v u ∧ D.rt v H'
noncomputable def PE (X : Cx) (e : Expr) (t : TE) : Prop :=
  ∀ (pins : List (Addr × Obj)) (s : Shared) (σ : St) (H : Hp) (Q : VK), Inv X pins σ H s → t σ H Q → wpAny (model X.prog X.w) X.A (eval e X.env) (EP X pins σ Q) X.xe s
noncomputable def PT (X : Cx) (e : Expr) (t : TT) : Prop :=
  ∀ (pins : List (Addr × Obj)) (s : Shared) (σ : St) (H : Hp) (Q : Bool → Hp → Prop), Inv X pins σ H s → t σ H Q → wpAny (model X.prog X.w) X.A (isTrue e X.env (eval e X.env)) (TP X pins σ Q) X.xe s
noncomputable def PW (X : Cx) (e : Expr) (t : TT) : Prop :=
  ∀ (whole : Sem Value) (pins : List (Addr × Obj)) (s : Shared) (σ : St) (H : Hp) (Q : Bool → Hp → Prop), Inv X pins σ H s → t σ H Q → wpAny (model X.prog X.w) X.A (isTrue e X.env whole) (TP X pins σ Q) X.xe s
theorem PW.pt {X : Cx} {e : Expr} {t : TT} (h : PW X e t) : PT X e t := h _
noncomputable def PA (X : Cx) (es : List Expr) (t : TA) : Prop :=
  ∀ (pos : Pos) (pins : List (Addr × Obj)) (s : Shared) (σ : St) (H : Hp) (Q : List V → Hp → Prop), Inv X pins σ H s → t σ H Q → wpAny (model X.prog X.w) X.A (spliced (backTo pos (starEach es X.env))) (AP X pins σ Q) X.xe s
noncomputable def PS (X : Cx) (st : Stmt) (t : TS) : Prop :=
  ∀ (pins : List (Addr × Obj)) (s : Shared) (σ : St) (H : Hp) (D : Ends), Inv X pins σ H s → t D σ H → wpAny (model X.prog X.w) X.A (exec st X.env) (SP X pins D) X.xe s
noncomputable def PSs (X : Cx) (st : List Stmt) (t : TS) : Prop :=
  ∀ (pins : List (Addr × Obj)) (s : Shared) (σ : St) (H : Hp) (D : Ends), Inv X pins σ H s → t D σ H → wpAny (model X.prog X.w) X.A (execs st X.env) (SP X pins D) X.xe s
theorem thn {α : Type} {t : Sem α} {Q Q' : α → Shared → Prop} {M : Model} {A : Around} {E : Value → Shared → Prop} {s : Shared} (h : wpAny M A t Q E s) (hQ : ∀ a s, Q a s → Q' a s) : wpAny M A t Q' E s := wpAny_mono h hQ fun _ _ x => x
end L2
namespace L2
open PySem PySem.Spec PyProof.Rows
section
variable {X : Cx}
theorem bin {a b : Expr} {ta tb : TE} (ha : PE X a ta) (hb : PE X b tb) {pins : List (Addr × Obj)} {s : Shared} {σ : St} {H : Hp} {R : V → V → Hp → Prop} (I : Inv X pins σ H s) (h : ta σ H fun x H1 => tb σ H1 fun y H2 => R x y H2)
    {α : Type} {Q : α → Shared → Prop} {f : Value → Value → Sem α}
    (hf : ∀ v u s2 x y H2, Inv X pins σ H2 s2 → RelV x v → RelV y u → R x y H2 → wpAny (model X.prog X.w) X.A (f v u) Q X.xe s2) :
    wpAny (model X.prog X.w) X.A (eval a X.env) (fun v s₁ => wpAny (model X.prog X.w) X.A (eval b X.env) (fun u s₂ => wpAny (model X.prog X.w) X.A (f v u) Q X.xe s₂) X.xe s₁) X.xe s := by
  refine thn (ha pins s σ H _ I h) fun v s1 ⟨x, H1, I1, r1, q1⟩ => ?_
  refine thn (hb pins s1 σ H1 _ I1 q1) fun u s2 ⟨y, H2, I2, r2, q2⟩ => ?_
  exact hf v u s2 x y H2 I2 r1 r2 q2
noncomputable def YX (i : Nat) : TE := fun σ H Q => ∃ v, σ[i]? = some (some v) ∧ Q v H
noncomputable def tC (v : V) : TE := fun _ H Q => Q v H
theorem Qa {i : Nat} {x : Str} {pos : Pos} (hN : X.N[i]? = some x) (hv : Vis X.env.scope x) (hd : (x == ("__debug__" : Str)) = false := by decide) (hcd : (x == ("__classdict__" : Str)) = false := by decide) : PE X (.Name x pos) (YX i) := by
  intro pins s σ H Q I h
  obtain ⟨v, e, h⟩ := h
  obtain ⟨m, hn, hl⟩ := I.loc
  obtain ⟨u, r, l⟩ := hl i x v hN e hv
  have fin : EP X pins σ Q u s := ⟨v, H, I, r, h⟩
  rcases l with ⟨hk, hm⟩ | ⟨hk, c, hc, hcell⟩
  · exact wpAny_Name (wpAny_loadName_local I.ok.kind hk hn hm fin) hd
  · rcases hk with hk | hk
    · exact wpAny_Name (wpAny_loadName_cell I.ok.kind hk hc hcell fin) hd
    · exact wpAny_Name (wpAny_loadName_free I.ok.kind hk hc hcell fin hcd) hd
theorem Wq {i j pos} : PE X (.Constant (.int i) j pos) (tC (.int i)) := fun _ _ _ H _ I h => wpAny_Constant_int ⟨.int i, H, I.tok _, ⟨_, rfl⟩, h⟩
theorem AaL {b j pos} : PE X (.Constant (.bool b) j pos) (tC (.bl b)) := fun _ _ _ H _ I h => Constant_bool ⟨.bl b, H, I, rfl, h⟩
theorem Vy {j pos} : PE X (.Constant .none j pos) (tC .non) := fun _ _ _ H _ I h => Constant_none ⟨.non, H, I, rfl, h⟩
theorem VL {x j pos} : PE X (.Constant (.str x) j pos) (tC (.str x)) := fun _ _ _ H _ I h => Calls.Constant_str ⟨.str x, H, I.tok _, ⟨_, rfl⟩, h⟩
noncomputable def Gl (X : Cx) (x : Str) : Prop := X.env.kindOf x = some .globalImplicit
theorem Ft {E : Value → Shared → Prop} {pins : List (Addr × Obj)} {s : Shared} {σ : St} {H : Hp} {x : Str} {u : Value} {pos : Pos} {Q : Value → Shared → Prop} (I : Inv X pins σ H s) (hg : Gl X x) (hm : X.mg x = some u) (h : Q u s)
    (hd : (x == ("__debug__" : Str)) = false := by decide) : wpAny (model X.prog X.w) X.A (eval (.Name x pos) X.env) Q E s :=
  Calls.Name_function_global I.ok.kind hg (Calls.loadGlobal_global (by rw [I.ok.glob]; exact I.mod.glob.keeps I.bk) hm h) hd
theorem Oq {E : Value → Shared → Prop} {pins : List (Addr × Obj)} {s : Shared} {σ : St} {H : Hp} {x : Str} {u : Value} {pos : Pos} {Q : Value → Shared → Prop} (I : Inv X pins σ H s) (hg : Gl X x) (hm : X.mg x = none) (hv : bootBuiltins x = some u) (h : Q u s)
    (hn : x ≠ "__name__" := by decide) (hd : (x == ("__debug__" : Str)) = false := by decide) : wpAny (model X.prog X.w) X.A (eval (.Name x pos) X.env) Q E s := by
  obtain ⟨mb, h1, h2⟩ := I.mod.blt
  exact Calls.Name_function_global I.ok.kind hg (Calls.loadGlobal_builtin (by rw [I.ok.glob]; exact I.mod.glob.keeps I.bk) hm (by rw [I.ok.blt]; exact h1.keeps I.bk) ((h2 x hn).trans hv) h) hd
theorem RT {x : Str} {v : V} {u : Value} {pos : Pos} (hg : Gl X x) (hm : X.mg x = some u) (r : RelV v u) (hd : (x == ("__debug__" : Str)) = false := by decide) : PE X (.Name x pos) (tC v) :=
  fun _ _ _ H _ I h => Ft I hg hm ⟨v, H, I, r, h⟩ hd
theorem Jd {x : Str} {v : V} {u : Value} {pos : Pos} (hg : Gl X x) (hm : X.mg x = none) (hv : bootBuiltins x = some u) (r : RelV v u) (hn : x ≠ "__name__" := by decide) (hd : (x == ("__debug__" : Str)) = false := by decide) : PE X (.Name x pos) (tC v) :=
  fun _ _ _ H _ I h => Oq I hg hm hv ⟨v, H, I, r, h⟩ hn hd
variable {a b : Expr} {ta tb : TE} {pos : Pos}
noncomputable def PC (X : Cx) (op : CmpOp) (a b : Expr) (t : TE) : Prop :=
  ∀ (pins : List (Addr × Obj)) (s : Shared) (σ : St) (H : Hp) (Q : VK), Inv X pins σ H s → t σ H Q →
    wpAny (model X.prog X.w) X.A (eval a X.env) (fun v s₁ => wpAny (model X.prog X.w) X.A (eval b X.env) (fun u s₂ => wpAny (model X.prog X.w) X.A (compareOp op v u) (EP X pins σ Q) X.xe s₂) X.xe s₁) X.xe s
noncomputable def tB (t : TE) : TT := fun σ H Q => t σ H fun x H1 => ∃ c, x = .bl c ∧ Q c H1
theorem Aci {op : CmpOp} {t : TE} (h : PC X op a b t) (h1 : behindInMarks op b = false := by first | exact nobehind _ (by decide) (by decide) | rfl) : PT X (.Compare a [op] [b] pos) (tB t) := by
  intro pins s σ H Q I hw
  refine wpAny_isTrue_Compare1 (thn (h pins s σ H _ I hw) fun v s1 h1 => thn h1 fun u s2 h2 => thn h2 fun c s3 ⟨x, H1, I1, r1, q1⟩ => ?_) h1
  obtain ⟨d, rfl, q⟩ := q1
  cases r1
  exact wpAny_truthy_bool ⟨H1, I1, q⟩
theorem Wr {e : Expr} {t : TE} (h : PE X e t) (he : ∀ whole, isTrue e X.env whole = (do let v ← whole; standAt e.pos; holding [v] (truthy v)) := by intro _; rfl) : PT X e (tB t) := by
  intro pins s σ H Q I hw
  refine isTrue_plain (thn (h pins s σ H _ I hw) fun v s1 ⟨x, H1, I1, r1, q1⟩ => ?_) (he _)
  obtain ⟨d, rfl, q⟩ := q1
  cases r1
  exact wpAny_truthy_bool ⟨H1, I1, q⟩
variable {tA tB' : TT} {rest : List Expr}
noncomputable def Aco (t u : TT) : TT := fun σ H Q => t σ H fun c H1 => if c = true then u σ H1 Q else Q false H1
noncomputable def tOr (t u : TT) : TT := fun σ H Q => t σ H fun c H1 => if c = true then Q true H1 else u σ H1 Q
noncomputable def Abg (t : TT) : TT := fun σ H Q => t σ H fun c H1 => Q (!c) H1
theorem RQ (ha : PT X a tA) : PW X (.BoolOp .And [a] pos) tA := by
  intro wh pins s σ H Q I h
  refine isTrue_and (thn (ha pins s σ H Q I h) fun c s1 e => ?_)
  cases c with
  | true => exact isTrue_and_nil e
  | false => exact e
theorem V1 (ha : PT X a tA) : PW X (.BoolOp .Or [a] pos) tA := by
  intro wh pins s σ H Q I h
  refine isTrue_or (thn (ha pins s σ H Q I h) fun c s1 e => ?_)
  cases c with
  | false => exact isTrue_or_nil e
  | true => exact e
theorem V8 (ha : PT X a tA) (hb : PW X (.BoolOp .And (b :: rest) pos) tB') : PW X (.BoolOp .And (a :: b :: rest) pos) (Aco tA tB') := by
  intro wh pins s σ H Q I h
  refine isTrue_and (thn (ha pins s σ H _ I h) fun c s1 ⟨H1, I1, q1⟩ => ?_)
  cases c with
  | true => exact hb wh pins s1 σ H1 Q I1 q1
  | false => exact ⟨H1, I1, q1⟩
theorem Y9 (ha : PT X a tA) (hb : PW X (.BoolOp .Or (b :: rest) pos) tB') : PW X (.BoolOp .Or (a :: b :: rest) pos) (tOr tA tB') := by
  intro wh pins s σ H Q I h
  refine isTrue_or (thn (ha pins s σ H _ I h) fun c s1 ⟨H1, I1, q1⟩ => ?_)
  cases c with
  | true => exact ⟨H1, I1, q1⟩
  | false => exact hb wh pins s1 σ H1 Q I1 q1
theorem VJ (ha : PT X a tA) : PT X (.UnaryOp .Not a pos) (Abg tA) := by
  intro pins s σ H Q I h
  exact isTrue_not (ha pins s σ H (fun c H1 => Q (!c) H1) I h)
noncomputable def Zq (ta tb : TE) : TE := fun σ H Q => ta σ H fun x H1 => ∃ c, x = .bl c ∧ if c = true then tb σ H1 Q else Q (.bl false) H1
noncomputable def Acn (ta tb : TE) : TE := fun σ H Q => ta σ H fun x H1 => ∃ c, x = .bl c ∧ if c = true then Q (.bl true) H1 else tb σ H1 Q
noncomputable def ZG (ta : TE) : TE := fun σ H Q => ta σ H fun x H1 => ∃ c, x = .bl c ∧ Q (.bl (!c)) H1
theorem VD {op} {t : TE} (h : PE X a t) : PE X (.BoolOp op [a] pos) t := fun pins s σ H Q I hw => BoolOp_one (h pins s σ H Q I hw)
theorem Wz (ha : PE X a ta) (hb : PE X (.BoolOp .And (b :: rest) pos) tb) : PE X (.BoolOp .And (a :: b :: rest) pos) (Zq ta tb) := by
  intro pins s σ H Q I h
  refine BoolOp_and (thn (ha pins s σ H _ I h) fun v s1 ⟨x, H1, I1, r1, q1⟩ => ?_)
  obtain ⟨c, rfl, q1⟩ := q1
  cases r1
  refine wpAny_truthy_bool ?_
  cases c with
  | true => exact hb pins s1 σ H1 Q I1 q1
  | false => exact ⟨.bl false, H1, I1, rfl, q1⟩
theorem ZW (ha : PE X a ta) (hb : PE X (.BoolOp .Or (b :: rest) pos) tb) : PE X (.BoolOp .Or (a :: b :: rest) pos) (Acn ta tb) := by
  intro pins s σ H Q I h
  refine BoolOp_or (thn (ha pins s σ H _ I h) fun v s1 ⟨x, H1, I1, r1, q1⟩ => ?_)
  obtain ⟨c, rfl, q1⟩ := q1
  cases r1
  refine wpAny_truthy_bool ?_
  cases c with
  | false => exact hb pins s1 σ H1 Q I1 q1
  | true => exact ⟨.bl true, H1, I1, rfl, q1⟩
theorem VN (ha : PE X a ta) : PE X (.UnaryOp .Not a pos) (ZG ta) := by
  intro pins s σ H Q I h
  refine UnaryOp_ (thn (ha pins s σ H _ I h) fun v s1 ⟨x, H1, I1, r1, q1⟩ => ?_)
  obtain ⟨c, rfl, q1⟩ := q1
  cases r1
  exact not_of (wpAny_truthy_bool ⟨.bl (!c), H1, I1, rfl, q1⟩)
end
end L2
namespace L2
open PySem PySem.Spec PyProof.Rows
noncomputable def SqL (K : PySem.W.Frag) (H : Hp) (a : Addr) (xs : List V) : Prop :=
  Rd H a (.lst xs) ∨
    ∃ (o : Obj) (its : Array Value) (n : Nat), K.lookup a = some o ∧ o.cls = .type "list" ∧ o.dict = none ∧ o.data = .seq its n ∧ its.size ≤ sizeLine ∧ Vals xs its.toList
noncomputable def SqT (K : PySem.W.Frag) (H : Hp) (a : Addr) (xs : List V) : Prop :=
  Rd H a (.tup xs) ∨
    ∃ (o : Obj) (its : Array Value) (n : Nat), K.lookup a = some o ∧ o.cls = .type "tuple" ∧ o.data = .seq its n ∧ its.size ≤ sizeLine ∧ Vals xs its.toList
noncomputable def Abq : Value → Option V
  | .none => some .non
  | .bool b => some (.bl b)
  | .int i _ => some (.int i)
  | .str x _ => some (.str x)
  | .bytes b _ => some (.byt b)
  | .float b _ => some (.flt b)
  | .ref a => some (.ref a)
  | .type n => some (.ty n)
  | _ => none
theorem RelV.abs {x : V} {u : Value} (r : RelV x u) : Abq u = some x := by
  cases x with
  | non => cases r; rfl
  | bl _ => cases r; rfl
  | int _ => obtain ⟨t, rfl⟩ := r; rfl
  | str _ => obtain ⟨t, rfl⟩ := r; rfl
  | byt _ => obtain ⟨t, rfl⟩ := r; rfl
  | flt _ => obtain ⟨t, rfl⟩ := r; rfl
  | ref _ => cases r; rfl
  | ty _ => cases r; rfl
theorem RelV.inj {x y : V} {u : Value} (r : RelV x u) (q : RelV y u) : x = y := Option.some.inj (r.abs.symm.trans q.abs)
theorem Vals.inj : ∀ {xs ys : List V} {us : List Value}, Vals xs us → Vals ys us → xs = ys
  | _, _, _, .nil, .nil => rfl
  | _, _, _, .cons r t, .cons r' t' => by rw [r.inj r', Vals.inj t t']
section
variable {X : Cx} {pins : List (Addr × Obj)} {σ : St} {H : Hp} {s : Shared} {a : Addr} {xs ys : List V}
theorem SqL.of {K : PySem.W.Frag} (h : H a = some (.lst xs)) : SqL K H a xs := .inl (.inl h)
theorem SqT.of {K : PySem.W.Frag} (h : H a = some (.tup xs)) : SqT K H a xs := .inl (.inl h)
theorem Inv.list (I : Inv X pins σ H s) (h : SqL X.K H a xs) : ∃ its : List Value, Vals xs its ∧ PlainL s.heap a its.toArray ∧ xs.length ≤ sizeLine := by
  rcases h with h | ⟨o, its, n, hk, hc, hd, hs, hz, r⟩
  · obtain ⟨z, its, n, r, e⟩ := h.ok I.hok
    exact ⟨its, r, ⟨_, n, e, rfl, rfl, rfl⟩, z⟩
  · refine ⟨its.toList, r, ⟨o, n, I.kIn a o hk, hc, hd, by simpa using hs⟩, ?_⟩
    have e := r.length
    simp only [Array.length_toList] at e
    omega
theorem Inv.tuple (I : Inv X pins σ H s) (h : SqT X.K H a xs) : ∃ its : List Value, Vals xs its ∧ IsTup s.heap a its.toArray ∧ xs.length ≤ sizeLine := by
  rcases h with h | ⟨o, its, n, hk, hc, hs, hz, r⟩
  · obtain ⟨z, its, r, p⟩ := h.ok I.hok
    exact ⟨its, r, p, z⟩
  · refine ⟨its.toList, r, ⟨o, I.kIn a o hk, hc, n, by simpa using hs⟩, ?_⟩
    have e := r.length
    simp only [Array.length_toList] at e
    omega
theorem Inv.list_inj (I : Inv X pins σ H s) (h : SqL X.K H a xs) (h' : SqL X.K H a ys) : xs = ys := by
  obtain ⟨its, r, ⟨o, n, e, _, _, d⟩, _⟩ := I.list h
  obtain ⟨its', r', ⟨o', n', e', _, _, d'⟩, _⟩ := I.list h'
  rw [e] at e'; cases e'
  rw [d] at d'
  injection d' with d1 _
  have : its = its' := by simpa using congrArg Array.toList d1
  subst this
  exact r.inj r'
end
noncomputable abbrev Cx.wish (X : Cx) (E : Value → Shared → Prop) : Cx := { X with xe := E }
noncomputable abbrev Cx.nox (X : Cx) : Cx := X.wish fun _ _ => False
theorem Cx.Ok.wish {X : Cx} (ok : X.Ok) (E : Value → Shared → Prop) : (X.wish E).Ok :=
  ⟨ok.mod, ok.kind, ok.glob, ok.blt, ok.above, ok.inj, ok.has, ok.cab, ok.hd, ok.frames, ok.stk, ok.exf, ok.bs, ok.bsz, ok.noex, ok.exfs, ok.funs, ok.frf⟩
theorem Cx.Ok.unwish {X : Cx} {E : Value → Shared → Prop} (ok : (X.wish E).Ok) : X.Ok :=
  ⟨ok.mod, ok.kind, ok.glob, ok.blt, ok.above, ok.inj, ok.has, ok.cab, ok.hd, ok.frames, ok.stk, ok.exf, ok.bs, ok.bsz, ok.noex, ok.exfs, ok.funs, ok.frf⟩
section
variable {X : Cx} {pins : List (Addr × Obj)} {σ : St} {H : Hp} {s : Shared} {E : Value → Shared → Prop}
theorem Inv.wish (I : Inv X pins σ H s) (E : Value → Shared → Prop) : Inv (X.wish E) pins σ H s := ⟨I.ok.wish E, I.os, I.bare, I.base, I.loc, I.cell, I.free, I.freeC, I.pin, I.hok, I.len⟩
theorem Inv.unwish (I : Inv (X.wish E) pins σ H s) : Inv X pins σ H s := ⟨I.ok.unwish, I.os, I.bare, I.base, I.loc, I.cell, I.free, I.freeC, I.pin, I.hok, I.len⟩
theorem SP.unwish {D : Ends} {f : Flow} {s' : Shared} (h : SP (X.wish E) pins D f s') : SP X pins D f s' := by
  cases f with
  | next => obtain ⟨σ', H', I, q⟩ := h; exact ⟨σ', H', I.unwish, q⟩
  | brk => obtain ⟨σ', H', I, q⟩ := h; exact ⟨σ', H', I.unwish, q⟩
  | cont => obtain ⟨σ', H', I, q⟩ := h; exact ⟨σ', H', I.unwish, q⟩
  | ret u => obtain ⟨v, σ', H', I, r, q⟩ := h; exact ⟨v, σ', H', I.unwish, r, q⟩
theorem PSs.nox {st : List Stmt} {t : TS} (h : PSs X.nox st t) : PSs X st t := fun pins s σ H D I hw =>
  wpAny_mono (h pins s σ H D (I.wish _) hw) (fun _ _ q => q.unwish) fun _ _ z => False.elim z
end
section
variable {X : Cx} {st : Stmt} {rest : List Stmt} {t u : TS} {e : Expr} {te : TE} {pos : Pos}
noncomputable def Z1 : TS := fun D σ H => D.nx σ H
noncomputable def AbA (t u : TS) : TS := fun D σ H => t { D with nx := u D } σ H
theorem Lg : PSs X [] Z1 := fun _ _ σ H _ I h => wpAny_execs_nil ⟨σ, H, I, h⟩
theorem Ht (h1 : PS X st t) (h2 : PSs X rest u) : PSs X (st :: rest) (AbA t u) := by
  intro pins s σ H D I h
  refine wpAny_execs_cons (thn (h1 pins s σ H { D with nx := u D } I h) fun f s1 q => ?_)
  cases f with
  | next =>
    obtain ⟨σ', H', I', q⟩ := q
    exact h2 pins s1 σ' H' D I' q
  | ret v => exact q
  | brk => exact q
  | cont => exact q
theorem CN (h1 : PS X st t) : PSs X [st] t := by
  intro pins s σ H D I h
  refine wpAny_execs_cons (thn (h1 pins s σ H D I h) fun f s1 q => ?_)
  cases f with
  | next => exact wpAny_execs_nil q
  | ret v => exact q
  | brk => exact q
  | cont => exact q
theorem Inv.quiet {pins : List (Addr × Obj)} {σ : St} {H : Hp} {s : Shared} (I : Inv X pins σ H s) : interactive X.env = false := by simp [interactive, I.ok.kind]
noncomputable def XF (te : TE) : TS := fun D σ H => te σ H fun _ H1 => D.nx σ H1
theorem Q7 (he : PE X e te) (hs : swapsWith e none pos.line X.env = pure false := by rfl) : PS X (.Expr e pos) (XF te) := by
  intro pins s σ H D I h
  exact wpAny_Expr_any (thn (he pins s σ H _ I h) fun v s1 ⟨x, H1, I1, r1, q1⟩ => ⟨σ, H1, I1, q1⟩) I.quiet hs
noncomputable def AbH (te : TE) : TS := fun D σ H => te σ H D.rt
theorem Oj (he : PE X e te) : PS X (.Return (some e) pos) (AbH te) := by
  intro pins s σ H D I h
  exact wpAny_Return_some (thn (he pins s σ H _ I h) fun v s1 ⟨x, H1, I1, r1, q1⟩ => ⟨x, σ, H1, I1, r1, q1⟩)
noncomputable def AcR (c : TT) (t u : TS) : TS := fun D σ H => c σ H fun b H1 => if b = true then t D σ H1 else u D σ H1
theorem Va {c : Expr} {a b : List Stmt} {tc : TT} (hc : PT X c tc) (ha : PSs X a t) (hb : PSs X b u) : PS X (.If c a b pos) (AcR tc t u) := by
  intro pins s σ H D I h
  refine wpAny_If (thn (hc pins s σ H _ I h) fun d s1 ⟨H1, I1, q1⟩ => ?_)
  cases d with
  | true => exact ha pins s1 σ H1 D I1 q1
  | false => exact hb pins s1 σ H1 D I1 q1
noncomputable def Xq : TS := fun _ _ _ => False
theorem P0 : PS X st Xq := fun _ _ _ _ _ _ h => h.elim
end
noncomputable abbrev TG := V → St → Hp → (St → Hp → Prop) → Prop
noncomputable def PG (X : Cx) (target : Expr) (t : TG) : Prop :=
  ∀ (pins : List (Addr × Obj)) (s : Shared) (σ : St) (H : Hp) (v : V) (u : Value) (Q : St → Hp → Prop), Inv X pins σ H s → RelV v u → t v σ H Q →
    wpAny (model X.prog X.w) X.A (assign target X.env u) (fun _ s' => ∃ σ' H', Inv X pins σ' H' s' ∧ Q σ' H') X.xe s
section
variable {X : Cx} {pos : Pos}
noncomputable def Tr (i : Nat) : TG := fun v σ H Q => Q (σ.set i (some v)) H
theorem Rn {i : Nat} {x : Str} (hN : X.N.Nodup) (hi : X.N[i]? = some x) (hx : Loc X.env.scope x) (hf : X.fn x = true ∨ X.env.scope.names.lookup x = some .local := by first | exact .inl rfl | exact .inr rfl | assumption) : PG X (.Name x pos) (Tr i) := by
  intro pins s σ H v u Q I r h
  exact wpAny_assign_Name (Gm I hN hi hx r (fun s' I' => ⟨_, H, I', h⟩) hf)
noncomputable def Abx (te : TE) (g : TG) : TS := fun D σ H => te σ H fun x H1 => g x σ H1 D.nx
theorem V7 {i : Nat} {x : Str} {e : Expr} {te : TE} {pos' : Pos} (hN : X.N.Nodup) (hi : X.N[i]? = some x) (hx : Loc X.env.scope x) (he : PE X e te) (hs : swapsWith e (some (.Name x pos')) pos.line X.env = pure false := by rfl) (hf : X.fn x = true ∨ X.env.scope.names.lookup x = some .local := by first | exact .inl rfl | exact .inr rfl | assumption) :
    PS X (.Assign [.Name x pos'] e pos) (Abx te (Tr i)) := by
  intro pins s σ H D I h
  refine wpAny_Assign_Name (thn (he pins s σ H _ I h) fun v s1 ⟨y, H1, I1, r1, q1⟩ => ?_) hs
  exact Gm I1 hN hi hx r1 (fun s2 I2 => ⟨_, H1, I2, q1⟩) hf
end
section
variable {X : Cx} {pos : Pos}
noncomputable def Vi (c : TT) (tb : TS) : TS := fun D σ H => ∃ W : Nat → St → Hp → Prop, (∃ m, W m σ H) ∧ ∀ m σ H, W m σ H →
  c σ H fun b H1 => if b = true then ∃ N : St → Hp → Prop, (∀ σ' H', N σ' H' → ∃ m', m' < m ∧ W m' σ' H') ∧ tb { D with nx := N, ct := N, bk := D.nx } σ H1 else D.nx σ H1
theorem Ow {c : Expr} {body : List Stmt} {tc : TT} {tb : TS} (hp : PassesOwn (model X.prog X.w) X.A X.env X.xe) (hc : PT X c tc) (hb : PSs X body tb) : PS X (.While c body [] pos) (Vi tc tb) := by
  intro pins s σ H D I h
  obtain ⟨W, ⟨m0, w0⟩, turn⟩ := h
  refine wpAny_While (codeAny_whileLoop (fun n s' => ∃ σ' H', Inv X pins σ' H' s' ∧ W n σ' H') ?_ m0 ⟨σ, H, I, w0⟩)
  rintro n s1 ⟨σ1, H1, I1, w1⟩
  refine wpAny_passesOwn hp (thn (hc pins s1 σ1 H1 _ I1 (turn n σ1 H1 w1)) fun b s2 ⟨H2, I2, q2⟩ => ?_)
  cases b with
  | true =>
    obtain ⟨N, hN, q2⟩ := q2
    rw [if_pos rfl]
    refine wpAny_passesOwn hp (thn (hb pins s2 σ1 H2 _ I2 q2) fun f s3 q3 => ?_)
    cases f with
    | next =>
      obtain ⟨σ3, H3, I3, n3⟩ := q3
      obtain ⟨m', hm, w3⟩ := hN σ3 H3 n3
      exact ⟨m', hm, σ3, H3, I3, w3⟩
    | cont =>
      obtain ⟨σ3, H3, I3, n3⟩ := q3
      obtain ⟨m', hm, w3⟩ := hN σ3 H3 n3
      exact ⟨m', hm, σ3, H3, I3, w3⟩
    | brk => exact q3
    | ret v => exact q3
  | false =>
    rw [if_neg Bool.false_ne_true]
    exact wpAny_execs_nil ⟨σ1, H2, I2, q2⟩
end
structure It where
  go : Nat → Hp → Prop
  yld : Nat → Hp → V → Hp → Prop
  stop : Nat → Hp → Prop
noncomputable def Ms (X : Cx) (pins : List (Addr × Obj)) (H : Hp) (b : Addr) : Prop :=
  H b = none ∧ b ≠ X.env.locals ∧ b ∉ X.fs ∧ (b ∈ X.ex ∨ X.s₀.heap.objs.size ≤ b) ∧ (∀ x c, X.env.cells.lookup x = some c → c ≠ b) ∧ ∀ p ∈ X.pn ++ pins, p.1 ≠ b
theorem Inv.fpOk {X : Cx} {pins : List (Addr × Obj)} {σ : St} {H H' : Hp} {s : Shared} {b : Addr} (I : Inv X pins σ H s) (hb : s.heap.objs.size ≤ b) (hn : H' b = none) : Ms X pins H' b := by
  refine ⟨hn, Nat.ne_of_gt (Nat.lt_of_lt_of_le I.lt hb), I.nofs hb, .inr (Nat.le_trans I.sz hb), fun x c e z => ?_, fun p hp z => ?_⟩
  · obtain ⟨v, q⟩ := I.cell x c e
    exact absurd (Nat.lt_of_lt_of_le q.lt (by rw [z]; exact hb)) (Nat.lt_irrefl _)
  · exact absurd (Nat.lt_of_lt_of_le (Heap.lt_size (I.pin p hp).1) (by rw [z]; exact hb)) (Nat.lt_irrefl _)
structure Turn (P : Program) (w : World) (K : PySem.W.Frag) (tg : Expr) (J : It) (fp : List Addr) (it : Addr) (tn : Nat → Heap → Prop) : Prop where
  mem : it ∈ fp
  obj : ∀ i h, tn i h → ∀ b ∈ fp, ∃ o, h.get? b = some o ∧ ∀ v, o.data ≠ .cell v
  keep : ∀ i h h', tn i h → (∀ b ∈ fp, ∀ o, h.get? b = some o → h'.get? b = some o) → tn i h'
  item : ∀ (X : Cx), X.prog = P → X.w = w → X.K = K → X.calm = true → ∀ (i : Nat) (pins : List (Addr × Obj)) (s : Shared) (σ : St) (H : Hp) (E : Value → Shared → Prop), Inv X pins σ H s → (∀ b ∈ fp, Ms X pins H b) → tn i s.heap → J.go i H →
    wpAny (model P w) X.A (pyNext (.ref it)) (fun r s1 => ∃ u, r = some u ∧
      wpAny (model P w) X.A (letOwnedTupleGo tg (.ref it) u) (fun _ s2 => ∃ x H', Inv X pins σ H' s2 ∧ RelV x u ∧ J.yld i H x H' ∧ tn (i + 1) s2.heap ∧ ∀ b ∈ fp, H' b = none) E s1) E s
  done : ∀ (X : Cx), X.prog = P → X.w = w → X.K = K → X.calm = true → ∀ (i : Nat) (pins : List (Addr × Obj)) (s : Shared) (σ : St) (H : Hp) (E : Value → Shared → Prop), Inv X pins σ H s → (∀ b ∈ fp, Ms X pins H b) → tn i s.heap → J.stop i H →
    wpAny (model P w) X.A (pyNext (.ref it)) (fun r s1 => r = none ∧ Inv X pins σ H s1) E s
  self : ∀ (A : Around) (i : Nat) (s : Shared) (Q : Value → Shared → Prop) (E : Value → Shared → Prop), tn i s.heap → Q (.ref it) s → wpAny (model P w) A (pyIter (.ref it)) Q E s
noncomputable abbrev TI := St → Hp → (It → Hp → Prop) → Prop
noncomputable def PIE (X : Cx) (pins : List (Addr × Obj)) (σ : St) (tg : Expr) (R : It → Hp → Prop) (itv : Value) (s2 : Shared) : Prop :=
  ∃ (it : Addr) (fp : List Addr) (tn : Nat → Heap → Prop) (J : It) (H' : Hp), itv = .ref it ∧ Inv X pins σ H' s2 ∧ Turn X.prog X.w X.K tg J fp it tn ∧ tn 0 s2.heap ∧ (∀ b ∈ fp, Ms X pins H' b) ∧ R J H'
noncomputable def PI (X : Cx) (tg iter : Expr) (wi : TI) : Prop :=
  ∀ (pins : List (Addr × Obj)) (s : Shared) (σ : St) (H : Hp) (R : It → Hp → Prop), Inv X pins σ H s → wi σ H R →
    wpAny (model X.prog X.w) X.A (eval iter X.env) (fun v s1 => wpAny (model X.prog X.w) X.A (pyIter v) (PIE X pins σ tg R) X.xe s1) X.xe s
theorem Aaz {M : Model} {A : Around} {E : Value → Shared → Prop} {s : Shared} {tg : Expr} {it : Addr} {u : Value} {o : Obj} {n : String} {vs : Array Value} {Q : Unit → Shared → Prop} (ho : s.heap.get? it = some o) (hc : o.cls = .type n) (hd : o.data = .fields vs)
    (hn : ["enumerate", "zip", "dict_itemiterator", "dict_reverseitemiterator", "odict_iterator", "itertools.zip_longest", "itertools.pairwise"].contains n = false) (hQ : Q () s) : wpAny M A (letOwnedTupleGo tg (.ref it) u) Q E s := by
  unfold letOwnedTupleGo
  cases tg <;> first
    | exact wpAny_pure hQ
    | (cases u <;> first
        | exact wpAny_pure hQ
        | (refine wpAny_bind (wpAny_load ho ?_)
           rw [hc, hd]
           show wpAny M A (if (["enumerate", "zip", "dict_itemiterator", "dict_reverseitemiterator", "odict_iterator", "itertools.zip_longest", "itertools.pairwise"].contains n && vs[0]? == some (rawInt _)) = true then _ else _) Q E s
           rw [if_neg (by intro h; rw [hn, Bool.false_and] at h; cases h)]
           exact wpAny_pure hQ))
noncomputable def Itl (K : PySem.W.Frag) (a : Addr) : It :=
  ⟨fun i H => ∃ xs x, SqL K H a xs ∧ xs[i]? = some x, fun i H x H' => H' = H ∧ ∀ xs, SqL K H a xs → xs[i]? = some x, fun i H => ∃ xs, SqL K H a xs ∧ xs.length ≤ i⟩
theorem Mh {P : Program} {w : World} {K : PySem.W.Frag} {tg : Expr} (a it : Addr) : Turn P w K tg (Itl K a) [it] it (fun i h => h.IsListIter it a i) where
  mem := by simp
  obj := fun i h st b hb => by
    have e : b = it := by simpa using hb
    subst e
    obtain ⟨o, e, c, d⟩ := st
    exact ⟨o, e, fun v z => by rw [d] at z; cases z⟩
  keep := fun i h h' st k => st.at fun o e => k it (by simp) o e
  item := by
    intro X hP hw hK hc i pins s σ H E I hf st hg
    subst hP hw hK
    obtain ⟨xs, x, hq, hx⟩ := hg
    obtain ⟨its, rv, p, hz⟩ := I.list hq
    obtain ⟨u, hu, ru⟩ := rv.get hx
    obtain ⟨f0, f1, f2, f3, f4, f5⟩ := hf it (by simp)
    refine wpAny_pyNext_list_item st p.isList (x := u) (by simpa using hu) fun h' st' sb => ?_
    have I1 : Inv X pins σ H { s with heap := h' } := I.turned (t' := s.toks) (fun b o hb e => (sb.2 b hb).trans e) f0 f1 f3 f4 f5
    obtain ⟨o, e, c, d⟩ := id st'
    exact ⟨u, rfl, Aaz (s := { s with heap := h' }) e c d (by decide) ⟨x, H, I1, ru, ⟨rfl, fun ys hy => by rw [I.list_inj hy hq]; exact hx⟩, st', fun b hb => (hf b hb).1⟩⟩
  done := by
    intro X hP hw hK hc i pins s σ H E I hf st hg
    subst hP hw hK
    obtain ⟨xs, hq, hx⟩ := hg
    obtain ⟨its, rv, p, hz⟩ := I.list hq
    obtain ⟨f0, f1, f2, f3, f4, f5⟩ := hf it (by simp)
    have hl := rv.length
    exact wpAny_pyNext_list_end (I.ok.hd hc) st p.isList (by simp; omega) fun h' eb => ⟨rfl, I.turned (t' := s.toks) (fun b o hb e => eb b o hb e) f0 f1 f3 f4 f5⟩
  self := fun _ _ _ _ _ st h => wpAny_pyIter_listiter st h
end L2
namespace L2
open PySem PySem.Spec PyProof.Rows
section
variable {X : Cx} {tg : Expr}
noncomputable def AaE (K : PySem.W.Frag) (tl : TE) : TI := fun σ H R => tl σ H fun x H1 => ∃ a, x = .ref a ∧ (∃ xs, SqL K H1 a xs) ∧ R (Itl K a) H1
theorem Sx {l : Expr} {tl : TE} (hl : PE X l tl) : PI X tg l (AaE X.K tl) := by
  intro pins s σ H R I h
  refine thn (hl pins s σ H _ I h) fun v s1 ⟨x, H1, I1, r1, q1⟩ => ?_
  obtain ⟨a, e, ⟨xs, hq⟩, q⟩ := q1
  subst e
  cases r1
  obtain ⟨its, rv, p, hz⟩ := I1.list hq
  refine wpAny_pyIter_list p.isList ?_
  refine ⟨s1.heap.objs.size, [s1.heap.objs.size], _, _, H1, rfl, I1.kept (t' := s1.toks) fun b o e => Heap.get?_push_of_some _ e, Mh a _, ⟨_, Heap.get?_push_size _ rfl, rfl, rfl⟩, fun b hb => ?_, q⟩
  have e : b = s1.heap.objs.size := by simpa using hb
  subst e
  exact I1.fpOk (Nat.le_refl _) (I1.hok.fresh (Nat.le_refl _))
noncomputable def Acd (wi : TI) (g : TG) (tb : TS) : TS := fun D σ H => wi σ H fun J H1 => ∃ W : Nat → Nat → St → Hp → Prop, (∃ m, W 0 m σ H1) ∧ ∀ i m σ H, W i m σ H →
  (J.stop i H ∧ D.nx σ H) ∨ (J.go i H ∧ ∃ N : St → Hp → Prop, (∀ σ' H', N σ' H' → ∃ m', m' < m ∧ W (i + 1) m' σ' H') ∧ ∀ x H', J.yld i H x H' → g x σ H' fun σ2 H2 => tb { D with nx := N, ct := N, bk := D.nx } σ2 H2)
noncomputable def Jv (fp : List Addr) (h : Heap) : List (Addr × Obj) := fp.filterMap fun b => (h.get? b).map fun o => (b, o)
theorem HS {fp : List Addr} {h : Heap} {b : Addr} {o : Obj} (hb : b ∈ fp) (e : h.get? b = some o) : (b, o) ∈ Jv fp h := List.mem_filterMap.mpr ⟨b, hb, by rw [e]; rfl⟩
theorem M5 {fp : List Addr} {h : Heap} {p : Addr × Obj} (hp : p ∈ Jv fp h) : p.1 ∈ fp ∧ h.get? p.1 = some p.2 := by
  obtain ⟨b, hb, e⟩ := List.mem_filterMap.mp hp
  cases q : h.get? b with
  | none => rw [q] at e; cases e
  | some o =>
    rw [q] at e
    have e' : (b, o) = p := Option.some.inj e
    subst e'
    exact ⟨hb, q⟩
theorem Inv.pinned {pins : List (Addr × Obj)} {σ : St} {H : Hp} {s : Shared} {fp : List Addr} (I : Inv X pins σ H s) (hf : ∀ b ∈ fp, Ms X pins H b) (ho : ∀ b ∈ fp, ∃ o, s.heap.get? b = some o ∧ ∀ v, o.data ≠ .cell v) : Inv X (pins ++ Jv fp s.heap) σ H s :=
  I.pins_of fun p hp => (List.mem_append.mp hp).elim (fun z => I.pin p (List.mem_append_right _ z)) fun z => by
    obtain ⟨hb, e⟩ := M5 z
    obtain ⟨f0, f1, f2, _⟩ := hf p.1 hb
    obtain ⟨o, e', d⟩ := ho p.1 hb
    rw [e] at e'; cases e'
    exact ⟨e, f0, f1, f2, d⟩
theorem Inv.unpinned {pins pl : List (Addr × Obj)} {σ : St} {H : Hp} {s : Shared} (I : Inv X (pins ++ pl) σ H s) : Inv X pins σ H s := I.pins_of fun p hp => I.pin p (List.mem_append_right _ (List.mem_append_left _ hp))
theorem VP {iter : Expr} {body : List Stmt} {wi : TI} {g : TG} {tb : TS} {pos : Pos} (hp : PassesOwn (model X.prog X.w) X.A X.env X.xe) (hc : X.calm = true) (hi : PI X tg iter wi) (hg : PG X tg g) (hb : PSs X body tb)
    (hs : ∀ x, foldedSetIterable iter X.env x = pure x := by intro _; rfl) : PS X (.For tg iter body [] pos) (Acd wi g tb) := by
  intro pins s σ H D I h
  refine wpAny_For (thn (hi pins s σ H _ I h) fun v s1 h1 => thn h1 fun itv s2 h2 => ?_) hs
  obtain ⟨it, fp, tn, J, H2, e, I2, T, st2, f2, W, ⟨m0, w0⟩, turn⟩ := h2
  subst e
  have stat : ∀ {H' : Hp}, (∀ b ∈ fp, H' b = none) → ∀ b ∈ fp, Ms X pins H' b := fun hn b hb => ⟨hn b hb, (f2 b hb).2⟩
  refine codeAny_forLoop_any (fun n s' => ∃ i σ' H', Inv X pins σ' H' s' ∧ tn i s'.heap ∧ (∀ b ∈ fp, H' b = none) ∧ W i n σ' H') ?_ m0 ⟨0, σ, H2, I2, st2, fun b hb => (f2 b hb).1, w0⟩
  rintro n s3 ⟨i, σ3, H3, I3, st3, fr3, w3⟩
  rcases turn i n σ3 H3 w3 with ⟨stop, qn⟩ | ⟨go, N, hN, step⟩
  · refine wpAny_passesOwn hp (thn (T.done X rfl rfl rfl hc i pins s3 σ3 H3 X.xe I3 (stat fr3) st3 stop) fun r s4 ⟨hr, I4⟩ => ?_)
    subst hr
    exact wpAny_execs_nil ⟨σ3, H3, I4, qn⟩
  · refine wpAny_passesOwn hp (thn (T.item X rfl rfl rfl hc i pins s3 σ3 H3 X.xe I3 (stat fr3) st3 go) fun r s4 ⟨u, hr, h4⟩ => ?_)
    subst hr
    refine wpAny_passesOwn hp (thn h4 fun _ s5 ⟨x, H5, I5, r5, y5, st5, fr5⟩ => ?_)
    have I5' := I5.pinned (stat fr5) (T.obj _ _ st5)
    refine wpAny_passesOwn hp (thn (hg _ s5 σ3 H5 x u _ I5' r5 (step x H5 y5)) fun _ s6 ⟨σ6, H6, I6, q6⟩ => ?_)
    refine wpAny_passesOwn hp (thn (hb _ s6 σ6 H6 _ I6 q6) fun f s7 q7 => ?_)
    have again : ∀ {σ7 : St} {H7 : Hp}, Inv X (pins ++ Jv fp s5.heap) σ7 H7 s7 → N σ7 H7 → ∃ m, m < n ∧ ∃ i σ' H', Inv X pins σ' H' s7 ∧ tn i s7.heap ∧ (∀ b ∈ fp, H' b = none) ∧ W i m σ' H' := fun {σ7 H7} I7 n7 => by
      obtain ⟨m', hm, w7⟩ := hN σ7 H7 n7
      refine ⟨m', hm, i + 1, σ7, H7, I7.unpinned, T.keep _ _ _ st5 fun b hb o e => (I7.pin (b, o) (List.mem_append_right _ (List.mem_append_right _ (HS hb e)))).1, fun b hb => ?_, w7⟩
      obtain ⟨o, e, d⟩ := T.obj _ _ st5 b hb
      exact (I7.pin (b, o) (List.mem_append_right _ (List.mem_append_right _ (HS hb e)))).2.1
    cases f with
    | next => obtain ⟨σ7, H7, I7, n7⟩ := q7; exact again I7 n7
    | cont => obtain ⟨σ7, H7, I7, n7⟩ := q7; exact again I7 n7
    | brk => obtain ⟨σ7, H7, I7, q7⟩ := q7; exact ⟨σ7, H7, I7.unpinned, q7⟩
    | ret v => obtain ⟨x7, σ7, H7, I7, r7, q7⟩ := q7; exact ⟨x7, σ7, H7, I7.unpinned, r7, q7⟩
end
end L2
namespace L2
open PySem PySem.Spec PyProof.Rows
noncomputable abbrev R2 := V → V → Hp → VK → Prop
noncomputable def OpR (X : Cx) (f : Value → Value → Sem Value) (r : R2) : Prop :=
  ∀ (pins : List (Addr × Obj)) (s : Shared) (σ : St) (H : Hp) (x y : V) (v u : Value) (Q : VK), Inv X pins σ H s → RelV x v → RelV y u → r x y H Q →
    wpAny (model X.prog X.w) X.A (f v u) (EP X pins σ Q) X.xe s
noncomputable def UnR (X : Cx) (f : Value → Sem Value) (r : V → Hp → VK → Prop) : Prop :=
  ∀ (pins : List (Addr × Obj)) (s : Shared) (σ : St) (H : Hp) (x : V) (v : Value) (Q : VK), Inv X pins σ H s → RelV x v → r x H Q →
    wpAny (model X.prog X.w) X.A (f v) (EP X pins σ Q) X.xe s
noncomputable def GF (X : Cx) (f : Value) (r : List V → Hp → VK → Prop) : Prop :=
  ∀ (pins : List (Addr × Obj)) (s : Shared) (σ : St) (H : Hp) (xs : List V) (us : List Value) (Q : VK), Inv X pins σ H s → Vals xs us → r xs H Q →
    wpAny (model X.prog X.w) X.A (call f us) (EP X pins σ Q) X.xe s
noncomputable def tOp (r : R2) (ta tb : TE) : TE := fun σ H Q => ta σ H fun x H1 => tb σ H1 fun y H2 => r x y H2 Q
noncomputable def tUn (r : V → Hp → VK → Prop) (ta : TE) : TE := fun σ H Q => ta σ H fun x H1 => r x H1 Q
noncomputable def rI (C : Int → Int → Prop) (g : Int → Int → V) : R2 := fun x y H Q => ∃ i j, x = .int i ∧ y = .int j ∧ C i j ∧ Q (g i j) H
noncomputable def rI0 (g : Int → Int → V) : R2 := fun x y H Q => ∃ i j, x = .int i ∧ y = .int j ∧ Q (g i j) H
noncomputable def rU (g : Int → V) : V → Hp → VK → Prop := fun x H Q => ∃ i, x = .int i ∧ Q (g i) H
section
variable {X : Cx} {a b c : Expr} {ta tb tc : TE} {pos : Pos}
theorem Xk (ha : PE X a ta) (hb : PE X b tb) {pins : List (Addr × Obj)} {s : Shared} {σ : St} {H : Hp} {R : V → V → Hp → Prop} (I : Inv X pins σ H s)
    (h : ta σ H fun x H1 => tb σ H1 fun y H2 => R x y H2) {Q : Value → Shared → Prop} {f : Value → Value → Sem Value}
    (hf : ∀ v u s2 x y H2, Inv X pins σ H2 s2 → RelV x v → RelV y u → R x y H2 → wpAny (model X.prog X.w) X.A (f v u) Q X.xe s2) :
    wpAny (model X.prog X.w) X.A (eval a X.env) (fun v s₁ => wpAny (model X.prog X.w) X.A (eval b X.env) (fun u s₂ => wpAny (model X.prog X.w) X.A (f v u) Q X.xe s₂) X.xe s₁) X.xe s := by
  refine thn (ha pins s σ H _ I h) fun v s1 ⟨x, H1, I1, r1, q1⟩ => ?_
  refine thn (hb pins s1 σ H1 _ I1 q1) fun u s2 ⟨y, H2, I2, r2, q2⟩ => ?_
  exact hf v u s2 x y H2 I2 r1 r2 q2
theorem UL {op : Operator} {r : R2} (ho : OpR X (binaryOp op) r) (ha : PE X a ta) (hb : PE X b tb) : PE X (.BinOp a op b pos) (tOp r ta tb) := by
  intro pins s σ H Q I h
  exact wpAny_BinOp (Xk ha hb I h fun v u s2 x y H2 I2 rx ry q => ho pins s2 σ H2 x y v u Q I2 rx ry q)
theorem Aao {op : UnaryOp} {r : V → Hp → VK → Prop} (ho : UnR X (unaryOp op) r) (ha : PE X a ta) : PE X (.UnaryOp op a pos) (tUn r ta) := by
  intro pins s σ H Q I h
  exact UnaryOp_ (thn (ha pins s σ H _ I h) fun v s1 ⟨x, H1, I1, r1, q1⟩ => ho pins s1 σ H1 x v Q I1 r1 q1)
theorem opI {f : Value → Value → Sem Value} {C : Int → Int → Prop} {g : Int → Int → Int}
    (rule : ∀ (i j : Int) (t u : Tok) (s : Shared) (Q : Value → Shared → Prop) (E : Value → Shared → Prop), C i j → Q (.int (g i j) s.toks) { s with toks := s.toks + 1 } → wpAny (model X.prog X.w) X.A (f (.int i t) (.int j u)) Q E s) :
    OpR X f (rI C fun i j => .int (g i j)) := by
  intro pins s σ H x y v u Q I rx ry h
  obtain ⟨i, j, rfl, rfl, hc, q⟩ := h
  obtain ⟨t, rfl⟩ := rx
  obtain ⟨t', rfl⟩ := ry
  exact rule i j t t' s _ _ hc ⟨.int (g i j), H, I.tok _, ⟨_, rfl⟩, q⟩
theorem Yz {f : Value → Value → Sem Value} {g : Int → Int → Int}
    (rule : ∀ (i j : Int) (t u : Tok) (s : Shared) (Q : Value → Shared → Prop) (E : Value → Shared → Prop), Q (.int (g i j) s.toks) { s with toks := s.toks + 1 } → wpAny (model X.prog X.w) X.A (f (.int i t) (.int j u)) Q E s) :
    OpR X f (rI0 fun i j => .int (g i j)) := by
  intro pins s σ H x y v u Q I rx ry h
  obtain ⟨i, j, rfl, rfl, q⟩ := h
  obtain ⟨t, rfl⟩ := rx
  obtain ⟨t', rfl⟩ := ry
  exact rule i j t t' s _ _ ⟨.int (g i j), H, I.tok _, ⟨_, rfl⟩, q⟩
theorem VG {f : Value → Value → Sem Value} {g : Int → Int → Bool}
    (rule : ∀ (i j : Int) (t u : Tok) (s : Shared) (Q : Value → Shared → Prop) (E : Value → Shared → Prop), Q (.bool (g i j)) s → wpAny (model X.prog X.w) X.A (f (.int i t) (.int j u)) Q E s) :
    OpR X f (rI0 fun i j => .bl (g i j)) := by
  intro pins s σ H x y v u Q I rx ry h
  obtain ⟨i, j, rfl, rfl, q⟩ := h
  obtain ⟨t, rfl⟩ := rx
  obtain ⟨t', rfl⟩ := ry
  exact rule i j t t' s _ _ ⟨.bl (g i j), H, I, rfl, q⟩
noncomputable def La (i j : Int) : Prop := 0 ≤ j ∧ j ≤ 1000000 ∧ i.natAbs < 2 ^ 64
theorem Wy : OpR X (binaryOp .Add) (rI0 fun i j => .int (i + j)) := Yz fun _ _ _ _ _ _ _ q => add_int q
theorem Xe : OpR X (binaryOp .Sub) (rI0 fun i j => .int (i - j)) := Yz fun _ _ _ _ _ _ _ q => sub_int q
theorem Rz : OpR X (binaryOp .Mod) (rI (fun _ j => j ≠ 0) fun i j => .int (i.fmod j)) := opI fun _ _ _ _ _ _ _ hc q => mod_int' hc q
theorem Wi : OpR X (binaryOp .Pow) (rI La fun i j => .int (i ^ j.toNat)) := opI fun _ _ _ _ _ _ _ hc q => pow_int_small hc.1 hc.2.1 hc.2.2 q
theorem W0 : OpR X (binaryOp .LShift) (rI La fun i j => .int (i * 2 ^ j.toNat)) := opI fun _ _ _ _ _ _ _ hc q => lshift_int_small hc.1 hc.2.1 hc.2.2 q
theorem unI {f : Value → Sem Value} {g : Int → Int}
    (rule : ∀ (i : Int) (t : Tok) (s : Shared) (Q : Value → Shared → Prop) (E : Value → Shared → Prop), Q (.int (g i) s.toks) { s with toks := s.toks + 1 } → wpAny (model X.prog X.w) X.A (f (.int i t)) Q E s) :
    UnR X f (rU fun i => .int (g i)) := by
  intro pins s σ H x v Q I rx h
  obtain ⟨i, rfl, q⟩ := h
  obtain ⟨t, rfl⟩ := rx
  exact rule i t s _ _ ⟨.int (g i), H, I.tok _, ⟨_, rfl⟩, q⟩
theorem Wm : UnR X (unaryOp .USub) (rU fun i => .int (-i)) := unI fun _ _ _ _ _ q => neg_int q
end
section
variable {X : Cx} {a b c : Expr} {ta tb tc : TE} {pos : Pos}
theorem Qh : OpR X (compareOp .Lt) (rI0 fun i j => .bl (decide (i < j))) := VG fun _ _ _ _ _ _ _ q => lt_int q
theorem Ur : OpR X (compareOp .LtE) (rI0 fun i j => .bl (decide (i ≤ j))) := VG fun _ _ _ _ _ _ _ q => le_int q
theorem Vd : OpR X (compareOp .Gt) (rI0 fun i j => .bl (decide (j < i))) := VG fun _ _ _ _ _ _ _ q => gt_int q
theorem FP (b : Expr) {op : CmpOp} (h : op ≠ .In := by decide) (h2 : op ≠ .NotIn := by decide) : behindInMarks op b = false := by
  have e1 : (op == CmpOp.In) = false := by cases op <;> first | rfl | exact absurd rfl h
  have e2 : (op == CmpOp.NotIn) = false := by cases op <;> first | rfl | exact absurd rfl h2
  cases b <;> simp [behindInMarks, e1, e2]
theorem QL {op : CmpOp} {r : R2} (ho : OpR X (compareOp op) r) (ha : PE X a ta) (hb : PE X b tb) (hm : behindInMarks op b = false) : PE X (.Compare a [op] [b] pos) (tOp r ta tb) := by
  intro pins s σ H Q I h
  exact wpAny_Compare1 (Xk ha hb I h fun v u s2 x y H2 I2 rx ry q => ho pins s2 σ H2 x y v u Q I2 rx ry q) hm
noncomputable def Zr (t : TE) : TT := fun σ H Q => t σ H fun x H' => ∃ k, x = .bl k ∧ Q k H'
theorem Q0 {op : CmpOp} {r : R2} (ho : OpR X (compareOp op) r) (ha : PE X a ta) (hb : PE X b tb) (hm : behindInMarks op b = false) : PT X (.Compare a [op] [b] pos) (Zr (tOp r ta tb)) := by
  intro pins s σ H Q I h
  refine wpAny_isTrue_Compare1 (thn (ha pins s σ H _ I h) fun v s1 ⟨x, H1, I1, r1, q1⟩ => thn (hb pins s1 σ H1 _ I1 q1) fun u s2 ⟨y, H2, I2, r2, q2⟩ =>
    thn (ho pins s2 σ H2 x y v u _ I2 r1 r2 q2) fun c s3 ⟨z, H3, I3, r3, k, e, q3⟩ => ?_) hm
  subst e
  cases r3
  exact wpAny_truthy_bool ⟨H3, I3, q3⟩
noncomputable def O6 (r r' : R2) (ta tb tc : TE) : TE := fun σ H Q => ta σ H fun x H1 => tb σ H1 fun y H2 => r x y H2 fun z H3 => ∃ k, z = .bl k ∧
  (if k = true then tc σ H3 fun w' H4 => r' y w' H4 Q else Q (.bl false) H3)
theorem NP {op op' : CmpOp} {r r' : R2} (ho : OpR X (compareOp op) r) (ho' : OpR X (compareOp op') r') (ha : PE X a ta) (hb : PE X b tb) (hc : PE X c tc)
    (hm : lastMarks [op, op'] [b, c] = false := by with_unfolding_all rfl) : PE X (.Compare a [op, op'] [b, c] pos) (O6 r r' ta tb tc) := by
  intro pins s σ H Q I h
  refine Compare_chain (thn (ha pins s σ H _ I h) fun v s1 ⟨x, H1, I1, r1, q1⟩ => chain_link (thn (hb pins s1 σ H1 _ I1 q1) fun u s2 ⟨y, H2, I2, r2, q2⟩ =>
    thn (ho pins s2 σ H2 x y v u _ I2 r1 r2 q2) fun d s3 ⟨z, H3, I3, r3, k, e, q3⟩ => ?_)) hm
  subst e
  cases r3
  refine wpAny_truthy_bool ?_
  cases k with
  | false => exact ite_ff ⟨.bl false, H3, I3, rfl, q3⟩
  | true => exact ite_tt (chain_last (thn (hc pins s3 σ H3 _ I3 q3) fun w' s4 ⟨z', H4, I4, r4, q4⟩ => ho' pins s4 σ H4 y z' u w' Q I4 r2 r4 q4))
theorem I9 : (sizeLine : Nat) < 2 ^ 63 := by rw [sizeLine_eq]; decide
theorem vals1 {x : V} {us : List Value} (r : Vals [x] us) : ∃ u, us = [u] ∧ RelV x u := by
  cases r with
  | cons r1 r2 => cases r2; exact ⟨_, rfl, r1⟩
theorem vals2 {x y : V} {us : List Value} (r : Vals [x, y] us) : ∃ u w', us = [u, w'] ∧ RelV x u ∧ RelV y w' := by
  cases r with
  | cons r1 r2 =>
    cases r2 with
    | cons r3 r4 => cases r4; exact ⟨_, _, rfl, r1, r3⟩
theorem Np : GF X (.builtin "abs") (fun xs H Q => ∃ i, xs = [.int i] ∧ Q (.int (if i < 0 then -i else i)) H) := by
  intro pins s σ H xs us Q I r h
  obtain ⟨i, rfl, q⟩ := h
  obtain ⟨u, rfl, t, rfl⟩ := vals1 r
  exact call_abs_int fun u tk => ⟨.int (if i < 0 then -i else i), H, I.tok _, ⟨_, rfl⟩, q⟩
end
end L2
namespace L2
open PySem PySem.Spec PyProof.Rows
theorem MF {h : Heap} {dx : Addr} {mA : Str → Option Value} (n : h.Ns1 dx mA) : ∃ od, h.get? dx = some od ∧ ∀ name, PySem.W.lookIn name od = some (mA name) := by
  obtain ⟨o, es, ep, ho, hd, hk, _, hm⟩ := n
  refine ⟨o, ho, fun name => ?_⟩
  have e := hm name
  unfold nsFind findBy at e
  rw [← Array.find?_toList] at e
  unfold PySem.W.lookIn
  rw [hd]
  dsimp only
  split
  · rename_i y q
    rw [q] at e
    exact congrArg some e
  · rename_i q
    rw [q] at e
    have a : es.toList.any (·.refKey) = false := by
      rw [List.any_eq_false]
      intro y hy
      obtain ⟨z, t, hkey⟩ := hk y (Array.mem_toList_iff.mp hy)
      simp [DictEntry.refKey, hkey]
    have a' : ¬ es.toList.any (·.refKey) = true := by rw [a]; exact Bool.false_ne_true
    rw [if_neg a']
    exact congrArg some e
section
variable {prog : Program} {w : World} {A : Around} {E : Value → Shared → Prop} {s : Shared} {K : PySem.W.Frag} {x dx C f : Addr} {mA : Str → Option Value} {name : Str} {v : Value}
end
theorem J9.some_of {v : V} {o : Option Value} (r : J9 (some v) o) : ∃ u, o = some u ∧ RelV v u := by
  cases o with
  | none => exact (show False from r).elim
  | some u => exact ⟨u, rfl, r⟩
theorem Mz {v : V} {u : Value} (r : RelV v u) : PySem.W.handedIn u = true := by
  cases v with
  | non => cases (show u = Value.none from r); rfl
  | bl b => cases (show u = Value.bool b from r); rfl
  | int i => obtain ⟨t, e⟩ := (show ∃ t, u = Value.int i t from r); cases e; rfl
  | str x => obtain ⟨t, e⟩ := (show ∃ t, u = Value.str x t from r); cases e; rfl
  | byt b => obtain ⟨t, e⟩ := (show ∃ t, u = Value.bytes b t from r); cases e; rfl
  | flt b => obtain ⟨t, e⟩ := (show ∃ t, u = Value.float b t from r); cases e; rfl
  | ref a => cases (show u = Value.ref a from r); rfl
  | ty n => cases (show u = Value.type n from r); rfl
section
variable {P : Program} {w : World} {H H' : Hp} {h h' : Heap} {a C dx : Addr} {fs fs' : List (Str × V)}
end
structure Cls (K : PySem.W.Frag) (C : Addr) : Prop where
  pg : PySem.W.plainGet K C Str.empty = true
  hd : PySem.W.hasDictIn K C = true
  po : PySem.W.plainOver K C = true
  sa : PySem.W.findIn K (.ref C) "__setattr__" = some (some (.builtin "object.__setattr__"))
section
variable {X : Cx} {pins : List (Addr × Obj)} {σ : St} {H : Hp} {s : Shared} {a C dx : Addr} {fs : List (Str × V)} {f : Str} {v : V} {A : Around} {E : Value → Shared → Prop}
theorem Q6 {prog : Program} {w : World} {env : Env} {e : Expr} {f : Str} {pos : Pos} {s : Shared} {Q : Value → Shared → Prop} (hb : attributeBase e f env (eval e env) = eval e env)
    (h : wpAny (model prog w) A (eval e env) (fun o s₁ => wpAny (model prog w) A (getAttr o f true) Q E s₁) E s) : wpAny (model prog w) A (eval (.Attribute e f pos) env) Q E s :=
  Attribute_any_ h (by rw [arm_eval_Attribute, hb])
end
section
variable {X : Cx} {o e value : Expr} {f : Str} {pos pos' tpos : Pos} {ta tv : TE}
end
section
variable {X : Cx} {pins : List (Addr × Obj)} {σ : St} {H : Hp} {s : Shared} {A : Around} {E : Value → Shared → Prop} {Q : Value → Shared → Prop} {c : Value} {b : Bool}
end
end L2
namespace L2
open PySem PySem.Spec PyProof.Rows
structure Ck (k : Nat) (A : Around) : Prop where
  hd : A.handled = none
  dp : A.depth + 3 * k + 5 < recursionLimit
  un : A.units + 16 * k + 200 < cLine
theorem Ck.mono {j k : Nat} {A : Around} (r : Ck k A) (h : j ≤ k) : Ck j A := ⟨r.hd, by have := r.dp; omega, by have := r.un; omega⟩
theorem Ck.deeper {k : Nat} {A : Around} (r : Ck (k + 1) A) (env : Env) : Ck k (A.deeper env) :=
  ⟨r.hd, by have := r.dp; show A.depth + 1 + 3 * k + 5 < _; omega, by have := r.un; show A.units + 3 + 16 * k + 200 < _; omega⟩
theorem K7 {A : Around} {C : Addr} {us : List Value} {kw : List (Str × Value)} : (A.under (.builtin "type.__call__" ⟨.ref C :: us, kw⟩)).depth = A.depth + 1 := by
  first | rfl | simp [Around.under, Code.weight, Code.isCreation, Code.isGuard, Code.isCaller, Code.frames, Code.isFrame, guardIds]
theorem Kw {A : Around} {C : Addr} {us : List Value} {kw : List (Str × Value)} : (A.under (.builtin "type.__call__" ⟨.ref C :: us, kw⟩)).units = A.units + 1 := by
  first | rfl | simp [Around.under, Code.cUnits, Code.frames, Code.isFrame]
theorem Ck.make {k : Nat} {A : Around} (r : Ck (k + 1) A) (C : Addr) (us : List Value) (kw : List (Str × Value)) : Ck k (A.under (.builtin "type.__call__" ⟨.ref C :: us, kw⟩)) :=
  ⟨r.hd, by have := r.dp; rw [K7]; omega, by have := r.un; rw [Kw]; omega⟩
theorem Ck.depth {k : Nat} {A : Around} (r : Ck k A) : A.depth < recursionLimit := by have := r.dp; omega
theorem Ck.units {k : Nat} {A : Around} (r : Ck k A) : A.units + 64 < cLine := by have := r.un; omega
noncomputable def Ab3 : TA := fun _ H Q => Q [] H
noncomputable def Xw (ta : TE) (tr : TA) : TA := fun σ H Q => ta σ H fun x H1 => tr σ H1 fun xs H2 => Q (x :: xs) H2
section
variable {X : Cx} {e : Expr} {es : List Expr} {te : TE} {t : TA} {pos : Pos}
theorem Js : PA X [] Ab3 := fun _ _ _ _ H Q I h => Calls.spliced_nil ⟨[], H, I, .nil, h⟩
theorem Ek (ha : PE X e te) (hr : PA X es t) (hs : starEach (e :: es) X.env = (false, eval e X.env) :: starEach es X.env := by rfl) : PA X (e :: es) (Xw te t) := by
  intro pos pins s σ H Q I h
  rw [hs]
  show wpAny _ _ (spliced ((false, eval e X.env) :: backTo pos (starEach es X.env))) _ _ s
  refine Calls.spliced_cons (thn (ha pins s σ H _ I h) fun u s1 ⟨x, H1, I1, r1, q1⟩ => ?_)
  exact thn (hr pos pins s1 σ H1 _ I1 q1) fun us s2 ⟨xs, H2, I2, r2, q2⟩ => ⟨x :: xs, H2, I2, .cons r1 r2, q2⟩
noncomputable def Acr (t : TA) : TE := fun σ H Q => t σ H fun xs H1 => xs.length ≤ sizeLine ∧ ∀ p, H1 p = none → Q (.ref p) (upd H1 p (.tup xs))
noncomputable def Abr (t : TA) : TE := fun σ H Q => t σ H fun xs H1 => xs.length ≤ sizeLine ∧ ∀ p, H1 p = none → Q (.ref p) (upd H1 p (.lst xs))
theorem Wf {x1} (h : PA X es t) : PE X (.Tuple es x1 pos) (Acr t) := by
  intro pins s σ H Q I hq
  refine wpAny_Tuple_spliced (thn (h pos pins s σ H _ I hq) fun us s1 ⟨xs, H1, I1, r, z, q⟩ => ⟨by rw [← r.length]; exact z, ?_⟩)
  have hf : H1 s1.heap.objs.size = none := I1.hok.fresh (Nat.le_refl _)
  refine ⟨.ref s1.heap.objs.size, upd H1 s1.heap.objs.size (.tup xs), I1.laid (t' := s1.toks) (fun b u e => Heap.get?_push_of_some _ e) (Nat.le_refl _) ?_, rfl, q _ hf⟩
  exact ⟨z, us, r, ⟨_, Heap.get?_push_size _ rfl, rfl, _, rfl⟩⟩
theorem Nr (h : PA X es t) : PE X (.List es pos) (Abr t) := by
  intro pins s σ H Q I hq
  refine wpAny_List_spliced (thn (h pos pins s σ H _ I hq) fun us s1 ⟨xs, H1, I1, r, z, q⟩ => ⟨by rw [← r.length]; exact z, ?_⟩)
  have hf : H1 s1.heap.objs.size = none := I1.hok.fresh (Nat.le_refl _)
  refine ⟨.ref s1.heap.objs.size, upd H1 s1.heap.objs.size (.lst xs), I1.laid (t' := s1.toks) (fun b u e => Heap.get?_push_of_some _ e) (Nat.le_refl _) ?_, rfl, q _ hf⟩
  exact ⟨z, us, 0, r, Heap.get?_push_size _ rfl⟩
end
noncomputable abbrev Sp := List V → Hp → VK → XK → Prop
noncomputable abbrev CXT := List Env → Hp → Shared → XK → Value → Shared → Prop
structure Le (P : Program) (w : World) (K : PySem.W.Frag) (mg : Str → Option Value) (base : Heap) (A : Around) (outer : List Env) (s : Shared) (H : Hp) : Prop where
  frames : A.frames = some outer
  mod : Mod K mg base
  bs : ∀ b o, base.get? b = some o → s.heap.get? b = some o ∧ H b = none
  bsz : base.objs.size ≤ s.heap.objs.size
  funs : s.heap.FunFrames base outer
  frf : ∀ b ∈ frs outer, H b = none
  hok : HOk P w H s.heap
  bare : AllBare s.gens
noncomputable def CE (outer : List Env) (P : Program) (w : World) (H : Hp) (s : Shared) (Q : VK) (u : Value) (s' : Shared) : Prop :=
  ∃ v H', s'.os = s.os ∧ AllBare s'.gens ∧ Un (frs outer) [] H H' s.heap s'.heap ∧ HOk P w H' s'.heap ∧ RelV v u ∧ Q v H'
noncomputable def CR (CX : CXT) (outer : List Env) (P : Program) (w : World) (H : Hp) (s : Shared) (Q : VK) (E : XK) (r : Result) (s' : Shared) : Prop :=
  match r with
  | .ok (.ret u) => CE outer P w H s Q u s'
  | .ok _ => False
  | .error e => CX outer H s E e s'
structure DY (P : Program) (w : World) (K : PySem.W.Frag) (mg : Str → Option Value) (base : Heap) (CX : CXT) (k : Nat) (f : Addr) (fd : FuncData) (ps : List Str) (sp : Sp) : Prop where
  len : ∀ vs H Q E, sp vs H Q E → vs.length = ps.length
  run : ∀ (A : Around) (outer : List Env) (s : Shared) (H : Hp) (args : Args) (us : List Value) (vs : List V) (Q : VK) (E : XK), Ck k A → Le P w K mg base A outer s H → BindsTo s fd args (ps.zip us) → Vals vs us → sp vs H Q E →
    codeAny (model P w) A (.call (.ref f) args) (CR CX outer P w H s Q E) s
theorem Le.make {P : Program} {w : World} {K : PySem.W.Frag} {mg : Str → Option Value} {base : Heap} {A : Around} {outer : List Env} {s : Shared} {H : Hp} (e : Le P w K mg base A outer s H) (C : Addr) (us : List Value) (kw : List (Str × Value)) :
    Le P w K mg base (A.under (.builtin "type.__call__" ⟨.ref C :: us, kw⟩)) outer s H := ⟨by first | exact e.frames | (simpa [Around.under, Code.envs, Code.isFrame, pushEnvs] using e.frames), e.mod, e.bs, e.bsz, e.funs, e.frf, e.hok, e.bare⟩
section
variable {X : Cx} {pins : List (Addr × Obj)} {σ : St} {H : Hp} {s s' : Shared}
theorem Inv.env0 (I : Inv X pins σ H s) : Le X.prog X.w X.K X.mg X.base X.A X.stack s H :=
  ⟨I.ok.frames, I.ok.mod, I.bs, Nat.le_trans I.ok.bsz I.sz, I.stack, I.stkFree, I.hok, I.bare⟩
theorem Inv.after {Q : VK} {u : Value} (I : Inv X pins σ H s) (h : CE X.stack X.prog X.w H s Q u s') : EP X pins σ Q u s' := by
  obtain ⟨v, H', os, bare, un, hok, r, q⟩ := h
  obtain ⟨hh, g, d, t, os'⟩ := s'
  obtain rfl : os' = s.os := os
  exact ⟨v, H', I.call (h' := hh) (g' := g) (d' := d) (t' := t) (ch := []) un hok bare (fun b z => absurd z (by simp)), r, q⟩
end
noncomputable def YF (sp : Sp) (dvs : List V) (E : XK) (t : TA) : TE := fun σ H Q => t σ H fun vs H1 => sp (vs ++ dvs) H1 Q E
noncomputable def Binds (K : PySem.W.Frag) (fd : FuncData) (ps : List Str) (ds : List Value) : Prop :=
  ∀ (s : Shared) (us : List Value), K.In s.heap → (us ++ ds).length = ps.length → BindsTo s fd ⟨us, []⟩ (ps.zip (us ++ ds))
theorem Binds.all {K : PySem.W.Frag} {fd : FuncData} {ps : List Str} (h : ∀ us : List Value, us.length = ps.length → bindArgs fd ⟨us, []⟩ = pure (ps.zip us)) : Binds K fd ps [] := fun s us _ hl => by
  rw [List.append_nil] at hl ⊢
  exact .of_eq (h us hl)
noncomputable def Passes (CX : CXT) (X : Cx) (E : XK) : Prop := ∀ (pins : List (Addr × Obj)) (σ : St) (H : Hp) (s : Shared) (e : Value) (s' : Shared), Inv X pins σ H s → CX X.stack H s E e s' → X.xe e s'
section
variable {X : Cx} {CX : CXT} {k : Nat} {f C : Addr} {fd : FuncData} {ps : List Str} {sp : Sp} {dvs : List V} {ds : List Value} {E : XK} {x m : Str} {p pos apos : Pos} {e o : Expr} {es : List Expr} {ta : TE} {t : TA}
theorem V6 {pins : List (Addr × Obj)} {σ : St} {H : Hp} {s : Shared} {Q : VK} {us : List Value} {vs : List V} (F : DY X.prog X.w X.K X.mg X.base CX k f fd ps sp) (hr : Ck k X.A) (hb : Binds X.K fd ps ds) (hd : Vals dvs ds) (hx : Passes CX X E)
    (I : Inv X pins σ H s) (r : Vals vs us) (h : sp (vs ++ dvs) H Q E) : wpAny (model X.prog X.w) X.A (call (.ref f) us) (EP X pins σ Q) X.xe s := by
  have r2 : Vals (vs ++ dvs) (us ++ ds) := r.append hd
  have hl : (us ++ ds).length = ps.length := by rw [← r2.length]; exact F.len _ _ _ _ h
  refine wpAny_call (codeAny_mono (F.run X.A X.stack s H ⟨us, []⟩ (us ++ ds) (vs ++ dvs) Q E hr I.env0 (hb s us I.kIn hl) r2 h) fun r s' hq => ?_)
  cases r with
  | error e => exact hx pins σ H s e s' I hq
  | ok fl =>
    cases fl with
    | ret u => exact I.after hq
    | next => exact False.elim hq
    | brk => exact False.elim hq
    | cont => exact False.elim hq
theorem Qq (F : DY X.prog X.w X.K X.mg X.base CX k f fd ps sp) (hr : Ck k X.A) (hg : Gl X x) (hm : X.mg x = some (.ref f)) (hk : PySem.W.keepIn X.K (.ref f) = true) (hb : Binds X.K fd ps ds) (hd : Vals dvs ds) (hx : Passes CX X E)
    (ha : PA X (e :: es) t) (hdb : (x == ("__debug__" : Str)) = false := by decide) (he : starEach (e :: es) X.env = (false, eval e X.env) :: starEach es X.env := by rfl) (hpl : (backTo pos (starEach es X.env)).any (·.1) = false := by rfl) :
    PE X (.Call (.Name x p) (e :: es) [] pos) (YF sp dvs E t) := by
  intro pins s σ H Q I h
  refine wpAny_Call_Name_kw (Ft I hg hm ?_ hdb)
  refine PySem.W.callWith_K (h₀ := X.base) I.ok.mod.kin hk (thn (ha pos pins s σ H _ I h) fun us s1 ⟨vs, H1, I1, r, q⟩ => ⟨I1.kIn, ?_⟩) he hpl
  exact V6 F hr hb hd hx I1 r q
end
section
variable {X : Cx} {CX : CXT} {k : Nat} {f C : Addr} {fd : FuncData} {ps ks : List Str} {sp : Sp} {E : XK} {x m : Str} {p pos apos kpos : Pos} {e o : Expr} {es : List Expr} {kws : List Keyword} {te ta : TE} {t tk : TA} {nm : Option Str}
variable {g : List Value → List Value → List Value} {gV : List V → List V → List V}
end
structure Al (N P : List Str) (sc : Scope) : Prop where
  kind : sc.kind = .function
  co : sc.isCoroutine = false
  gen : sc.isGenerator = false
  nd : N.Nodup
  pre : N.take P.length = P
  par : ∀ x ∈ P, sc.names.lookup x = some .local ∨ sc.names.lookup x = some .cell
  nofree : ∀ y ∈ sc.names, y.2 ≠ .free
theorem Ii {kindOf : Str → Option NameKind} {x : Str} : ∀ {binds : List (Str × Value)} {m : Str → Option Value}, (∀ v, (x, v) ∉ binds) → bindL kindOf binds m x = m x
  | [], _, _ => rfl
  | (n, v) :: r, m, h => by
    unfold bindL
    rw [Ii fun w hw => h w (List.mem_cons_of_mem _ hw)]
    split
    · have : x ≠ n := by rintro rfl; exact h v List.mem_cons_self
      simp [this]
    · rfl
theorem Ie {kindOf : Str → Option NameKind} {x : Str} : ∀ {binds : List (Str × Value)} {m : Str → Option Value}, (∀ v, (x, v) ∉ binds) → bindC kindOf binds m x = m x
  | [], _, _ => rfl
  | (n, v) :: r, m, h => by
    unfold bindC
    rw [Ie fun w hw => h w (List.mem_cons_of_mem _ hw)]
    split
    · rfl
    · have : x ≠ n := by rintro rfl; exact h v List.mem_cons_self
      simp [this]
theorem Il {kindOf : Str → Option NameKind} {x : Str} {v : Value} : ∀ {P : List Str} {vs : List Value} {i : Nat} {m : Str → Option Value}, P.Nodup → P[i]? = some x → vs[i]? = some v → kindOf x = some .local →
    bindL kindOf (P.zip vs) m x = some v
  | [], _, _, _, _, h, _, _ => by simp at h
  | _ :: _, [], _, _, _, _, h, _ => by simp at h
  | p :: P, w :: vs, 0, m, nd, h1, h2, hk => by
    simp at h1 h2; subst h1; subst h2
    show bindL kindOf ((p, w) :: P.zip vs) m p = _
    unfold bindL
    rw [Ii fun v hv => (List.nodup_cons.mp nd).1 (List.of_mem_zip hv).1, if_pos hk]
    simp
  | p :: P, w :: vs, i + 1, m, nd, h1, h2, hk => by
    show bindL kindOf ((p, w) :: P.zip vs) m x = _
    unfold bindL
    exact Il (i := i) (List.nodup_cons.mp nd).2 (by simpa using h1) (by simpa using h2) hk
theorem Ib {kindOf : Str → Option NameKind} {x : Str} {v : Value} : ∀ {P : List Str} {vs : List Value} {i : Nat} {m : Str → Option Value}, P.Nodup → P[i]? = some x → vs[i]? = some v → kindOf x ≠ some .local →
    bindC kindOf (P.zip vs) m x = some v
  | [], _, _, _, _, h, _, _ => by simp at h
  | _ :: _, [], _, _, _, _, h, _ => by simp at h
  | p :: P, w :: vs, 0, m, nd, h1, h2, hk => by
    simp at h1 h2; subst h1; subst h2
    show bindC kindOf ((p, w) :: P.zip vs) m p = _
    unfold bindC
    rw [Ie fun v hv => (List.nodup_cons.mp nd).1 (List.of_mem_zip hv).1, if_neg hk]
    simp
  | p :: P, w :: vs, i + 1, m, nd, h1, h2, hk => by
    show bindC kindOf ((p, w) :: P.zip vs) m x = _
    unfold bindC
    exact Ib (i := i) (List.nodup_cons.mp nd).2 (by simpa using h1) (by simpa using h2) hk
noncomputable def start (N : List Str) (vs : List V) : St := vs.map some ++ List.replicate (N.length - vs.length) none
noncomputable def Jc (CX : CXT) (P : Program) (w : World) (K : PySem.W.Frag) (mg : Str → Option Value) (base : Heap) (N : List Str) (qual : Str) (scope : Scope) (f : Addr) (cd : Value) (A : Around) (outer : List Env) (s : Shared) (H : Hp) (E : XK) : Cx where
  prog := P
  w := w
  K := K
  mg := mg
  base := base
  A := A.deeper (envOfC qual scope s.heap.objs.size f cd)
  N := N
  s₀ := s
  H₀ := H
  env := envOfC qual scope s.heap.objs.size f cd
  outer := outer
  stack := envOfC qual scope s.heap.objs.size f cd :: outer
  ex := []
  calm := true
  fn := fun _ => true
  pn := []
  xe := fun e s' => wpAny (model P w) (A.deeper (envOfC qual scope s.heap.objs.size f cd)) (leaving (envOfC qual scope s.heap.objs.size f cd) e) (fun _ s'' => CX outer H s E e s'') (fun e' s'' => CX outer H s E e' s'') s'
theorem Ks {sc : Scope} {n : Nat} {x : Str} (h : sc.names.lookup x = some .cell) : ∃ c, (cellsFrom n sc.names []).lookup x = some c := by
  have q := PySem.W.cellsFrom_some sc.names n [] (.inl h)
  exact Option.isSome_iff_exists.mp q
theorem Ma {CX : CXT} {P : Program} {w : World} {K : PySem.W.Frag} {mg : Str → Option Value} {base : Heap} {N ps : List Str} {qual : Str} {scope : Scope} {f : Addr} {cd : Value} {A : Around} {outer : List Env} {s s1 : Shared} {H : Hp} {E : XK} {us : List Value} {vs : List V}
    (S : Al N ps scope) (hd : A.handled = none) (e0 : Le P w K mg base A outer s H) (hl : vs.length = ps.length) (r : Vals vs us)
    (x : InCallC s s.heap.objs.size (bindL (envOfC qual scope s.heap.objs.size f cd).kindOf (ps.zip us) fun _ => none) (cellsFrom (s.heap.objs.size + 1) scope.names []) (bindC (envOfC qual scope s.heap.objs.size f cd).kindOf (ps.zip us) fun _ => none) s1) :
    Inv (Jc CX P w K mg base N qual scope f cd A outer s H E) [] (start N vs) H s1 := by
  have hpl : ps.length ≤ N.length := by have := congrArg List.length S.pre; rw [List.length_take] at this; omega
  obtain ⟨h1, tk, rfl, hk⟩ := x.done
  have noA : ∀ b : Addr, b ∉ (Jc CX P w K mg base N qual scope f cd A outer s H E).ex := fun b z => absurd (show b ∈ ([] : List Addr) from z) (by simp)
  refine ⟨⟨e0.mod, S.kind, rfl, rfl, Nat.le_refl _, fun y z c h1 h2 => ?_, fun y hy => ?_, fun y c _ h => ?_, fun _ => hd, Around.frames_deeper e0.frames, .inr ⟨rfl, rfl⟩, fun b z => absurd z (noA b), e0.bs, e0.bsz, fun b _ _ => noA b, fun b z => absurd z (noA b), e0.funs, e0.frf⟩,
    rfl, e0.bare, Un.kept hk, ⟨_, x.toInCall.ns, fun i y v h1 h2 h3 => ?_⟩, fun y c h => ⟨_, x.cell y c h⟩, e0.hok.fresh (Nat.le_refl _), fun y c h => ?_, fun p hp => absurd (show p ∈ ([] : List (Addr × Obj)) from hp) (by simp), e0.hok.kept hk, ?_⟩
  · exact name_of_addr x.apart (PySem.mem_of_lookup h1) (PySem.mem_of_lookup h2)
  · have hy : scope.names.lookup y = some .cell ∨ scope.names.lookup y = some .free := hy
    rcases hy with hy | hy
    · exact Ks hy
    · exact absurd rfl (S.nofree _ (PySem.mem_of_lookup hy))
  · exact Nat.le_of_lt (x.above y c (PySem.mem_of_lookup h))
  · have hi : i < vs.length := by
      unfold start at h2
      by_cases hi : i < vs.length
      · exact hi
      · rw [List.getElem?_append_right (by simpa using hi)] at h2
        rw [List.getElem?_replicate] at h2
        split at h2 <;> cases h2
    have ha : vs[i]? = some v := by
      unfold start at h2
      rw [List.getElem?_append_left (by simpa using hi), List.getElem?_map] at h2
      cases e : vs[i]? with
      | none => rw [e] at h2; cases h2
      | some a => rw [e] at h2; cases h2; rfl
    obtain ⟨u, hu, rv⟩ := r.get ha
    have hp : ps[i]? = some y := by
      rw [← S.pre, List.getElem?_take_of_lt (by omega)]; exact h1
    have ndP : ps.Nodup := by rw [← S.pre]; exact S.nd.sublist (List.take_sublist _ _)
    refine ⟨u, rv, ?_⟩
    rcases S.par y (List.mem_of_getElem? hp) with k | k
    · exact .inl ⟨k, Il ndP hp hu k⟩
    · obtain ⟨c, e⟩ := Ks (n := s.heap.objs.size + 1) k
      refine .inr ⟨.inl k, c, e, ?_⟩
      have q := x.cell y c e
      rw [Ib ndP hp hu (by show scope.names.lookup y ≠ _; rw [k]; decide)] at q
      exact q
  · exact e0.hok.fresh (Nat.le_of_lt (x.above y c (PySem.mem_of_lookup h)))
  · unfold start
    show _ = N.length
    rw [List.length_append, List.length_map, List.length_replicate]
    omega
theorem Uq {CX : CXT} {P : Program} {w : World} {K : PySem.W.Frag} {mg : Str → Option Value} {base : Heap} {k : Nat} {f : Addr} {name qual : Str} {params : Arguments} {body : List Stmt} {scope : Scope} {dV kV doc pm cdv ct oc : Value} {an od : Option Addr}
    {osl : Array (Option Value)} {N ps : List Str} {sp : Sp} (lk : K.lookup f = some ⟨oc, od, .func (PySem.W.fnOf name qual params body scope dV kV doc pm an cdv ct), osl⟩) (hcd : PySem.W.codeIn K cdv qual = true) (S : Al N ps scope)
    (len : ∀ vs H Q E, sp vs H Q E → vs.length = ps.length)
    (hbody : ∀ (A : Around) (outer : List Env) (s : Shared) (H : Hp) (vs : List V) (Q : VK) (E : XK), Ck k (A.deeper (envOfC qual scope s.heap.objs.size f cdv)) → sp vs H Q E →
      ∃ t, PSs (Jc CX P w K mg base N qual scope f cdv A outer s H E) body t ∧ t { nx := fun _ H' => Q .non H', rt := Q } (start N vs) H) :
    DY P w K mg base CX (k + 1) f (PySem.W.fnOf name qual params body scope dV kV doc pm an cdv ct) ps sp := by
  refine ⟨len, fun A outer s H args us vs Q E hr e0 hb r hsp => ?_⟩
  have hl := len _ _ _ _ hsp
  have KX : K.In s.heap := e0.mod.kin.keeps fun b o e => (e0.bs b o e).1
  have lim : s.heap.NoLimit := e0.mod.nolimit.keeps fun b o e => (e0.bs b o e).1
  have hkind : ∀ y ∈ ps.zip us, scope.names.lookup y.1 = some .local ∨ (scope.names.lookup y.1 = some .cell ∧ ((cellsFrom (s.heap.objs.size + 1) scope.names []).lookup y.1).isSome = true) := fun ⟨n, v⟩ hy => by
    rcases S.par n (List.of_mem_zip hy).1 with q | q
    · exact .inl q
    · exact .inr ⟨q, PySem.W.cellsFrom_some _ _ _ (.inl q)⟩
  refine codeAny_call_function hr.depth (KX _ _ lk) rfl S.co S.gen rfl (PySem.W.codeRec_of KX hcd) (hb _ _ _ _ ?_)
  refine wpAny_newFunctionEnv_cells S.kind hkind fun env he s1 x => ?_
  subst he
  refine ⟨lim.keeps x.toInCall.keep, codeAny_func ?_⟩
  obtain ⟨t, ht, hq⟩ := hbody A outer s H vs Q E (hr.deeper _) hsp
  have I : Inv (Jc CX P w K mg base N qual scope f cdv A outer s H E) [] (start N vs) H s1 := Ma S hr.hd e0 hl r x
  refine wpAny_mono (ht [] s1 (start N vs) H _ I hq) (fun fl s' hs => ?_) fun e s' hs => hs
  have fin : ∀ {σ' : St} {H' : Hp} {v : V} {u : Value}, Inv (Jc CX P w K mg base N qual scope f cdv A outer s H E) [] σ' H' s' → RelV v u → Q v H' → CE outer P w H s Q u s' :=
    fun {σ' H' v u} J rv q => ⟨v, H', J.os, J.bare, J.base, J.hok, rv, q⟩
  cases fl with
  | ret u =>
    obtain ⟨v, σ', H', J, rv, q⟩ := hs
    exact fin J rv q
  | next =>
    obtain ⟨σ', H', J, q⟩ := hs
    exact fin (v := V.non) (u := Value.none) J rfl q
  | brk =>
    obtain ⟨_, _, _, q⟩ := hs
    exact False.elim q
  | cont =>
    obtain ⟨_, _, _, q⟩ := hs
    exact False.elim q
end L2
namespace L2
open PySem PySem.Spec PyProof.Rows
section
variable {X : Cx} {x : Str} {p pos : Pos} {e : Expr} {es : List Expr} {t : TA} {id T : String} {r : List V → Hp → VK → Prop}
noncomputable def tCB (r : List V → Hp → VK → Prop) (t : TA) : TE := fun σ H Q => t σ H fun vs H1 => r vs H1 Q
theorem Gn (hc : GF X (.builtin id) r) (hg : Gl X x) (hm : X.mg x = none) (hv : bootBuiltins x = some (.builtin id)) (ha : PA X (e :: es) t) (hn : x ≠ "__name__" := by decide) (hdb : (x == ("__debug__" : Str)) = false := by decide)
    (he : starEach (e :: es) X.env = (false, eval e X.env) :: starEach es X.env := by rfl) (hpl : (backTo pos (starEach es X.env)).any (·.1) = false := by rfl) : PE X (.Call (.Name x p) (e :: es) [] pos) (tCB r t) := by
  intro pins s σ H Q I h
  refine wpAny_Call_Name_kw (Oq I hg hm hv ?_ hn hdb)
  exact PyProof.Rows.callWith_builtin1 (thn (ha pos pins s σ H _ I h) fun us s1 ⟨vs, H1, I1, r1, q1⟩ => hc pins s1 σ H1 vs us Q I1 r1 q1) he hpl
end
end L2
namespace HT
open PySem PyProof.Rows
section
open PySem.SeqAt
open PySem.AutoSeq1 (wpAny_loadPart')
open PySem.MeetsSeq PySem.MeetsSeq2 PySem.MeetsSeq3
end
section
variable {prog : Program} {w : World} {A : Around} {E : Value → Shared → Prop} {s : Shared}
noncomputable def sIx (n d : Nat) : Option Int → Nat
  | none => d
  | some v => if v < 0 then (v + (n : Int)).toNat else min v.toNat n
end
end HT
namespace L2
open PySem PySem.Spec PyProof.Rows
noncomputable abbrev TO := St → Hp → (Option Int → Hp → Prop) → Prop
noncomputable def PO (X : Cx) (e : Option Expr) (t : TO) : Prop :=
  ∀ (pins : List (Addr × Obj)) (s : Shared) (σ : St) (H : Hp) (Q : Option Int → Hp → Prop), Inv X pins σ H s → t σ H Q →
    wpAny (model X.prog X.w) X.A (evalPart e X.env) (fun u s' => ∃ o H', Inv X pins σ H' s' ∧ IsPart u o ∧ Q o H') X.xe s
noncomputable def Yl (t : TE) : TO := fun σ H Q => t σ H fun x H1 => ∃ i, x = .int i ∧ Q (some i) H1
section
variable {X : Cx} {e : Expr} {te : TE} {lo hi : Option Expr} {tl th : TO} {pos p2 : Pos}
theorem Tg (h : PE X e te) : PO X (some e) (Yl te) := by
  intro pins s σ H Q I hw
  rw [evalPart_some]
  refine thn (h pins s σ H _ I hw) fun u s1 ⟨x, H1, I1, r1, q1⟩ => ?_
  obtain ⟨i, rfl, q⟩ := q1
  obtain ⟨t, rfl⟩ := r1
  exact ⟨some i, H1, I1, .int i t, q⟩
noncomputable def SlR (X : Cx) (r : V → Option Int → Option Int → Hp → VK → Prop) : Prop :=
  ∀ (pins : List (Addr × Obj)) (s : Shared) (σ : St) (H : Hp) (x : V) (v vl vu : Value) (lo hi : Option Int) (sl : Addr) (Q : VK), Inv X pins σ H s → RelV x v → s.heap.IsSliceOf sl vl vu .none → IsPart vl lo → IsPart vu hi → r x lo hi H Q →
    ∃ T id, typeLookup (.type T) "__getitem__" = pure (some (.builtin id)) ∧ s.TypeIs v T ∧ wpAny (model X.prog X.w) X.A (getItem v (.ref sl)) (EP X pins σ Q) X.xe s
noncomputable def tSl (r : V → Option Int → Option Int → Hp → VK → Prop) (te : TE) (tl th : TO) : TE := fun σ H Q => te σ H fun x H1 => tl σ H1 fun l H2 => th σ H2 fun u H3 => r x l u H3 Q
theorem Oe {r : V → Option Int → Option Int → Hp → VK → Prop} (hr : SlR X r) (he : PE X e te) (hl : PO X lo tl) (hu : PO X hi th) : PE X (.Subscript e (.Slice lo hi none p2) pos) (tSl r te tl th) := by
  intro pins s σ H Q I h
  refine Subscript_ (thn (he pins s σ H _ I h) fun v s1 ⟨x, H1, I1, r1, q1⟩ => ?_)
  refine wpAny_Slice (thn (hl pins s1 σ H1 _ I1 q1) fun vl s2 ⟨l, H2, I2, pl, q2⟩ => thn (hu pins s2 σ H2 _ I2 q2) fun vu s3 ⟨u, H3, I3, pu, q3⟩ => ?_)
  rw [evalPart_none]
  refine wpAny_pure ?_
  have I4 : Inv X pins σ H3 { s3 with heap := s3.heap.push { cls := .type "slice", data := .fields #[vl, vu, .none] } } := I3.kept (t' := s3.toks) fun b ob q => Heap.get?_push_of_some _ q
  obtain ⟨T, id, hT, ht, hg⟩ := hr pins { s3 with heap := s3.heap.push { cls := .type "slice", data := .fields #[vl, vu, .none] } } σ H3 x v vl vu l u s3.heap.objs.size Q I4 r1 (Heap.IsSliceOf.new ..) pl pu q3
  show wpAny (model X.prog X.w) X.A (subscriptTail e (.Slice lo hi none p2) v (.ref s3.heap.objs.size)) (EP X pins σ Q) X.xe { s3 with heap := s3.heap.push { cls := .type "slice", data := .fields #[vl, vu, .none] } }
  exact tail_any (ops := [.ref s3.heap.objs.size, v]) ht hT hg (by with_unfolding_all rfl)
noncomputable def Mv (xs : List V) (lo hi : Option Int) : List V := (xs.drop (HT.sIx xs.length 0 lo)).take (HT.sIx xs.length xs.length hi - HT.sIx xs.length 0 lo)
theorem JW (xs : List V) (lo hi : Option Int) : (Mv xs lo hi).length ≤ xs.length := by
  unfold Mv
  rw [List.length_take, List.length_drop]
  omega
end
end L2
namespace L2
open PySem PySem.Spec PyProof.Rows
noncomputable def ixN (n : Nat) (i : Int) : Option Nat := if 0 ≤ i then (if i < n then some i.toNat else none) else if -(n : Int) ≤ i then some (i + n).toNat else none
noncomputable def atI {α : Type} (xs : List α) (i : Int) : Option α := (ixN xs.length i).bind fun j => xs[j]?
theorem Qz {n : Nat} {i : Int} {j : Nat} (h : ixN n i = some j) : seqIndex? i n = some j ∧ j < n ∧ -(n : Int) ≤ i ∧ i < n := by
  unfold ixN at h
  by_cases h0 : 0 ≤ i
  · rw [if_pos h0] at h
    by_cases h1 : i < n
    · rw [if_pos h1] at h
      have e : i.toNat = j := Option.some.inj h
      exact ⟨by rw [seqIndex_of h0 h1, e], by omega, by omega, h1⟩
    · rw [if_neg h1] at h; cases h
  · rw [if_neg h0] at h
    by_cases h1 : -(n : Int) ≤ i
    · rw [if_pos h1] at h
      have e : (i + n).toNat = j := Option.some.inj h
      exact ⟨by rw [seqIndex_neg (by omega) h1, e], by omega, h1, by omega⟩
    · rw [if_neg h1] at h; cases h
theorem JD {α : Type} {xs : List α} {i : Int} {v : α} (h : atI xs i = some v) : ∃ j, seqIndex? i xs.length = some j ∧ xs[j]? = some v ∧ j < xs.length ∧ -(xs.length : Int) ≤ i ∧ i < xs.length := by
  unfold atI at h
  cases e : ixN xs.length i with
  | none => rw [e] at h; cases h
  | some j =>
    rw [e] at h
    obtain ⟨h1, h2, h3, h4⟩ := Qz e
    exact ⟨j, h1, h, h2, h3, h4⟩
theorem Sg {α : Type} {xs : List α} {j : Nat} {v : α} (h : xs[j]? = some v) : atI xs (j : Int) = some v := by
  have hj : j < xs.length := (List.getElem?_eq_some_iff.mp h).1
  have e : ixN xs.length (j : Int) = some j := by
    unfold ixN
    rw [if_pos (by omega), if_pos (by omega)]; simp
  unfold atI; rw [e]; exact h
noncomputable def JF (b : Expr) : Prop := ∀ o i, subscripted b false o i = operate [o, i] (getItem o i)
noncomputable def IxR (X : Cx) (r : R2) : Prop :=
  ∀ (value slice : Expr) (pins : List (Addr × Obj)) (s : Shared) (σ : St) (H : Hp) (x y : V) (v u : Value) (Q : VK), Inv X pins σ H s → RelV x v → RelV y u → r x y H Q →
    subscripted slice false v u = operate [v, u] (getItem v u) → wpAny (model X.prog X.w) X.A (subscriptTail value slice v u) (EP X pins σ Q) X.xe s
noncomputable def MtR (X : Cx) (id : String) (r : V → List V → Hp → VK → Prop) : Prop :=
  ∀ (pins : List (Addr × Obj)) (s : Shared) (σ : St) (H : Hp) (x : V) (xs : List V) (v : Value) (us : List Value) (Q : VK), Inv X pins σ H s → RelV x v → Vals xs us → r x xs H Q →
    wpAny (model X.prog X.w) X.A (call (.builtin id) (v :: us)) (EP X pins σ Q) X.xe s
section
variable {X : Cx} {a b : Expr} {ta tb : TE} {pos : Pos}
theorem IxR.or {r r' : R2} (h : IxR X r) (h' : IxR X r') : IxR X (fun x y H Q => r x y H Q ∨ r' x y H Q) := by
  intro value slice pins s σ H x y v u Q I rx ry q hs
  rcases q with q | q
  · exact h value slice pins s σ H x y v u Q I rx ry q hs
  · exact h' value slice pins s σ H x y v u Q I rx ry q hs
theorem Zx {r : R2} (hr : IxR X r) (ha : PE X a ta) (hb : PE X b tb) (hs : JF b) : PE X (.Subscript a b pos) (tOp r ta tb) := by
  intro pins s σ H Q I h
  exact Subscript_ (Xk ha hb I h fun v u s2 x y H2 I2 rx ry q => hr a b pins s2 σ H2 x y v u Q I2 rx ry q (hs _ _))
noncomputable def YJ (K : PySem.W.Frag) : R2 := fun x y H Q => ∃ p xs i v, x = .ref p ∧ y = .int i ∧ SqL K H p xs ∧ atI xs i = some v ∧ Q v H
noncomputable def YZ (K : PySem.W.Frag) : R2 := fun x y H Q => ∃ p xs i v, x = .ref p ∧ y = .int i ∧ SqT K H p xs ∧ atI xs i = some v ∧ Q v H
noncomputable def Xx : R2 := fun x y H Q => ∃ z i c, x = .str z ∧ y = .int i ∧ z.length ≤ sizeLine ∧ atI z.cps.toList i = some c ∧ Q (.str ⟨#[c]⟩) H
theorem RZ : IxR X (YJ X.K) := by
  intro value slice pins s σ H x y v u Q I rx ry h hs
  obtain ⟨p, xs, i, z, rfl, rfl, hq, he, q⟩ := h
  cases rx
  obtain ⟨t, rfl⟩ := ry
  obtain ⟨its, r, pl, hz⟩ := I.list hq
  obtain ⟨j, h1, h2, h3, h4, h5⟩ := JD he
  obtain ⟨w, ew, rw'⟩ := r.get h2
  have hl := r.length
  have hn := I9
  have fin : EP X pins σ Q w s := ⟨z, H, I, rw', q⟩
  by_cases h0 : 0 ≤ i
  · have hj : i.toNat = j := by
      rw [seqIndex_of h0 h5] at h1
      exact Option.some.inj h1
    exact item_listR pl.isList h0 (by omega) (by rw [hj]; simpa using ew) fin hs
  · have hj : (i + (its.toArray.size : Int)).toNat = j := by
      rw [seqIndex_neg (by omega) h4] at h1
      rw [List.size_toArray, ← hl]
      exact Option.some.inj h1
    exact subscriptTail_builtinR (x := w) pl.isList.typeIs slot_list_getitem.lookup
      (wpAny_getItem_list_neg (Q := fun r s' => r = w ∧ EP X pins σ Q r s') pl.isList (by omega) (by rw [List.size_toArray] <;> omega) (by omega) (by rw [hj]; simpa using ew) ⟨rfl, fin⟩) hs
theorem Vo : IxR X (YZ X.K) := by
  intro value slice pins s σ H x y v u Q I rx ry h hs
  obtain ⟨p, xs, i, z, rfl, rfl, hq, he, q⟩ := h
  cases rx
  obtain ⟨t, rfl⟩ := ry
  obtain ⟨its, r, pl, hz⟩ := I.tuple hq
  obtain ⟨j, h1, h2, h3, h4, h5⟩ := JD he
  obtain ⟨w, ew, rw'⟩ := r.get h2
  have hl := r.length
  have hn := I9
  have fin : EP X pins σ Q w s := ⟨z, H, I, rw', q⟩
  exact subscriptTail_builtinR (x := w) pl.typeIs slot_tuple_getitem.lookup
    (getItem_tuple (j := j) (Q := fun r s' => r = w ∧ EP X pins σ Q r s') pl (by omega) (by omega) (by rw [List.size_toArray, ← hl]; exact h1) (by simpa using ew) ⟨rfl, fin⟩) hs
theorem Xl : IxR X Xx := by
  intro value slice pins s σ H x y v u Q I rx ry h hs
  obtain ⟨z, i, c, rfl, rfl, hz, he, q⟩ := h
  obtain ⟨t, rfl⟩ := rx
  obtain ⟨t', rfl⟩ := ry
  obtain ⟨j, h1, h2, h3, h4, h5⟩ := JD he
  have hl : z.cps.toList.length = z.length := by simp [Str.length]
  rw [hl] at h1 h4 h5
  have hn := I9
  exact tail_any (typeIs_str s z t) slot_str_getitem.lookup (getItem_str (c := c) (by
    have e1 : decide (i < -(2 ^ 63 : Int)) = false := decide_eq_false (by omega)
    have e2 : decide (i ≥ 2 ^ 63) = false := decide_eq_false (by omega)
    rw [e1, e2, Bool.or_false]) (by rw [h1]; simpa using h2) ⟨.str ⟨#[c]⟩, H, I.tok _, ⟨_, rfl⟩, q⟩) hs
noncomputable def rIx (K : PySem.W.Frag) : R2 := fun x y H Q => YJ K x y H Q ∨ YZ K x y H Q ∨ Xx x y H Q
theorem Ww : IxR X (rIx X.K) := RZ.or (Vo.or Xl)
theorem Jh (lo hi : Option Int) (n : Nat) : (sliceBounds lo hi none n).1 = ((HT.sIx n 0 lo : Nat) : Int) ∧ (sliceBounds lo hi none n).2.1 = ((HT.sIx n n hi : Nat) : Int) ∧ (sliceBounds lo hi none n).2.2 = 1 := by
  refine ⟨?_, ?_, rfl⟩
  · cases lo with
    | none => simp [sliceBounds, HT.sIx]
    | some i =>
      simp only [sliceBounds, HT.sIx, Option.getD_none, show (1 : Int) > 0 by decide, if_true]
      by_cases h : i < 0
      · simp only [h, if_true] <;> omega
      · simp only [h, if_false] <;> omega
  · cases hi with
    | none => simp [sliceBounds, HT.sIx]
    | some i =>
      simp only [sliceBounds, HT.sIx, Option.getD_none, show (1 : Int) > 0 by decide, if_true]
      by_cases h : i < 0
      · simp only [h, if_true] <;> omega
      · simp only [h, if_false] <;> omega
theorem H8 (its : List Value) (lo hi : Option Int) : slicePick its.toArray lo hi none = ((its.drop (HT.sIx its.length 0 lo)).take (HT.sIx its.length its.length hi - HT.sIx its.length 0 lo)).toArray := by
  obtain ⟨h1, h2, h3⟩ := Jh lo hi its.toArray.size
  unfold slicePick
  rw [h1, h2, h3]
  simp only [sliceRange_one, pick_run, List.size_toArray] <;> rfl
noncomputable def AbI (K : PySem.W.Frag) : V → Option Int → Option Int → Hp → VK → Prop := fun x lo hi H Q => ∃ a xs, x = .ref a ∧ SqL K H a xs ∧ ∀ p, H p = none → Q (.ref p) (upd H p (.lst (Mv xs lo hi)))
theorem Ru : SlR X (AbI X.K) := by
  intro pins s σ H x v vl vu lo hi sl Q I rx hs pl pu h
  obtain ⟨a, xs, rfl, hx, q⟩ := h
  cases rx
  obtain ⟨its, r, ht, hz⟩ := I.list hx
  have hlen := r.length
  refine ⟨"list", _, slot_list_getitem.lookup, ht.isList.typeIs, ?_⟩
  refine wpAny_getItem_list_slice ht.isList hs pl pu .none (by simp) ?_ (by rw [List.size_toArray] <;> omega)
  rw [H8, ← hlen]
  refine ⟨.ref s.heap.objs.size, _, I.laid (t' := s.toks) (o := .lst (Mv xs lo hi)) (fun b ob q => Heap.get?_push_of_some _ q) (Nat.le_refl _) ?_, rfl, q _ (I.hok.fresh (Nat.le_refl _))⟩
  exact ⟨Nat.le_trans (JW xs lo hi) hz, _, 0, (r.drop (HT.sIx xs.length 0 lo)).take (HT.sIx xs.length xs.length hi - HT.sIx xs.length 0 lo), Heap.get?_push_size _ rfl⟩
theorem IV : GF X (.builtin "len") (fun xs H Q => ∃ p ys, xs = [.ref p] ∧ (SqL X.K H p ys ∨ SqT X.K H p ys) ∧ Q (.int ys.length) H) := by
  intro pins s σ H xs us Q I r h
  obtain ⟨p, ys, rfl, hq, q⟩ := h
  obtain ⟨u, rfl, rx⟩ := vals1 r
  cases rx
  have hn := I9
  rcases hq with hq | hq
  · obtain ⟨its, r', pl, hz⟩ := I.list hq
    have hlen := r'.length
    exact Calls.call_len_list pl.isList (by simp only [List.size_toArray] <;> omega) ⟨.int ys.length, H, I.tok _, ⟨s.toks + 1, by rw [List.size_toArray, hlen]⟩, q⟩
  · obtain ⟨its, r', pl, hz⟩ := I.tuple hq
    have hlen := r'.length
    exact len_tuple pl (by simp only [List.size_toArray] <;> omega) ⟨.int ys.length, H, I.tok _, ⟨s.toks + 1, by rw [List.size_toArray, hlen]⟩, q⟩
noncomputable def tyV (K : PySem.W.Frag) (T : String) (x : V) (H : Hp) : Prop := match x with
  | .str _ => T = "str"
  | .int _ => T = "int"
  | .ref p => (T = "list" ∧ ∃ xs, SqL K H p xs) ∨ (T = "tuple" ∧ ∃ o, K.lookup p = some o ∧ o.cls = .type "tuple" ∧ o.dict = none) ∨
      (T = "dict" ∧ ((∃ kvs, H p = some (.dK kvs)) ∨ ∃ kvs, H p = some (.dT kvs))) ∨ (T = "set" ∧ ∃ S n, H p = some (.set S n))
  | _ => False
theorem Wb {pins : List (Addr × Obj)} {σ : St} {H : Hp} {s : Shared} {T : String} {x : V} {v : Value} (I : Inv X pins σ H s) (r : RelV x v) (ty : tyV X.K T x H) :
    s.TypeIs v T ∧ ∀ a, v = .ref a → ∃ ob, s.heap.get? a = some ob ∧ ob.dict = none := by
  cases x with
  | str z =>
    obtain ⟨t, rfl⟩ := r
    cases (show T = "str" from ty)
    exact ⟨typeIs_str s z t, fun _ e => nomatch e⟩
  | int i =>
    obtain ⟨t, rfl⟩ := r
    cases (show T = "int" from ty)
    exact ⟨typeIs_int s i t, fun _ e => nomatch e⟩
  | ref p =>
    cases r
    rcases ty with ⟨rfl, xs, hq⟩ | ⟨rfl, o, hk, hc, hd⟩ | ⟨rfl, hk⟩ | ⟨rfl, S, n, hk⟩
    · obtain ⟨its, _, pl, _⟩ := I.list hq
      refine ⟨pl.isList.typeIs, fun a e => ?_⟩
      cases e
      obtain ⟨o, n, e, c, hd, _⟩ := pl
      exact ⟨o, e, hd⟩
    · refine ⟨⟨o, I.kIn p o hk, hc⟩, fun a e => ?_⟩
      cases e
      exact ⟨o, I.kIn _ o hk, hd⟩
    · have z : ∃ o, s.heap.get? p = some o ∧ o.ExactDict := by
        rcases hk with ⟨kvs, hk⟩ | ⟨kvs, hk⟩
        · obtain ⟨_, _, _, _, o, _, _, e, ex, _⟩ := I.hok p _ hk
          exact ⟨o, e, ex⟩
        · obtain ⟨_, _, _, _, o, _, _, e, ex, _⟩ := I.hok p _ hk
          exact ⟨o, e, ex⟩
      obtain ⟨o, e, ex⟩ := z
      refine ⟨⟨o, e, ex.1⟩, fun a e2 => ?_⟩
      cases e2
      exact ⟨o, e, ex.2.1⟩
    · obtain ⟨o, _, _, _, e, ex, _⟩ := I.hok p _ hk
      refine ⟨⟨o, e, ex.1⟩, fun a e2 => ?_⟩
      cases e2
      exact ⟨o, e, ex.2.1⟩
  | _ => exact False.elim ty
noncomputable def Acw (K : PySem.W.Frag) (T : String) (r : V → List V → Hp → VK → Prop) (to : TE) : TE := fun σ H Q => to σ H fun x H1 => tyV K T x H1 ∧ r x [] H1 Q
variable {o e : Expr} {es : List Expr} {to : TE} {t : TA} {name : Str} {apos cpos : Pos} {T id : String} {r : V → List V → Hp → VK → Prop}
theorem Vm (pa : PlainAttrs T) (slot : Slot T name id) (hty : typeOf (.builtin id) = pure (.type "method_descriptor")) (hm : MtR X id r) (ho : PE X o to)
    (hbase : attributeBase o name X.env (eval o X.env) = eval o X.env := by rfl) (hline : (apos.endLine == cpos.line) = true := by rfl) : PE X (.Call (.Attribute o name apos) [] [] cpos) (Acw X.K T r to) := by
  intro pins s σ H Q I h
  refine wpAny_Call_method0_late hbase hline (thn (ho pins s σ H _ I h) fun v s1 ⟨x, H1, I1, r1, ty, q1⟩ => ?_)
  obtain ⟨h1, h2⟩ := Wb I1 r1 ty
  exact ⟨T, id, pa, slot, hty, h1, h2, Calls.callWith_builtin rfl (PySem.evalArgs_none (hm pins s1 σ H1 x [] v [] Q I1 r1 .nil q1))⟩
end
end L2
namespace L2
open PySem PySem.Spec PyProof.Rows
noncomputable def MtM (X : Cx) (id : String) (r : V → List V → Hp → VK → Prop) : Prop :=
  ∀ (pins : List (Addr × Obj)) (s : Shared) (σ : St) (H : Hp) (x : V) (xs : List V) (v : Value) (us : List Value) (Q : VK), Inv X pins σ H s → RelV x v → Vals xs us → r x xs H Q →
    wpAny (model X.prog X.w) X.A (call (.builtin id) (v :: us)) (EP X pins σ Q) X.xe s
theorem Vals.one : ∀ {x : V} {us : List Value}, Vals [x] us → ∃ u, us = [u] ∧ RelV x u
  | _, _, .cons r .nil => ⟨_, rfl, r⟩
section
variable {X : Cx} {pins : List (Addr × Obj)} {σ : St} {H : Hp} {s : Shared} {l b : Addr} {xs ys zs : List V}
theorem Inv.lset {its its' : List Value} {n : Nat} {f : Array Value → Array Value} {t' : Nat} (I : Inv X pins σ H s) (hH : H l = some (.lst xs))
    (e : s.heap.get? l = some { cls := .type "list", data := .seq its.toArray n }) (hf : f its.toArray = its'.toArray) (hv : Vals ys its') (hz : ys.length ≤ sizeLine) :
    Inv X pins σ (upd H l (.lst ys)) { s with heap := s.heap.update l (Obj.mapSeq f), toks := t' } := by
  have q := PySem.IsL.update e f
  rw [hf] at q
  refine I.write (x := l) (e := l) (by rw [hH]; exact trivial) (.inl rfl) (fun b' u hb hu => (Heap.get?_update_other s.heap (Obj.mapSeq f) (Ne.symm hb)).trans hu) ⟨_, q⟩ ?_
  exact ⟨hz, its', _, hv, q⟩
theorem Inv.lnew {its : List Value} {t' : Nat} (I : Inv X pins σ H s) (hv : Vals ys its) (hz : ys.length ≤ sizeLine) :
    Inv X pins σ (upd H s.heap.objs.size (.lst ys)) { s with heap := s.heap.push { cls := .type "list", data := .seq its.toArray }, toks := t' } :=
  I.laid (fun _ _ q => Heap.get?_push_of_some _ q) (Nat.le_refl _) ⟨hz, its, 0, hv, Heap.get?_push_size _ rfl⟩
theorem Inv.fresh (I : Inv X pins σ H s) : H s.heap.objs.size = none := I.hok.fresh (Nat.le_refl _)
theorem Inv.lstM (I : Inv X pins σ H s) (hH : H l = some (.lst xs)) : xs.length ≤ sizeLine ∧ ∃ (its : List Value) (n : Nat), Vals xs its ∧ xs.length = its.length ∧ s.heap.get? l = some { cls := .type "list", data := .seq its.toArray n } := by
  obtain ⟨z, its, n, r, e⟩ := I.hok l _ hH
  exact ⟨z, its, n, r, r.length, e⟩
theorem Pg {n : Nat} (h : n ≤ sizeLine) : Builtin.List.listTooLong n = false := by
  unfold Builtin.List.listTooLong
  exact decide_eq_false (by omega)
end
section
variable {X : Cx}
noncomputable def S9 : V → List V → Hp → VK → Prop := fun x vs H Q => ∃ l b xs zs, x = .ref l ∧ vs = [.ref b] ∧ H l = some (.lst xs) ∧ H b = some (.lst zs) ∧ xs.length + zs.length ≤ sizeLine ∧ Q .non (upd H l (.lst (xs ++ zs)))
theorem Xu : MtM X "list.extend" S9 := by
  intro pins s σ H x vs v us Q I rx rv h
  obtain ⟨l, b, xs, zs, rfl, rfl, hH, hB, hz, q⟩ := h
  cases rx
  obtain ⟨u, rfl, ru⟩ := rv.one
  cases ru
  obtain ⟨z, its, n, r, hl, e⟩ := I.lstM hH
  obtain ⟨z2, its2, n2, r2, hl2, e2⟩ := I.lstM hB
  have hsz : its.toArray.size + its2.toArray.size ≤ sizeLine := by rw [List.size_toArray, List.size_toArray]; omega
  have hlong : ¬ (!its.toArray.isEmpty && Builtin.List.listTooLong (its.toArray.size + its2.toArray.size)) = true := by
    rw [Pg hsz, Bool.and_false]
    exact Bool.false_ne_true
  refine call_meets F.slot_list_extend ⟨_, e, rfl⟩ F.entry_list_extend (F.args_list_extend_2 _ _)
    (AutoSeq1.list_extend_list_list_0 l its.toArray n b its2.toArray n2 hlong (by rw [List.size_toArray]; omega) (by omega)) ⟨e, e2, ?_⟩
  refine ⟨.non, _, I.lset (its' := its ++ its2) hH e (by simp) (r.append r2) ?_, rfl, q⟩
  rw [List.length_append]
  omega
noncomputable def AbN : R2 := fun x y H Q => ∃ l b xs zs, x = .ref l ∧ y = .ref b ∧ H l = some (.lst xs) ∧ H b = some (.lst zs) ∧ xs.length + zs.length ≤ sizeLine ∧ ∀ p, H p = none → Q (.ref p) (upd H p (.lst (xs ++ zs)))
theorem Vz : OpR X (binaryOp .Add) AbN := by
  intro pins s σ H x y v u Q I rx ry h
  obtain ⟨l, b, xs, zs, rfl, rfl, hH, hB, hz, q⟩ := h
  cases rx
  cases ry
  obtain ⟨z, its, n, r, hl, e⟩ := I.lstM hH
  obtain ⟨z2, its2, n2, r2, hl2, e2⟩ := I.lstM hB
  refine PySem.P.add_list e e2 ?_ (by rw [List.size_toArray, List.size_toArray]; omega)
  have ea : its.toArray ++ its2.toArray = (its ++ its2).toArray := by simp
  rw [ea]
  exact ⟨.ref _, _, I.lnew (t' := s.toks) (r.append r2) (by rw [List.length_append]; omega), rfl, q _ I.fresh⟩
end
section
variable {prog : Program} {w : World} {A : Around} {E : Value → Shared → Prop} {s : Shared}
set_option maxRecDepth 100000 in
end
section
variable {X : Cx}
end
end L2
namespace Att
open PySem PySem.W PySem.Calls PyProof.Rows
theorem Hq {P : Params} {h : Heap} : ∀ (ns : List Int) (vs : List Value), WellAll P h vs (ns.map WData.int) → IntsAre vs ns := by
  intro ns
  induction ns with
  | nil =>
    intro vs w
    rw [List.map_nil] at w
    cases w
    exact .nil
  | cons n ns ih =>
    intro vs w
    rw [List.map_cons] at w
    cases w with
    | cons a b =>
      cases a
      exact .cons _ _ (ih _ b)
theorem Mx {l : OpenLaw} {n : Nat} (hn : l.most = some n) {P : Params} {h : Heap} {args : List WData} {vals : List Value}
    (hpre : l.row.toRowW.claim.pre args = true) (hwl : WellAll P h vals args) :
    ∃ a vs ns, vals = [Value.ref a] ∧ args = [WData.list (ns.map WData.int)] ∧ h.get? a = some { cls := .type "list", data := .seq vs.toArray } ∧ IntsAre vs ns ∧ ns.length ≤ n := by
  have hsh : WShape.hasAll [] args [.list .int] = true := (pre_splitW hpre).1
  have hc : l.pre.holds [] { args := args } = true := (pre_splitW hpre).2
  obtain ⟨d, r, rfl, h1, h2⟩ := hasAllW_cons hsh
  obtain rfl := hasAllW_nil h2
  obtain ⟨xs, rfl, h3⟩ := hasW_list h1
  obtain ⟨ns, rfl⟩ := items_int h3
  have hlen : ns.length ≤ n := by
    unfold OpenLaw.pre at hc
    have h4 : (WTm.not (.lt (.lit (.int (n : Int))) (.len (.arg 0)))).holds [] { args := [.list (ns.map .int)] } = true := by
      have h4 := (holds_andW hc).1
      rw [hn] at h4
      exact h4
    have h5 := condW_of h4 (w_not (w_lt w_lit (w_len_list (w_arg rfl))))
    rw [List.length_map] at h5
    refine Nat.le_of_not_lt fun q => ?_
    have q' : (n : Int) < ((ns.length : Nat) : Int) := by omega
    first
      | (rw [decide_eq_true q'] at h5; exact absurd h5 (by decide))
      | (simp at h5; omega)
  cases hwl with
  | cons w1 w2 =>
    cases w2
    cases w1 with
    | list ho hall => exact ⟨_, _, ns, rfl, rfl, ho, Hq ns _ hall, hlen⟩
theorem Mg (l : OpenLaw) (args : List WData) : l.row.toRowW.claim.post args (.bool true) args = true :=
  postW_of (r := l.row.toRowW) (X := (true == true))
    (show WShape.has [] (.bool true) .bool = true by first | rfl | decide | simp [WShape.has, WShape.arms, WShape.armsAll])
    (show (WTm.eq .res (.lit (.bool true))).value [] { args := args, res := some (.bool true), after := args } = some (.bool (true == true)) from w_eq_bool (w_res rfl) w_lit) rfl
theorem Kh {l : OpenLaw} {n : Nat} {q : Program} {loose : List Str} {XP : (Str → Option Value) → Heap → Prop} {YP : World → Heap → Prop} {d : DefRec}
    (hn : l.most = some n) (hdf : d.params.defaults = [])
    (call : ∀ (w : World) (s₀ s₁ : Shared) (mg mb : Str → Option Value) (fa : Addr) (o : Obj) (pm cd doc : Value) (a : Addr) (vs : List Value) (ns : List Int),
      Ground q loose [] XP w s₀ mg mb s₁.heap → YP w s₁.heap →
      s₁.heap.get? fa = some o → o.data = .func (docDef d.name d.params d.body d.scope pm cd doc) → s₁.heap.CodeRec cd d.name → mg d.name = some (.ref fa) →
      s₁.heap.get? a = some { cls := .type "list", data := .seq vs.toArray } → IntsAre vs ns → ns.length ≤ n → s₁.gens = #[] →
      codeAny (model l.prog w) callerA (.call (.ref fa) ⟨[.ref a], []⟩) (fun r s' => r = .ok (.ret (.bool true)) ∧ OldK s₁.heap s'.heap ∧ s'.os = s₁.os ∧ AllBare s'.gens) s₁) :
    WalkO q loose XP YP l.row.toRowW d [] (fun f vs => PySem.call f vs) := by
  intro w s₀ s₁ mg mb G Y fa o pm cd doc dV kV ho hd hcd hD hmg hg args vals as hpre hlay hrd hwl hlo
  obtain rfl : dV = .none := Dflts.none hD hdf
  obtain rfl : kV = .none := Dflts.noKw hD
  obtain ⟨a, vs, ns, rfl, rfl, hobj, hints, hlen⟩ := Mx hn hpre hwl
  refine enter_call (codeAny_mono (call w s₀ s₁ mg mb fa o pm cd doc a vs ns G Y ho (fd_plain hd) hcd hmg hobj hints hlen hg) fun r s' hq => ?_)
  obtain ⟨rfl, h2, h3, h4⟩ := hq
  exact ⟨.inl ⟨.bool true, .bool true, [], rfl, fun _ => rfl, .bool true, Mg l _, fun _ => ⟨List.Pairwise.nil, fun _ hm => (nomatch hm)⟩⟩, h2, h3, h4⟩
section
variable {prog : Program} {w : World} {A : Around} {E : Value → Shared → Prop} {s : Shared} {K : Frag}
noncomputable def ledger (h : Heap) (L d : Addr) : List (Addr × Obj) := (List.range h.objs.size).filterMap fun a => if a = L ∨ a = d then none else (h.get? a).map fun o => (a, o)
end
end Att
namespace L2
open PySem PySem.Spec PyProof.Rows
theorem Ij : ∀ {vs : List Value} {ns : List Int}, IntsAre vs ns → Vals (ns.map V.int) vs
  | _, _, .nil => .nil
  | _, _, .cons n t h => .cons ⟨t, rfl⟩ (Ij h)
noncomputable def Only (H : Hp) : Prop := ∀ b, H b = none ∨ ∃ o xs, H b = some (.frz o (.lst xs))
theorem NQ {P : Program} {w : World} {K : PySem.W.Frag} {mg mb : Str → Option Value} {CX : CXT} {k : Nat} {fa a : Addr} {fd : FuncData} {x : Str} {sp : Sp} {s₁ : Shared} {vs : List Value} {ns : List Int}
    (KX : K.In s₁.heap) (hns : s₁.heap.Ns mainGlobals mg) (hb : s₁.heap.Ns builtinsNs mb) (hbb : ∀ x : Str, x ≠ "__name__" → mb x = bootBuiltins x) (hlim : s₁.heap.NoLimit) (hg : s₁.gens = #[])
    (ha : s₁.heap.get? a = some { cls := .type "list", data := .seq vs.toArray }) (hi : IntsAre vs ns) (hl : ns.length ≤ sizeLine) (hr : Ck k callerA)
    (F : ∀ base : Heap, K.In base → base.Ns mainGlobals mg → DY P w K mg base CX k fa fd [x] sp) (hbind : ∀ (s : Shared) (u : Value), BindsTo s fd ⟨[u], []⟩ [(x, u)])
    (hsp : ∀ H : Hp, Only H → SqL K H a (ns.map V.int) → sp [.ref a] H (fun v _ => v = .bl true) fun _ _ _ => False)
    (hCX : ∀ H e s', CX [] H s₁ (fun _ _ _ => False) e s' → False) :
    codeAny (model P w) callerA (.call (.ref fa) ⟨[.ref a], []⟩) (fun r s' => r = .ok (.ret (.bool true)) ∧ OldK s₁.heap s'.heap ∧ s'.os = s₁.os ∧ AllBare s'.gens) s₁ := by
  have rv := Ij hi
  have lenV := hi.length
  have core : ∀ H : Hp, Only H → SqL K H a (ns.map V.int) → HOk P w H s₁.heap → (∀ b, H b ≠ none → b = a) → (H a ≠ none → K.lookup a = none) →
      codeAny (model P w) callerA (.call (.ref fa) ⟨[.ref a], []⟩) (fun r s' => r = .ok (.ret (.bool true)) ∧ OldK s₁.heap s'.heap ∧ s'.os = s₁.os ∧ AllBare s'.gens) s₁ := by
    intro H hO hS hok hA hK
    have base_of : ∀ {b : Addr} {o : Obj}, s₁.heap.get? b = some o → H b = none → (Jt s₁.heap H).get? b = some o := fun e n => Nv e n
    have noA : ∀ {b : Addr} {o : Obj} {es : Array DictEntry} {ep : Nat}, s₁.heap.get? b = some o → o.data = .dict es ep → H b = none := fun {b o es ep} e d => by
      cases q : H b with
      | none => rfl
      | some u =>
        have e' : b = a := hA b (by rw [q]; simp)
        subst e'
        rw [ha] at e; cases e
        have d' : Data.seq vs.toArray _ = Data.dict es ep := d
        cases d'
    have nsK : ∀ {b : Addr} {m : Str → Option Value}, s₁.heap.Ns b m → (Jt s₁.heap H).Ns b m := fun {b m} ⟨o, es, ep, e, d, r⟩ => ⟨o, es, ep, base_of e (noA e d), d, r⟩
    have hKb : K.In (Jt s₁.heap H) := fun b o e => base_of (KX b o e) (by
      cases q : H b with
      | none => rfl
      | some u =>
        have e' : b = a := hA b (by rw [q]; simp)
        subst e'
        rw [hK (by rw [q]; simp)] at e; cases e)
    have hM : Mod K mg (Jt s₁.heap H) := ⟨hKb, nsK hns, ⟨mb, nsK hb, hbb⟩, let ⟨mc, h1, h2⟩ := hlim; ⟨mc, nsK h1, h2⟩⟩
    have e0 : Le P w K mg (Jt s₁.heap H) callerA [] s₁ H := ⟨rfl, hM, fun b o e => Sh e, Nat.le_of_eq (Ml _ _), trivial, fun b hb => absurd (show b ∈ ([] : List Addr) from hb) (by simp), hok, .of_eq hg⟩
    refine codeAny_mono ((F _ hKb (nsK hns)).run callerA [] s₁ H ⟨[.ref a], []⟩ [.ref a] [.ref a] _ _ hr e0 (hbind s₁ (.ref a)) (.cons rfl .nil) (hsp H hO hS)) fun r s' h => ?_
    cases r with
    | error e => exact (hCX H e s' h).elim
    | ok fl =>
      cases fl with
      | next => exact False.elim h
      | brk => exact False.elim h
      | cont => exact False.elim h
      | ret u =>
        obtain ⟨v, H', os, bare, un, hok', r', q⟩ := h
        have q' : v = .bl true := q
        subst q'
        obtain rfl : u = Value.bool true := r'
        refine ⟨rfl, OldK.of_keep fun b o e => ?_, os, bare⟩
        cases q : H b with
        | none => exact un.keep b o e q (by intro z; exact absurd (show b ∈ ([] : List Addr) from z) (by simp)) (by simp)
        | some u =>
          rcases hO b with z | ⟨ob, xs, z⟩
          · rw [q] at z; cases z
          · have z2 := un.frzs b ob _ z
            obtain ⟨e1, _⟩ := hok b _ z
            obtain ⟨e2, _⟩ := hok' b _ z2
            rw [e] at e1; cases e1
            exact e2
  cases hk : K.lookup a with
  | some o =>
    have e := KX a o hk
    rw [ha] at e
    cases e
    refine core (fun _ => none) (fun _ => .inl rfl) (.inr ⟨_, vs.toArray, _, hk, rfl, rfl, rfl, by rw [List.size_toArray, lenV]; exact hl, by simpa using rv⟩) (fun b u z => by have z' : (none : Option HO) = some u := z; cases z') (fun b z => absurd rfl z) fun z => absurd rfl z
  | none =>
    refine core (fun b => if b = a then some (.frz { cls := .type "list", data := .seq vs.toArray } (.lst (ns.map V.int))) else none) (fun b => ?_) (.inl (.inr ⟨{ cls := .type "list", data := .seq vs.toArray }, if_pos rfl⟩)) (fun b u z => ?_) (fun b z => ?_) fun _ => hk
    · by_cases hb : b = a
      · exact .inr ⟨_, _, if_pos hb⟩
      · exact .inl (if_neg hb)
    · by_cases hb : b = a
      · have z' := (if_pos hb).symm.trans z
        cases z'
        subst hb
        exact ⟨ha, by rw [List.length_map]; exact hl, vs, _, rv, ha⟩
      · have z' := (if_neg hb).symm.trans z
        cases z'
    · by_cases hb : b = a
      · exact hb
      · exact absurd (if_neg hb) z
end L2
namespace L2
open PySem PySem.Spec PyProof.Rows
noncomputable abbrev KOf {K : PySem.W.Frag} {h : Heap} (_ : K.In h) : PySem.W.Frag := K
theorem Q8 {l : PySem.W.OpenLaw} {n k : Nat} {q : Program} {loose : List Str} {XP : (Str → Option Value) → Heap → Prop} {YP : World → Heap → Prop} {d : DefRec} {K : Params → PySem.W.Frag} {CX : World → CXT} {sp : World → Sp} {x : Str}
    (hn : l.most = some n) (hn2 : n ≤ sizeLine) (hdf : d.params.defaults = []) (hr : Ck k callerA)
    (hY : ∀ (w : World) (h : Heap), YP w h → (K w.params).In h)
    (F : ∀ (w : World) (mg : Str → Option Value) (fa : Addr) (h : Heap), (K w.params).In h → h.Ns mainGlobals mg → mg d.name = some (.ref fa) →
      ∃ fd : FuncData, (∀ (s : Shared) (u : Value), BindsTo s fd ⟨[u], []⟩ [(x, u)]) ∧
        ∀ base : Heap, (K w.params).In base → base.Ns mainGlobals mg → DY l.prog w (K w.params) mg base (CX w) k fa fd [x] (sp w))
    (hsp : ∀ (w : World) (H : Hp) (a : Addr) (ns : List Int), ns.length ≤ n → Only H → SqL (K w.params) H a (ns.map V.int) → sp w [.ref a] H (fun v _ => v = .bl true) fun _ _ _ => False)
    (hCX : ∀ (w : World) (H : Hp) (s : Shared) (e : Value) (s' : Shared), CX w [] H s (fun _ _ _ => False) e s' → False) :
    PySem.W.WalkO q loose XP YP l.row.toRowW d [] (fun f vs => PySem.call f vs) := by
  refine Att.Kh hn hdf fun w s₀ s₁ mg mb fa o pm cd doc a vs ns G Y ho hd hcd hmg hobj hints hlen hg => ?_
  have KX := hY w _ Y
  obtain ⟨fd, hb, hF⟩ := F w mg fa _ KX G.T.g hmg
  exact NQ KX G.T.g G.T.b G.T.builtins G.T.nolimit hg hobj hints (Nat.le_trans hlen hn2) hr hF hb (fun H hO hS => hsp w H a ns hlen hO hS) fun H e s' => hCX w H s₁ e s'
end L2
namespace L2
open PySem PySem.Spec PyProof.Rows
noncomputable def inClass (s : Stmt) (j : Nat) : Stmt := match s with
  | .ClassDef _ _ _ body _ _ _ _ _ _ _ => body.getD j (.Pass ⟨0, 0, 0, 0⟩)
  | _ => .Pass ⟨0, 0, 0, 0⟩
noncomputable def Bp (s : Stmt) : Arguments := match s with
  | .FunctionDef _ a _ _ _ _ _ _ _ _ => a
  | _ => { posonlyargs := [], args := [], vararg := none, kwonlyargs := [], kw_defaults := [], kwarg := none, defaults := [] }
noncomputable def Bf (s : Stmt) : List Stmt := match s with
  | .FunctionDef _ _ b _ _ _ _ _ _ _ => b
  | _ => []
noncomputable def Ac (s : Stmt) : Scope := match s with
  | .FunctionDef _ _ _ _ _ _ sc _ _ _ => sc
  | _ => { kind := .function, names := [], isGenerator := false, isCoroutine := false }
noncomputable abbrev CX0 : CXT := fun _ _ _ _ _ _ => False
noncomputable abbrev E0 : XK := fun _ _ _ => False
theorem AaO {X : Cx} : Passes CX0 X E0 := fun _ _ _ _ _ _ _ h => h.elim
structure Fun (K : PySem.W.Frag) (x qual : Str) (st : Stmt) (f : Addr) (fd : FuncData) : Prop where
  ex : ∃ (oc : Value) (od : Option Addr) (kV doc pm : Value) (an : Option Addr) (cdv ct : Value) (osl : Array (Option Value)),
    fd = PySem.W.fnOf x qual (Bp st) (Bf st) (Ac st) .none kV doc pm an cdv ct ∧ K.lookup f = some ⟨oc, od, .func fd, osl⟩ ∧ PySem.W.codeIn K cdv qual = true
  kp : PySem.W.keepIn K (.ref f) = true
section
variable {P : Program} {w : World} {K : PySem.W.Frag} {mg : Str → Option Value} {base : Heap}
theorem Fun.ok {x qual : Str} {st : Stmt} {f : Addr} {fd : FuncData} {N ps : List Str} {k : Nat} {sp : Sp} (F : Fun K x qual st f fd) (S : Al N ps (Ac st)) (len : ∀ vs H Q E, sp vs H Q E → vs.length = ps.length)
    (hbody : ∀ (cdv : Value) (A : Around) (outer : List Env) (s : Shared) (H : Hp) (vs : List V) (Q : VK) (E : XK), Ck k (A.deeper (envOfC qual (Ac st) s.heap.objs.size f cdv)) → sp vs H Q E →
      ∃ t, PSs (Jc CX0 P w K mg base N qual (Ac st) f cdv A outer s H E).nox (Bf st) t ∧ t { nx := fun _ H' => Q .non H', rt := Q } (start N vs) H) : DY P w K mg base CX0 (k + 1) f fd ps sp := by
  obtain ⟨oc, od, kV, doc, pm, an, cdv, ct, osl, rfl, lk, hcd⟩ := F.ex
  refine Uq lk hcd S len fun A outer s H vs Q E hr hsp => ?_
  obtain ⟨t, h, q⟩ := hbody cdv A outer s H vs Q E hr hsp
  exact ⟨t, h.nox, q⟩
theorem Fun.binds {x qual : Str} {st : Stmt} {f : Addr} {fd : FuncData} {ps : List Str} (F : Fun K x qual st f fd)
    (h : ∀ (kV doc pm : Value) (an : Option Addr) (cdv ct : Value) (us : List Value), us.length = ps.length → bindArgs (PySem.W.fnOf x qual (Bp st) (Bf st) (Ac st) .none kV doc pm an cdv ct) ⟨us, []⟩ = pure (ps.zip us)) : Binds K fd ps [] := by
  obtain ⟨oc, od, kV, doc, pm, an, cdv, ct, osl, rfl, lk, hcd⟩ := F.ex
  exact .all (h kV doc pm an cdv ct)
theorem Du {x qual : Str} {st : Stmt} {f : Addr} {oc : Value} {od an : Option Addr} {osl : Array (Option Value)} {kV doc pm cdv ct : Value} (l : K.lookup f = some ⟨oc, od, .func (PySem.W.fnOf x qual (Bp st) (Bf st) (Ac st) .none kV doc pm an cdv ct), osl⟩)
    (c : PySem.W.codeIn K cdv qual = true) (k : PySem.W.keepIn K (.ref f) = true) : Fun K x qual st f (PySem.W.fnOf x qual (Bp st) (Bf st) (Ac st) .none kV doc pm an cdv ct) := ⟨⟨oc, od, kV, doc, pm, an, cdv, ct, osl, rfl, l, c⟩, k⟩
end
theorem GK {n : Nat} (h : n ≤ 1000) : n < sizeLine := Nat.lt_of_le_of_lt h (by decide)
section
variable {X : Cx}
theorem pv (i : Nat) {x : Str} {pos : Pos} (hN : X.N[i]? = some x := by rfl) (hv : Vis X.env.scope x := by first | exact Or.inl rfl | exact Or.inr (Or.inl rfl) | exact Or.inr (Or.inr rfl)) (hd : (x == ("__debug__" : Str)) = false := by decide)
    (hcd : (x == ("__classdict__" : Str)) = false := by decide) : PE X (.Name x pos) (YX i) := Qa hN hv hd hcd
end
theorem Hl {c A B : Prop} [Decidable c] (h1 : c → A) (h2 : ¬ c → B) : if c then A else B := by
  by_cases h : c
  · rw [if_pos h]
    exact h1 h
  · rw [if_neg h]
    exact h2 h
noncomputable def Same (H H' : Hp) : Prop := ∀ b o, H b = some o → H' b = some o
theorem Same.refl (H : Hp) : Same H H := fun _ _ h => h
theorem Same.trans {H H1 H2 : Hp} (a : Same H H1) (b : Same H1 H2) : Same H H2 := fun c o h => b c o (a c o h)
theorem Same.seq {K : PySem.W.Frag} {H H' : Hp} {a : Addr} {xs : List V} (e : Same H H') (h : SqL K H a xs) : SqL K H' a xs := by
  rcases h with (h | ⟨o, h⟩) | h
  · exact .inl (.inl (e _ _ h))
  · exact .inl (.inr ⟨o, e _ _ h⟩)
  · exact .inr h
end L2
namespace L2
open PySem PySem.Spec PyProof.Rows
noncomputable def tbO (T : Addr) (h : Heap) : Prop := ∃ o ts, h.get? T = some o ∧ o.data = .fields ts ∧ ts[3]? = some .none
noncomputable def exO (a C dx : Addr) (h : Heap) : Prop := ∃ o vs, h.get? a = some o ∧ o.cls = .ref C ∧ o.dict = (if dx = a then none else some dx) ∧ o.data = .fields vs
theorem HD {T : Addr} (h1 h2 : Heap) (x : tbO T h1) (k : ∀ o, h1.get? T = some o → h2.get? T = some o) : tbO T h2 :=
  let ⟨o, ts, e, r⟩ := x; ⟨o, ts, k o e, r⟩
theorem Hy {a C dx : Addr} (h1 h2 : Heap) (x : exO a C dx h1) (k : ∀ o, h1.get? a = some o → h2.get? a = some o) : exO a C dx h2 :=
  let ⟨o, vs, e, r⟩ := x; ⟨o, vs, k o e, r⟩
noncomputable def Ea (h : Heap) (H : Hp) (a : Addr) : Prop := ∃ o vs, h.get? a = some o ∧ o.data = .fields vs ∧ (vs[1]? = some .none ∨ ∃ T, vs[1]? = some (.ref T) ∧ T ≠ a ∧ H T = some (.ext (tbO T)))
section
variable {M : Model} {A : Around} {E : Value → Shared → Prop} {s : Shared} {base : Heap} {env : Env} {outer : List Env} {L e : Addr}
structure Li (fs : List Addr) (e : Addr) (old : Option Addr) (oe : Obj) (h h' : Heap) : Prop where
  keep : ∀ b o, b ∉ fs → b ≠ e → old ≠ some b → h.get? b = some o → h'.get? b = some o
  slot : ∀ b o, b ≠ e → old ≠ some b → h.get? b = some o → ∃ sl, h'.get? b = some { o with slots := sl }
  exc : ∃ vs T, h'.get? e = some { oe with data := .fields vs } ∧ vs[1]? = some (.ref T) ∧ T ≠ e ∧ h.objs.size ≤ T ∧ tbO T h'
  old : ∀ b, old = some b → tbO b h'
theorem Lk {oe : Obj} {vs : Array Value} {head : Value} {hadNext : Bool} {Q : Unit → Shared → Prop} (fr : A.frames = some (env :: outer)) (ff : s.heap.FunFrames base (env :: outer)) (ef : env.frame = some L)
    (oe_at : s.heap.get? e = some oe) (od : oe.data = .fields vs) (z : 1 < vs.size)
    (q : ∀ h', Li (frs (env :: outer)) e none oe s.heap h' → Q () { s with heap := h' }) :
    wpAny M A (frameOf env >>= fun a => entryPlaceOf L hadNext >>= fun pl => EntryCells.newEntry head a .none (rawInt L) .none pl >>= fun b => setField (.ref e) 1 b)
      (fun _ s' => wpAny M A (setFlight (.ref e) none) Q E s') E s := by
  have ne : e ∉ frs (env :: outer) := fun hm => by
    obtain ⟨_, o, ho, hnf⟩ := ff.mem hm
    rw [oe_at] at ho; cases ho; exact hnf vs od
  refine wpAny_bind (wpAny_frameOf_fun fr ff ef fun h₁ sl₁ => wpAny_bind (wpAny_entryPlaceOf fun pl hpl => ?_))
  unfold EntryCells.newEntry newFields
  refine wpAny_bind (wpAny_newObj_type ?_ (hpl.sizeOk5 _ _ _ _ _))
  generalize hob : ({ cls := .type "traceback", dict := none, data := .fields ([head, .ref L, .none, rawInt L, .none] ++ (if pl.isEmpty then List.replicate 6 Value.none else pl)).toArray } : Obj) = ob
  have obd : ∃ ts : Array Value, ob.data = .fields ts ∧ 3 < ts.size := ⟨_, by rw [← hob], by simp only [List.size_toArray, List.length_append, List.length_cons, List.length_nil]; omega⟩
  obtain ⟨ts, obd, tz⟩ := obd
  have e₁ : h₁.get? e = some oe := (sl₁.2.1 e ne).trans oe_at
  have e₂ : (h₁.push ob).get? e = some oe := Heap.get?_push_of_some ob e₁
  refine wpAny_setField e₂ od z ?_
  have Te : h₁.objs.size ≠ e := Nat.ne_of_gt (Heap.lt_size e₁)
  have d₃ := Obj.data_mapFields od (·.setIfInBounds 1 (Value.ref h₁.objs.size))
  have e₃ := Heap.get?_update_self (Obj.mapFields (·.setIfInBounds 1 (Value.ref h₁.objs.size))) e₂ (Obj.isFreed_of_fields d₃)
  have t₂ : (h₁.push ob).get? h₁.objs.size = some ob := Heap.get?_push_size h₁ (Obj.isFreed_of_fields obd)
  have t₃ := (Heap.get?_update_other (h₁.push ob) (Obj.mapFields (·.setIfInBounds 1 (Value.ref h₁.objs.size))) (Ne.symm Te)).trans t₂
  unfold setFlight
  refine wpAny_bind (wpAny_field e₃ d₃ (x := .ref h₁.objs.size) (by simp [z]) ?_)
  rw [if_pos (by simp)]
  refine wpAny_setField t₃ obd tz (q _ ?_)
  have kk : ∀ b o, b ≠ e → h₁.get? b = some o → (((h₁.push ob).update e (Obj.mapFields (·.setIfInBounds 1 (Value.ref h₁.objs.size)))).update h₁.objs.size (Obj.mapFields (·.setIfInBounds 3 ((none : Option Addr).elim Value.none fun f => rawInt f)))).get? b = some o := by
    intro b o nb hb
    rw [Heap.get?_update_other _ _ (Nat.ne_of_gt (Heap.lt_size hb)), Heap.get?_update_other _ _ (Ne.symm nb)]
    exact Heap.get?_push_of_some ob hb
  refine ⟨fun b o nf nb _ hb => kk b o nb ((sl₁.2.1 b nf).trans hb), fun b o nb _ hb => ?_, ⟨vs.setIfInBounds 1 (Value.ref h₁.objs.size), h₁.objs.size, ?_, by simp [z], Te, by rw [sl₁.1]; exact Nat.le_refl _, ?_⟩, fun b z => by cases z⟩
  · obtain ⟨sl, hs⟩ := sl₁.2.2 b o hb
    exact ⟨sl, kk b _ nb hs⟩
  · rw [Heap.get?_update_other _ _ Te, e₃]
    obtain ⟨c, d, dt, sl⟩ := oe
    cases od
    rfl
  · exact ⟨_, _, Heap.get?_update_self _ t₃ (Obj.isFreed_of_fields (Obj.data_mapFields obd _)), Obj.data_mapFields obd _, by simp [tz]⟩
theorem fly {oe : Obj} {vs : Array Value} {old : Option Addr} {Q : Unit → Shared → Prop} (fr : A.frames = some (env :: outer)) (ff : s.heap.FunFrames base (env :: outer)) (ef : env.frame = some L)
    (oe_at : s.heap.get? e = some oe) (od : oe.data = .fields vs) (ht : vs[1]? = some (old.elim .none .ref)) (ho : ∀ T, old = some T → T ≠ e ∧ tbO T s.heap)
    (q : ∀ h', Li (frs (env :: outer)) e old oe s.heap h' → Q () { s with heap := h' }) :
    wpAny M A (noteFrame (.ref e) env) (fun _ s' => wpAny M A (setFlight (.ref e) none) Q E s') E s := by
  have z : 1 < vs.size := (Array.getElem?_eq_some_iff.mp ht).1
  unfold noteFrame
  simp only [ef]
  refine wpAny_bind (wpAny_field oe_at od ht ?_)
  cases old with
  | none =>
    rw [if_neg (by simp)]
    exact Lk fr ff ef oe_at od z q
  | some T =>
    obtain ⟨Te, oT, ts, hT, dT, h3⟩ := ho T rfl
    rw [if_pos (by simp)]
    refine wpAny_bind (wpAny_field hT dT h3 ?_)
    rw [if_neg (by simp [rawInt])]
    have tz : 3 < ts.size := (Array.getElem?_eq_some_iff.mp h3).1
    refine wpAny_bind (wpAny_setField hT dT tz ?_)
    have oth : ∀ b, b ≠ T → (s.heap.update T (Obj.mapFields (·.setIfInBounds 3 Value.none))).get? b = s.heap.get? b := fun b hb => Heap.get?_update_other _ _ (Ne.symm hb)
    have dT' := Obj.data_mapFields dT (·.setIfInBounds 3 Value.none)
    have hT' := Heap.get?_update_self (Obj.mapFields (·.setIfInBounds 3 Value.none)) hT (Obj.isFreed_of_fields dT')
    have nT : T ∉ frs (env :: outer) := fun hm => by
      obtain ⟨_, o, ho, hnf⟩ := ff.mem hm
      rw [hT] at ho; cases ho; exact hnf ts dT
    refine Lk (s := { s with heap := s.heap.update T (Obj.mapFields (·.setIfInBounds 3 Value.none)) }) fr (ff.of_keeps fun b o hb hnf => ⟨o, (oth b fun w => by subst w; rw [hT] at hb; cases hb; exact hnf ts dT).trans hb, rfl⟩) ef ((oth e (Ne.symm Te)).trans oe_at) od z fun h' F => q h' ?_
    obtain ⟨vs', T', x1, x2, x3, x4, x5⟩ := F.exc
    refine ⟨fun b o nf nb no hb => F.keep b o nf nb (by simp) ((oth b fun w => no (by rw [w])).trans hb), fun b o nb no hb => F.slot b o nb (by simp) ((oth b fun w => no (by rw [w])).trans hb), ⟨vs', T', x1, x2, x3, ?_, x5⟩, fun b w => ?_⟩
    · simpa [Heap.size_update] using x4
    · cases w
      exact ⟨_, _, F.keep T _ nT Te (by simp) hT', dT', by simp [tz]⟩
end
section
variable {P : Program} {w : World} {H : Hp} {h h' : Heap} {fs : List Addr} {e : Addr} {oe : Obj} {vs : Array Value} {old : Option Addr} {φ : Heap → Prop}
theorem Li.held (F : Li fs e old oe h h') (oe_at : h.get? e = some oe) (hok : HOk P w H h) (ff : ∀ b ∈ fs, H b = none) (He : H e = some (.ext φ)) (hφ : ∀ h1 h2 : Heap, (∀ o vs, h1.get? e = some o → h2.get? e = some { o with data := .fields vs } → φ h1 → φ h2))
    (ho : ∀ T, old = some T → H T = some (.ext (tbO T))) :
    ∃ H', Same H H' ∧ Un fs [] H H' h h' ∧ HOk P w H' h' ∧ Ea h' H' e := by
  obtain ⟨vs', T, x1, x2, x3, x4, x5⟩ := F.exc
  have nT : H T = none := hok.fresh x4
  have eT : ∀ b, old = some b → b ≠ T := fun b w z => by
    have := ho b w
    rw [z, nT] at this; cases this
  have hs : Same H (upd H T (.ext (tbO T))) := fun b o q => by rw [Ag (Ak q nT)]; exact q
  have tr : ∀ b o, H b = none → h.get? b = some o → b ≠ e ∧ old ≠ some b := fun b o n q => ⟨fun z => (by rw [z, He] at n; cases n), fun z => (by rw [ho b z] at n; cases n)⟩
  refine ⟨upd H T (.ext (tbO T)), hs, ⟨fun b o q n nf _ => F.keep b o nf (tr b o n q).1 (tr b o n q).2 q, fun b o q n _ _ => F.slot b o (tr b o n q).1 (tr b o n q).2 q, fun b o q n _ => ?_, fun b o q _ => ?_, fun b xs q => hs b _ q, fun b o u q => hs b _ q, fun b ps q => ⟨#[], by rw [hs b _ q]; simp⟩⟩, fun b u q => ?_, ⟨_, vs', x1, rfl, .inr ⟨T, x2, x3, Am⟩⟩⟩
  · rw [Ag]
    · exact n
    · intro z; rw [z, Heap.get?_none_of_le x4] at q; cases q
  · by_cases z : b = e
    · exact ⟨_, by rw [z]; exact x1⟩
    · by_cases z' : old = some b
      · obtain ⟨o', _, k, _⟩ := F.old b z'; exact ⟨o', k⟩
      · obtain ⟨sl, k⟩ := F.slot b o z z' q; exact ⟨_, k⟩
  · by_cases z : b = T
    · subst z
      rw [Am] at q; cases q
      exact ⟨x5, let ⟨o, _, k, _⟩ := x5; ⟨o, k⟩, HD⟩
    · rw [Ag z] at q
      by_cases z1 : b = e
      · subst z1
        rw [He] at q; cases q
        obtain ⟨p1, _, p3⟩ := hok b _ He
        exact ⟨hφ h h' oe vs' oe_at x1 p1, ⟨_, x1⟩, p3⟩
      · by_cases z2 : old = some b
        · rw [ho b z2] at q; cases q
          have k := F.old b z2
          exact ⟨k, let ⟨o, _, k, _⟩ := k; ⟨o, k⟩, HD⟩
        · refine (hok b u q).stay (fun c v hc r => ?_) (fun c r => hs c _ r) fun c xs r => hs c _ r
          have nf : c ∉ fs := fun m => by
            have := ff c m
            rcases hc with rfl | hc
            · rw [q] at this; cases this
            · rw [hc] at this; cases this
          refine F.keep c v nf ?_ ?_ r
          · rintro rfl
            rcases hc with rfl | hc
            · exact z1 rfl
            · rw [He] at hc; cases hc
          · intro m
            rcases hc with rfl | hc
            · exact z2 m
            · rw [ho c m] at hc; cases hc
end
theorem K1 {a C dx : Addr} (h1 h2 : Heap) (o : Obj) (vs : Array Value) (e1 : h1.get? a = some o) (e2 : h2.get? a = some { o with data := .fields vs }) (x : exO a C dx h1) : exO a C dx h2 := by
  obtain ⟨o', vs', q, r1, r2, r3⟩ := x
  rw [e1] at q; cases q
  exact ⟨_, vs, e2, r1, r2, rfl⟩
end L2
namespace L2
open PySem PySem.Spec PyProof.Rows
noncomputable def Exc (H : Hp) (a : Addr) : Prop := ∃ C dx, H a = some (.ext (exO a C dx))
theorem Exc.same {H H' : Hp} {a : Addr} (x : Exc H a) (s : Same H H') : Exc H' a := let ⟨C, dx, e⟩ := x; ⟨C, dx, s _ _ e⟩
noncomputable def CXe (P : Program) (w : World) : CXT := fun outer H s E e s' =>
  ∃ a H', e = .ref a ∧ s'.os = s.os ∧ AllBare s'.gens ∧ Un (frs outer) [] H H' s.heap s'.heap ∧ HOk P w H' s'.heap ∧ Ea s'.heap H' a ∧ Exc H' a ∧ E (.ref a) none H'
noncomputable def Mp (X : Cx) (σ : St) (a : Addr) (H : Hp) : Prop := ∀ (pins : List (Addr × Obj)) (s : Shared), Inv X pins σ H s → Ea s.heap H a → Exc H a → X.xe (.ref a) s
section
variable {X : Cx} {pins : List (Addr × Obj)} {σ : St} {H : Hp} {s : Shared} {a : Addr} {E : Value → Shared → Prop} {Q : Unit → Shared → Prop}
theorem U9 (I : Inv X pins σ H s) (hst : X.stack = X.env :: X.outer) (hfr : X.env.frame = some X.env.locals) (fl : Ea s.heap H a) (ex : Exc H a)
    (q : ∀ H' h', Same H H' → Un (frs X.stack) [] H H' s.heap h' → HOk X.prog X.w H' h' → Ea h' H' a → Q () { s with heap := h' }) :
    wpAny (model X.prog X.w) X.A (noteFrame (.ref a) X.env) (fun _ s' => wpAny (model X.prog X.w) X.A (setFlight (.ref a) none) Q E s') E s := by
  obtain ⟨o, vs, e1, e2, e3⟩ := fl
  obtain ⟨C, dx, He⟩ := ex
  have ff := I.stack
  have fr := I.ok.frames
  rw [hst] at ff fr
  have key : ∀ old : Option Addr, vs[1]? = some (old.elim .none .ref) → (∀ T, old = some T → T ≠ a ∧ H T = some (.ext (tbO T))) →
      wpAny (model X.prog X.w) X.A (noteFrame (.ref a) X.env) (fun _ s' => wpAny (model X.prog X.w) X.A (setFlight (.ref a) none) Q E s') E s := by
    intro old h1 h2
    refine fly fr ff hfr e1 e2 h1 (fun T z => ⟨(h2 T z).1, (I.hok T _ (h2 T z).2).1⟩) fun h' F => ?_
    obtain ⟨H', y1, y2, y3, y4⟩ := F.held e1 I.hok (fun b hb => I.stkFree b (by rw [hst]; exact hb)) He (fun h1 h2 o vs x1 x2 x3 => K1 h1 h2 o vs x1 x2 x3) fun T z => (h2 T z).2
    exact q H' h' y1 (by rw [hst]; exact y2) y3 y4
  rcases e3 with e3 | ⟨T, e3, e4, e5⟩
  · exact key none e3 fun _ z => by cases z
  · exact key (some T) e3 fun _ z => by cases z; exact ⟨e4, e5⟩
theorem lands (I : Inv X pins σ H s) (hst : X.stack = X.env :: X.outer) (hfr : X.env.frame = some X.env.locals) (fl : Ea s.heap H a) (ex : Exc H a)
    (q : ∀ H' s', Same H H' → Inv X pins σ H' s' → Ea s'.heap H' a → Q () s') :
    wpAny (model X.prog X.w) X.A (noteFrame (.ref a) X.env) (fun _ s' => wpAny (model X.prog X.w) X.A (setFlight (.ref a) none) Q E s') E s :=
  U9 I hst hfr fl ex fun H' h' y1 y2 y3 y4 => q H' _ y1 (I.call (t' := s.toks) (g' := s.gens) (d' := s.drawn) (ch := []) y2 y3 I.bare fun b z => absurd z (by simp)) y4
theorem leaves (I : Inv X pins σ H s) (hst : X.stack = X.env :: X.outer) (hfr : X.env.frame = some X.env.locals) (hx : X.ex = []) (fl : Ea s.heap H a) (ex : Exc H a)
    (q : ∀ H' s', s'.os = X.s₀.os → AllBare s'.gens → Same H H' → Un (frs X.outer) [] X.H₀ H' X.s₀.heap s'.heap → HOk X.prog X.w H' s'.heap → Ea s'.heap H' a → Exc H' a → Q () s') :
    wpAny (model X.prog X.w) X.A (leaving X.env (.ref a)) Q E s := by
  refine wpAny_bind (U9 I hst hfr fl ex fun H' h' y1 y2 y3 y4 => q H' _ I.os I.bare y1 ?_ y3 y4 (ex.same y1))
  have b := I.base
  rw [hx] at b
  have nl : ∀ c o, X.s₀.heap.get? c = some o → c ≠ X.env.locals := fun c o e => Nat.ne_of_lt (Nat.lt_of_lt_of_le (Heap.lt_size e) I.ok.above)
  have nf : ∀ c o, X.s₀.heap.get? c = some o → c ∉ frs X.outer → c ∉ frs X.stack := fun c o e n m => (List.mem_cons.mp (I.stkSub c m)).elim (nl c o e) n
  refine ⟨fun c o e n m _ => y2.keep c o (b.keep c o e n m (by simp)) (b.free c o e n (by simp)) (nf c o e m) (by simp), fun c o e n m _ => ?_, fun c o e n _ => ?_, fun c o e _ => ?_, fun c xs e => y2.tups c xs (b.tups c xs e), fun c o u e => y2.frzs c o u (b.frzs c o u e), fun c ps e => ?_⟩
  · obtain ⟨sl, e1⟩ := b.slot c o e n m (by simp)
    obtain ⟨sl', e2⟩ := y2.any e1 (b.free c o e n (by simp)) (by simp)
    exact ⟨sl', e2⟩
  · obtain ⟨o', e1⟩ := b.there c o e (by simp)
    exact y2.free c o' e1 (b.free c o e n (by simp)) (by simp)
  · obtain ⟨o', e1⟩ := b.there c o e (by simp)
    exact y2.there c o' e1 (by simp)
  · obtain ⟨m1, e1⟩ := b.tbls c ps e
    obtain ⟨m2, e2⟩ := y2.tbls c _ e1
    exact ⟨m1 ++ m2, by rw [e2, Array.append_assoc]⟩
end
theorem QS {P : Program} {w : World} {K : PySem.W.Frag} {mg : Str → Option Value} {base : Heap} {N : List Str} {qual : Str} {scope : Scope} {f : Addr} {cd : Value} {A : Around} {outer : List Env} {s : Shared} {H₀ : Hp} {E : XK} {σ : St} {a : Addr} {H : Hp}
    (h : ∀ H', Same H H' → E (.ref a) none H') : Mp (Jc (CXe P w) P w K mg base N qual scope f cd A outer s H₀ E) σ a H := fun pins s1 I fl ex =>
  leaves I rfl rfl rfl fl ex fun H' s' y1 y2 y3 y4 y5 y6 y7 => ⟨a, H', rfl, y1, y2, y4, y5, y6, y7, h H' y3⟩
section
variable {X : Cx} {k : Nat} {f : Addr} {fd : FuncData} {ps : List Str} {sp : Sp} {x : Str} {p pos : Pos} {e : Expr} {es : List Expr} {t : TA}
noncomputable def WM (X : Cx) (sp : Sp) (t : TA) : TE := fun σ H Q => t σ H fun vs H1 => sp vs H1 Q fun v _ H' => ∃ a, v = .ref a ∧ Mp X σ a H'
theorem Td {pins : List (Addr × Obj)} {σ : St} {H : Hp} {s : Shared} {Q : VK} {us : List Value} {vs : List V} (F : DY X.prog X.w X.K X.mg X.base (CXe X.prog X.w) k f fd ps sp) (hr : Ck k X.A) (hb : Binds X.K fd ps [])
    (I : Inv X pins σ H s) (r : Vals vs us) (h : sp vs H Q fun v _ H' => ∃ a, v = .ref a ∧ Mp X σ a H') : wpAny (model X.prog X.w) X.A (call (.ref f) us) (EP X pins σ Q) X.xe s := by
  have hl : us.length = ps.length := by rw [← r.length]; exact F.len _ _ _ _ h
  have hb' := hb s us I.kIn (by rw [List.append_nil]; exact hl)
  rw [List.append_nil] at hb'
  refine wpAny_call (codeAny_mono (F.run X.A X.stack s H ⟨us, []⟩ us vs Q _ hr I.env0 hb' r h) fun r s' hq => ?_)
  cases r with
  | error e =>
    obtain ⟨a, H', rfl, y1, y2, y3, y4, y5, y6, a', y7, y8⟩ := hq
    cases y7
    exact y8 pins s' (I.call' (ch := []) y1 y3 y4 y2 fun b z => absurd z (by simp)) y5 y6
  | ok fl =>
    cases fl with
    | ret u => exact I.after hq
    | next => exact False.elim hq
    | brk => exact False.elim hq
    | cont => exact False.elim hq
theorem Ql (F : DY X.prog X.w X.K X.mg X.base (CXe X.prog X.w) k f fd ps sp) (hr : Ck k X.A) (hg : Gl X x) (hm : X.mg x = some (.ref f)) (hk : PySem.W.keepIn X.K (.ref f) = true) (hb : Binds X.K fd ps [])
    (ha : PA X (e :: es) t) (hdb : (x == ("__debug__" : Str)) = false := by decide) (he : starEach (e :: es) X.env = (false, eval e X.env) :: starEach es X.env := by rfl) (hpl : (backTo pos (starEach es X.env)).any (·.1) = false := by rfl) :
    PE X (.Call (.Name x p) (e :: es) [] pos) (WM X sp t) := by
  intro pins s σ H Q I h
  refine wpAny_Call_Name_kw (Ft I hg hm ?_ hdb)
  refine PySem.W.callWith_K (h₀ := X.base) I.ok.mod.kin hk (thn (ha pos pins s σ H _ I h) fun us s1 ⟨vs, H1, I1, r, q⟩ => ⟨I1.kIn, Td F hr hb I1 r q⟩) he hpl
theorem DY.calm {P : Program} {w : World} {K : PySem.W.Frag} {mg : Str → Option Value} {base : Heap} {k : Nat} {f : Addr} {fd : FuncData} {ps : List Str} {sp sp' : Sp} (F : DY P w K mg base (CXe P w) k f fd ps sp)
    (h : ∀ vs H Q E, sp' vs H Q E → sp vs H Q E0) : DY P w K mg base CX0 k f fd ps sp' :=
  ⟨fun vs H Q E q => F.len vs H Q E0 (h _ _ _ _ q), fun A outer s H args us vs Q E hr he hb hv hs => codeAny_mono (F.run A outer s H args us vs Q E0 hr he hb hv (h _ _ _ _ hs)) fun r s' hq => by
    cases r with
    | error e => obtain ⟨_, _, _, _, _, _, _, _, _, z⟩ := hq; exact z.elim
    | ok fl => cases fl <;> exact hq⟩
end
end L2
namespace L2
open PySem PySem.Spec PyProof.Rows
noncomputable abbrev bmV : List Value := [.type "ValueError", .type "Exception", .type "BaseException", .type "object"]
noncomputable def Mf (es : Array DictEntry) : Bool := es.toList.all fun e => match e.key with | .str _ _ => true | _ => false
theorem LC {es : Array DictEntry} (h : Mf es = true) : StrKeys es := fun e he => by
  have := List.all_eq_true.mp h e (Array.mem_toList_iff.mpr he)
  split at this
  · rename_i n t q; exact ⟨n, t, q⟩
  · cases this
structure XC (K : PySem.W.Frag) (C F : Addr) : Prop where
  obj : ∃ nm q N bs sn sub ab col dd k0 k1 k2 k3 k5, K.lookup C = some (excClassObj nm q C N bs (.ref F :: bmV) true sn sub ab col dd k0 k1 k2 k3 k5 "ValueError.__new__")
  tail : ∃ c0 dd cd sl oc od es ep sl', K.lookup F = some ⟨c0, dd, .cls cd, sl⟩ ∧ K.lookup cd.ns = some ⟨oc, od, .dict es ep, sl'⟩ ∧ Mf es = true ∧ nsFind es "__init__" = none
  sa : PySem.W.findIn K (.ref C) "__setattr__" = some (some (.builtin "object.__setattr__"))
  ga : PySem.W.findIn K (.ref C) "__getattribute__" = some (some (.builtin "BaseException.__getattribute__"))
  gh : PySem.W.findIn K (.ref C) "__getattr__" = some none
  cl : PySem.W.findIn K (.ref C) "__class__" = some (some (.builtin "object.__class__"))
  gg : PySem.W.specialIn K (.builtin "object.__class__") "__get__" = some (some (.builtin "getset_descriptor.__get__"))
  gt : PySem.W.takesIn K (.builtin "object.__class__") = some true
theorem XC.own {K : PySem.W.Frag} {C F : Addr} {h : Heap} (c : XC K C F) (X : K.In h) : OwnTail h bmV (.ref F :: bmV) := by
  obtain ⟨c0, dd, cd, sl, oc, od, es, ep, sl', h1, h2, h3, h4⟩ := c.tail
  exact .own (X _ _ h1) ⟨_, es, ep, X _ _ h2, rfl, LC h3, fun _ => rfl⟩ h4 .base
noncomputable def excAt (C t : Addr) : Obj := { cls := .ref C, data := .fields #[.ref t, .none, .none, .none, .bool false, .none] }
noncomputable def Tz (vs : List Value) : Obj := { cls := .type "tuple", data := .seq vs.toArray }
noncomputable def withExc (h : Heap) (C : Addr) (vs : List Value) : Heap := (h.push (Tz vs)).push (excAt C h.objs.size)
theorem Gg {h : Heap} {C : Addr} {vs : List Value} {b : Addr} {o : Obj} (e : h.get? b = some o) : (withExc h C vs).get? b = some o := Heap.get?_push_of_some _ (Heap.get?_push_of_some _ e)
theorem FQ {h : Heap} {C : Addr} {vs : List Value} : (withExc h C vs).get? (h.objs.size + 1) = some (excAt C h.objs.size) := by
  unfold withExc
  have e : h.objs.size + 1 = (h.push (Tz vs)).objs.size := (Heap.size_push _ _).symm
  rw [e]; exact Heap.get?_push_size _ rfl
section
variable {prog : Program} {w : World} {A : Around} {E : Value → Shared → Prop} {s : Shared} {K : PySem.W.Frag} {C U fI : Addr} {rest : List Value}
theorem LR {Q : Fin → Shared → Prop} (X : K.In s.heap) (c : XC K C U) (hi : PySem.W.findIn K (.ref C) "__init__" = some (some (.ref fI))) (hf : PySem.W.typeIn K (.ref fI) = some (.type "function")) (hz : rest.length ≤ sizeLine)
    (hq : wpAny (model prog w) A (call (.ref fI) (.ref (s.heap.objs.size + 1) :: rest)) (fun r s' => r = .none ∧ Q (.done (.ret (.ref (s.heap.objs.size + 1)))) s') E { s with heap := withExc s.heap C rest }) :
    wpAny (model prog w) A (Builtin.«type.__call__» ⟨.ref C :: rest, []⟩) Q E s := by
  obtain ⟨nm, q, N, bs, sn, sub, ab, col, dd, k0, k1, k2, k3, k5, lk⟩ := c.obj
  obtain ⟨h, g, d, t, os⟩ := s
  have oC : h.get? C = some _ := X _ _ lk
  have T := c.own X
  have FB := F.excBase_ValueError
  repeat (first | with_reducible refine wpAny_loadPart_at oC ?_ | with_reducible refine wpAny_madeBy_exc oC ?_ | wp_step)
  refine codeAny_call_builtin_code (Code.quiet_builtin _ FB.quiet) (wpAny_check_new_subT FB T oC (codeAny_exc_new_subT FB T oC ?_ hz))
  show wpAny (model prog w) A _ Q E { heap := withExc h C rest, gens := g, drawn := d, toks := t, os := os }
  have X1 : K.In (withExc h C rest) := X.keeps fun _ _ => Gg
  have oC1 : (withExc h C rest).get? C = some _ := X1 _ _ lk
  have oe : (withExc h C rest).get? (h.objs.size + 1) = some { cls := .ref C, data := .fields #[.ref h.objs.size, .none, .none, .none, .bool false, .none] } := FQ
  have cC : (Value.ref C :: (.ref U :: bmV)).contains (.ref C) = true := by simp
  unfold isInstance
  repeat (first | with_reducible refine wpAny_loadPart_at oe ?_ | (with_reducible refine wpAny_isSubtype_exc oC1 ?_; rw [cC]) | wp_step)
  show wpAny _ _ (typeLookup (.ref C) _) _ _ _
  refine (PySem.W.looks_findIn X1 hi) _ _ _ _ (fun _ _ e => e) ?_
  refine wpAny_holding (wpAny_bind ((PySem.W.bind_fn X1 (.ref (h.objs.size + 1)) hf) _ _ _ _ (fun _ _ e => e) ?_))
  refine wpAny_bind (wpAny_mono hq (fun r s' hr => ?_) fun _ _ x => x)
  obtain ⟨rfl, hQ⟩ := hr
  wp_walk
  exact hQ
theorem M9 {Q : Value → Shared → Prop} (X : K.In s.heap) (c : XC K C U) (hi : PySem.W.findIn K (.ref C) "__init__" = some (some (.ref fI))) (hf : PySem.W.typeIn K (.ref fI) = some (.type "function")) (hz : rest.length ≤ sizeLine)
    (hq : wpAny (model prog w) (A.under (.builtin "type.__call__" ⟨.ref C :: rest, []⟩)) (call (.ref fI) (.ref (s.heap.objs.size + 1) :: rest)) (fun r s' => r = .none ∧ Q (.ref (s.heap.objs.size + 1)) s') E { s with heap := withExc s.heap C rest }) :
    wpAny (model prog w) A (call (.ref C) rest) Q E s := by
  obtain ⟨nm, q, N, bs, sn, sub, ab, col, dd, k0, k1, k2, k3, k5, lk⟩ := id c.obj
  obtain ⟨h, g, d, t, os⟩ := s
  have oC : h.get? C = some _ := X _ _ lk
  have u1 := tc_lookup
  have u2 := tc_bind (.ref C)
  have u3 : (⟨h, g, d, t, os⟩ : Shared).TypeIs (.ref C) "type" := ⟨_, oC, rfl⟩
  refine wpAny_call (codeAny_of_tree ?_)
  show wpAny _ _ (callAny (.ref C) _) _ _ _
  repeat (any_goals (first | assumption | with_reducible refine wpAny_loadPart_at oC ?_ | wp_step))
  exact ⟨rfl, codeAny_call_builtin_at (Code.quiet_builtin _ (by decide +kernel)) entry_typeCall (wpAny_check_type_call_sub oC (LR X c hi hf hz hq))⟩
theorem M4 {env : Env} {x : Sem Value} {Q : Flow → Shared → Prop} (c : XC K C U) (hh : A.handled = none)
    (h : wpAny (model prog w) A x (fun v s₁ => K.In s₁.heap ∧ ∃ e od vs sl, v = .ref e ∧ s₁.heap.get? e = some ⟨.ref C, od, .fields vs, sl⟩ ∧ vs[1]? = some .none ∧ E (.ref e) s₁) E s) :
    wpAny (model prog w) A (raiseStmt env (some x) none) Q E s := by
  obtain ⟨nm, q, N, bs, sn, sub, ab, col, dd, k0, k1, k2, k3, k5, lk⟩ := c.obj
  have cB : (Value.ref C :: (.ref U :: bmV)).contains (.type "BaseException") = true := by simp
  unfold raiseStmt
  refine wpAny_bind (wpAny_mono h (fun v s₁ h₁ => ?_) fun _ _ x => x)
  obtain ⟨X, e, od, vs, sl, rfl, he, h1, hE⟩ := h₁
  obtain ⟨hp, g, d, tk, os⟩ := s₁
  have oC : hp.get? C = some _ := X _ _ lk
  repeat (first | with_reducible refine wpAny_loadPart_at he ?_ | with_reducible refine wpAny_field he rfl h1 ?_ | with_reducible refine wpAny_loadPart_at oC ?_ | (with_reducible refine wpAny_isSubtype_exc oC ?_; rw [cB]) | wp_step)
  exact wpAny_raiseNew_none hh hE
end
end L2
namespace L2
open PySem PySem.Spec PyProof.Rows PySem.W PySem.Builtin PySem.Builtin.ObjectAttr
section
variable {prog : Program} {w : World} {A : Around} {E : Value → Shared → Prop} {s : Shared} {K : PySem.W.Frag} {C U x : Addr} {name : Str} {v : Value}
theorem XC.cls (c : XC K C U) : ∃ cd, clsIn K C = some cd ∧ cd.mro = .ref C :: .ref U :: bmV ∧ cd.hasDict = true := by
  obtain ⟨nm, q, N, bs, sn, sub, ab, col, dd, k0, k1, k2, k3, k5, lk⟩ := c.obj
  exact ⟨_, by unfold clsIn; rw [lk], rfl, rfl⟩
theorem XC.sub (c : XC K C U) (b : Value) : mroIn K C b = some ((Value.ref C :: .ref U :: bmV).contains b) := by
  obtain ⟨cd, h1, h2, _⟩ := c.cls
  unfold mroIn
  rw [h1, Option.bind_some, h2]
  rfl
structure XB (K : PySem.W.Frag) (C : Addr) : Prop where
  obj : ∃ nm q N bs bm hd sn sub ab col dd k0 k1 k2 k3 k5, K.lookup C = some (excClassObj nm q C N bs bm hd sn sub ab col dd k0 k1 k2 k3 k5 "ValueError.__new__")
  sb : mroIn K C (.type "BaseException") = some true
  so : mroIn K C (.type "object") = some true
  ga : PySem.W.findIn K (.ref C) "__getattribute__" = some (some (.builtin "BaseException.__getattribute__"))
  gh : PySem.W.findIn K (.ref C) "__getattr__" = some none
  cl : PySem.W.findIn K (.ref C) "__class__" = some (some (.builtin "object.__class__"))
  gg : PySem.W.specialIn K (.builtin "object.__class__") "__get__" = some (some (.builtin "getset_descriptor.__get__"))
  gt : PySem.W.takesIn K (.builtin "object.__class__") = some true
theorem XC.xb (c : XC K C U) : XB K C := by
  obtain ⟨nm, q, N, bs, sn, sub, ab, col, dd, k0, k1, k2, k3, k5, lk⟩ := id c.obj
  exact ⟨⟨_, _, _, _, _, _, _, _, _, _, _, _, _, _, _, _, lk⟩, by rw [c.sub]; simp, by rw [c.sub]; simp, c.ga, c.gh, c.cl, c.gg, c.gt⟩
theorem XB.cls (c : XB K C) : (clsIn K C).isSome = true := by
  obtain ⟨nm, q, N, bs, bm, hd, sn, sub, ab, col, dd, k0, k1, k2, k3, k5, lk⟩ := c.obj
  unfold clsIn; rw [lk]; rfl
theorem M7 {R : Result → Shared → Prop} {od : Option Obj} {ox : Obj} {tk : Tok} (X : K.In s.heap) (c : XC K C U) (I : InstAt s.heap x ox C od) (ht : takerIn K C name = some none)
    (h : ∀ b, wpAny (model prog w) A.in1 (storeInOwnDict (.ref x) (.ref C) (.str name tk) name v b)
      (fun fin s' => match fin with | .done f => R (.ok f) s' | .again c' => c'.quiet = true ∧ codeAny (model prog w) A c' R s') (fun e s' => R (.error e) s') s) :
    codeAny (model prog w) A (.call (.builtin "object.__setattr__") ⟨[.ref x, .str name tk, v], []⟩) R s := by
  have SF := PySem.F.store_object
  have SV := PySem.F.store_ValueError
  obtain ⟨cd, hc, hm, _⟩ := c.cls
  have sub : Looks (model prog w) s.heap (isInstance (.ref x) (.type "object")) true := I.type.andThen (looks_mroIn X (by rw [c.sub]; simp))
  refine codeAny_call_builtin SF.slot.plain SF.entry (@check_slot (model prog w) _ _ s "object.__setattr__" "object" "__setattr__" (.ref x) [.str name tk, v] [] _ SF.kind SF.split sub (SF.args (.ref x) (.str name tk) v) ?_)
  obtain ⟨attr, ha, hr⟩ := Option.bind_eq_some_iff.mp ht
  have mr : Looks (model prog w) s.heap (mroOf (.ref C)) cd.mro := (looks_clsIn X hc).andThen .now
  have tk3 : Looks (model prog w) s.heap (storeTaker? attr) none := by
    cases attr with
    | none => exact .now
    | some a =>
      obtain ⟨b, hb, hn⟩ := Option.map_eq_some_iff.mp hr
      refine (looks_takesIn X hb).andThen ?_
      cases b with
      | true => cases hn
      | false => exact .now
  rw [osa_eq, refuse_eq]
  refine wpAny_bind (wpAny_bind (I.type.here (wpAny_bind (mr.here ?_))))
  rw [hm, refuseLoop_ref, refuseLoop_ref, SV.passes]
  exact wpAny_pure (wpAny_bind (I.type.here (wpAny_bind ((looks_findIn X ha).here (wpAny_bind (tk3.here (h _)))))))
theorem Aar {Q : Unit → Shared → Prop} {vs : Array Value} {sl : Array (Option Value)} (X : K.In s.heap) (c : XC K C U) (ht : takerIn K C name = some none) (hx : s.heap.get? x = some ⟨.ref C, none, .fields vs, sl⟩)
    (h : ∀ h' tk', h'.get? x = some ⟨.ref C, some s.heap.objs.size, .fields vs, sl⟩ → h'.Ns1 s.heap.objs.size (fun y => if y = name then some v else none) → (∀ b o, b ≠ x → s.heap.get? b = some o → h'.get? b = some o) → Q () { s with heap := h', toks := tk' }) :
    wpAny (model prog w) A (setAttr (.ref x) name v) Q E s := by
  have I : InstAt s.heap x ⟨.ref C, none, .fields vs, sl⟩ C none := ⟨hx, rfl, rfl, trivial⟩
  refine set_plain X I c.sa (M7 (s := { s with toks := s.toks + 1 }) X c I ht fun b => ?_)
  obtain ⟨cd, hc, hm, hd⟩ := c.cls
  refine wpAny_bind (wpAny_pure (wpAny_bind ?_))
  show wpAny _ _ (instanceDict x true) _ _ _
  unfold instanceDict
  refine wpAny_bind (wpAny_loadPart hx ?_)
  dsimp only
  refine wpAny_bind ((looks_clsIn X hc).here (s := { s with toks := s.toks + 1 }) ?_)
  rw [hd]
  obtain ⟨hp, g, d, t, os⟩ := s
  have x1 : (hp.push { cls := .type "dict", data := .dict #[] }).get? x = some ⟨.ref C, none, .fields vs, sl⟩ := Heap.get?_push_of_some _ hx
  have nx : x ≠ hp.objs.size := Nat.ne_of_lt (Heap.lt_size hx)
  refine wpAny_bind (wpAny_alloc' (wpAny_bind (wpAny_update' x1 ?_)))
  refine wpAny_pure ?_
  have x2 := Heap.get?_update_self (fun o : Obj => { cls := o.cls, dict := some hp.objs.size, data := o.data, slots := o.slots }) x1 rfl
  have gd : ((hp.push { cls := .type "dict", data := .dict #[] }).update x fun o => { cls := o.cls, dict := some hp.objs.size, data := o.data, slots := o.slots }).get? hp.objs.size = some { cls := .type "dict", data := .dict #[] } :=
    (Heap.get?_update_ne _ _ _ _ nx.symm).trans (Heap.get?_push_at rfl rfl)
  have nd : ((hp.push { cls := .type "dict", data := .dict #[] }).update x fun o => { cls := o.cls, dict := some hp.objs.size, data := o.data, slots := o.slots }).Ns hp.objs.size (fun _ => none) :=
    ⟨_, #[], _, gd, rfl, fun e he => absurd he (by simp), fun _ => rfl⟩
  show wpAny _ _ (storeInDict hp.objs.size (.str name _) name v) _ _ _
  unfold storeInDict newKeyGuard
  refine wpAny_bind (wpAny_pure (wpAny_bind (wpAny_nsSet1 (Heap.Ns1.of_empty nd) fun h' hn' hs => ?_)))
  obtain ⟨oD, esD, epD, hoD, hdD, hcD⟩ := hn'.count (Within.cons name v Within.nil)
  refine wpAny_bind (wpAny_lookBehind hoD (by rw [hdD]; exact pastItsLine_dict (Nat.le_trans hcD (by rw [List.length_cons, List.length_nil, sizeLine_eq]; omega))) ?_)
  refine wpAny_pure (h h' _ ((hs.2 x nx).trans x2) hn' fun b o nb hb => ?_)
  exact (hs.2 b (Nat.ne_of_lt (Heap.lt_size hb))).trans ((Heap.get?_update_ne _ _ _ _ nb).trans (Heap.get?_push_of_some _ hb))
end
end L2
namespace L2
open PySem PySem.Spec PyProof.Rows PySem.W PySem.Builtin PySem.Builtin.ObjectAttr
section
variable {prog : Program} {w : World} {A : Around} {E : Value → Shared → Prop} {s : Shared} {K : PySem.W.Frag} {C U x : Addr} {name : Str} {v : Value} {ox : Obj} {od : Option Obj}
theorem Ln {tk : Tok} {fill expr : Bool} {Q : Value → Shared → Prop} (X : K.In s.heap) (c : XB K C) (I : InstAt s.heap x ox C od) (hv : handedIn v = true)
    (h : wpAny (model prog w) A.in1 (Builtin.«object.__getattribute__» ⟨[.ref x, .str name tk], []⟩) (fun fin s' => fin = .done (.ret v) ∧ Q v s') (fun _ _ => False) s) :
    wpAny (model prog w) A (getAttrBy (.ref x) (.str name tk) fill expr) Q E s := by
  have FX := PySem.F.excAttr_ValueError
  have e0 : (expr && onTheHeap (Value.builtin "BaseException.__getattribute__")) = false := by cases expr <;> rfl
  have e2 : (Value.builtin "BaseException.__getattribute__" == Value.builtin "object.__getattribute__") = false := by decide +kernel
  have L0 := I.type (M := model prog w)
  have L1 := looks_findIn (M := model prog w) X c.ga
  have L2 := looks_findIn (M := model prog w) X c.gh
  have sub : Looks (model prog w) s.heap (isInstance (.ref x) (.type "BaseException")) true := I.type.andThen (looks_mroIn X c.sb)
  unfold getAttrBy
  refine wpAny_holding (wpAny_bind (L0.here (wpAny_bind (L1.here ?_))))
  dsimp only
  rw [show (onTheHeap (Value.ref C) && Value.builtin "BaseException.__getattribute__" == Value.builtin "object.__getattribute__") = false by rw [e2]; rfl]
  unfold getAttrByItsOwn hookBefore
  refine wpAny_bind (L2.here (wpAny_bind (wpAny_attempt ?_)))
  unfold callGetattribute
  rw [e0]
  refine wpAny_holding ?_
  unfold boundAndCalled
  rw [show (if false = true then runValue (.builtin "lifetime.attribute" ⟨[.ref x, .str name tk, .builtin "BaseException.__getattribute__"], []⟩) else (do let (g, first) ← bindSpecial (.builtin "BaseException.__getattribute__") (.ref x); call g (first ++ [.str name tk]))) = (do let (g, first) ← bindSpecial (.builtin "BaseException.__getattribute__") (.ref x); call g (first ++ [.str name tk])) from rfl, FX.ga.bind]
  refine wpAny_bind (wpAny_pure (wpAny_call (codeAny_call_builtin FX.ga.plain F.entry_bexc_ga (check_slot (i := "BaseException.__getattribute__") (owner := "BaseException") (n := "__getattribute__") (by decide +kernel) (by decide +kernel) sub (F.args_bexc_ga _ _) (wpAny_mono h (fun fin s' hq => ?_) fun _ _ z => z.elim)))))
  obtain ⟨rfl, q⟩ := hq
  show wpAny _ _ (handedOut v) _ _ _
  rw [handedOut_of hv]
  exact wpAny_pure q
theorem AaY {expr : Bool} {Q : Value → Shared → Prop} (X : K.In s.heap) (c : XB K C) (I : InstAt s.heap x ox C od) (hf : findObj K C od name = some (.value v)) (hv : handedIn v = true) (h : Q v { s with toks := s.toks + 1 }) :
    wpAny (model prog w) A (getAttr (.ref x) name expr) Q E s := by
  unfold getAttr
  refine wpAny_bind (wpAny_mkText (Ln (s := { s with toks := s.toks + 1 }) X c I hv ?_))
  refine wpAny_bind (wpAny_pure (wpAny_bind (wpAny_pure (wpAny_bind (I.type.here (s := { s with toks := s.toks + 1 }) (wpAny_bind ((looks_find X I hf).here (s := { s with toks := s.toks + 1 }) ?_)))))))
  exact wpAny_pure ⟨rfl, h⟩
theorem Ws {Q : Option Value → Shared → Prop} (X : K.In s.heap) (c : XB K C) (I : InstAt s.heap x ox C od) (h : Q (some (.ref C)) { s with toks := s.toks + 1 }) :
    wpAny (model prog w) A (getAttr? (.ref x) "__class__") Q E s := by
  have hf : findObj K C od "__class__" = some (.bind (.builtin "getset_descriptor.__get__") (.builtin "object.__class__")) := by
    obtain ⟨cd, hc⟩ := Option.isSome_iff_exists.mp c.cls
    unfold findObj
    rw [hc, Option.bind_some, c.cl, Option.bind_some]
    simp [c.gg, c.gt]
  unfold getAttr? getAttrBy?
  refine wpAny_bind (wpAny_mkText (wpAny_bind (wpAny_attempt (Ln (v := .ref C) (s := { s with toks := s.toks + 1 }) X c I rfl ?_))))
  refine wpAny_bind (wpAny_pure (wpAny_bind (wpAny_pure (wpAny_bind (I.type.here (s := { s with toks := s.toks + 1 }) (wpAny_bind ((looks_find X I hf).here (s := { s with toks := s.toks + 1 }) ?_)))))))
  show wpAny _ _ (holding [.builtin "object.__class__"] (call (.builtin "getset_descriptor.__get__") [.builtin "object.__class__", .ref x, .ref C]) >>= ret) _ _ _
  exact wpAny_bind (wpAny_holding (wpAny_call (class_get (s := { s with toks := s.toks + 1 }) X I c.so (wpAny_pure ⟨rfl, wpAny_pure h⟩))))
theorem Qs (c : XB K C) : KitX K (.ref x) (.ref C) (fun h => ∃ ox od, InstAt h x ox C od) where
  ty := fun _ _ _ ⟨_, _, I⟩ => I.type
  it := fun _ _ X _ => by
    obtain ⟨nm, q, N, bs, bm, hd, sn, sub, ab, col, dd, k0, k1, k2, k3, k5, lk⟩ := c.obj
    intro A' Q' E' s' k q
    unfold isType loadHead
    exact wpAny_bind (wpAny_loadPart (k _ _ (X _ _ lk)) (wpAny_pure q))
  ne := fun h tp dd its n sl X htp => by
    obtain ⟨nm, q, N, bs, bm, hd, sn, sub, ab, col, dd, k0, k1, k2, k3, k5, lk⟩ := c.obj
    refine Bool.eq_false_iff.mpr fun q => ?_
    have e : C = tp := Value.ref.inj (beq_iff_eq.mp q)
    subst e
    have z := congrArg Obj.cls (Option.some.inj ((X _ _ lk).symm.trans htp))
    exact absurd (Value.type.inj z) (by decide)
  ca := fun X ⟨_, _, I⟩ k => Ws X c I k
end
end L2
namespace L2
open PySem PySem.Spec PyProof.Rows PySem.SeqAt
inductive Dt where
  | non | bl (b : Bool) | int (i : Int) | str (x : Str) | tup (ds : List Dt) | lst (ds : List Dt) | fn (a : Addr)
    | exc (c : Str) (ns : List Str) (ds : List Dt)
    | obj (c : Str) (ns : List Str) (ds : List Dt)
noncomputable def LsD (K : PySem.W.Frag) (H : Hp) (a : Addr) (xs : List V) : Prop := H a = some (.lst xs) ∨ (SqL K H a xs ∧ ∀ x ∈ xs, ∃ i : Int, x = .int i)
theorem LsD.sq {K : PySem.W.Frag} {H : Hp} {a : Addr} {xs : List V} (h : LsD K H a xs) : SqL K H a xs := by
  rcases h with h | ⟨h, _⟩
  · exact SqL.of h
  · exact h
theorem LsD.mono {K : PySem.W.Frag} {H H' : Hp} {a : Addr} {xs : List V} (s : Same H H') (h : LsD K H a xs) : LsD K H' a xs := by
  rcases h with h | ⟨h, q⟩
  · exact .inl (s _ _ h)
  · exact .inr ⟨s.seq h, q⟩
mutual
noncomputable def Rp (K : PySem.W.Frag) (H : Hp) : Dt → V → Prop
  | .non, v => v = .non
  | .bl b, v => v = .bl b
  | .int i, v => v = .int i
  | .str x, v => v = .str x
  | .fn a, v => v = .ref a
  | .exc c ns ds, v => ∃ a C U dx vs, v = .ref a ∧ PySem.W.nsIn K mainGlobals c = some (some (.ref C)) ∧ XC K C U ∧ H a = some (.ext (exO a C dx)) ∧ (H dx = some (.xd (ns.zip vs)) ∨ dx = a ∧ ns = []) ∧ ns.length = ds.length ∧ RpL K H ds vs
  | .obj c ns ds, v => ∃ a C dx vs, v = .ref a ∧ PySem.W.nsIn K mainGlobals c = some (some (.ref C)) ∧ Cls K C ∧ H a = some (.ins C dx (ns.zip vs)) ∧ ns.length = ds.length ∧ RpL K H ds vs
  | .tup ds, v => ∃ a xs, v = .ref a ∧ SqT K H a xs ∧ RpL K H ds xs
  | .lst ds, v => ∃ a xs, v = .ref a ∧ LsD K H a xs ∧ RpL K H ds xs
noncomputable def RpL (K : PySem.W.Frag) (H : Hp) : List Dt → List V → Prop
  | [], xs => xs = []
  | d :: ds, xs => ∃ v r, xs = v :: r ∧ Rp K H d v ∧ RpL K H ds r
end
theorem Same.seqT {K : PySem.W.Frag} {H H' : Hp} {a : Addr} {xs : List V} (e : Same H H') (h : SqT K H a xs) : SqT K H' a xs := by
  rcases h with (h | ⟨o, h⟩) | h
  · exact .inl (.inl (e _ _ h))
  · exact .inl (.inr ⟨o, e _ _ h⟩)
  · exact .inr h
mutual
theorem Rp.mono {K : PySem.W.Frag} {H H' : Hp} (s : Same H H') : ∀ {d : Dt} {v : V}, Rp K H d v → Rp K H' d v
  | .non, _, h => by unfold Rp at h ⊢; exact h
  | .bl _, _, h => by unfold Rp at h ⊢; exact h
  | .int _, _, h => by unfold Rp at h ⊢; exact h
  | .str _, _, h => by unfold Rp at h ⊢; exact h
  | .fn _, _, h => by unfold Rp at h ⊢; exact h
  | .exc _ _ _, _, h => by
    unfold Rp at h ⊢
    obtain ⟨a, C, U, dx, vs, e, q, x, h1, h2, l, r⟩ := h
    exact ⟨a, C, U, dx, vs, e, q, x, s _ _ h1, h2.imp (s _ _) id, l, RpL.mono s r⟩
  | .obj _ _ _, _, h => by
    unfold Rp at h ⊢
    obtain ⟨a, C, dx, vs, e, q, x, h1, l, r⟩ := h
    exact ⟨a, C, dx, vs, e, q, x, s _ _ h1, l, RpL.mono s r⟩
  | .tup ds, _, h => by
    unfold Rp at h ⊢
    obtain ⟨a, xs, e, q, r⟩ := h
    exact ⟨a, xs, e, s.seqT q, RpL.mono s r⟩
  | .lst ds, _, h => by
    unfold Rp at h ⊢
    obtain ⟨a, xs, e, q, r⟩ := h
    exact ⟨a, xs, e, q.mono s, RpL.mono s r⟩
theorem RpL.mono {K : PySem.W.Frag} {H H' : Hp} (s : Same H H') : ∀ {ds : List Dt} {vs : List V}, RpL K H ds vs → RpL K H' ds vs
  | [], _, h => by unfold RpL at h ⊢; exact h
  | d :: ds, _, h => by
    unfold RpL at h ⊢
    obtain ⟨v, r, e, q, p⟩ := h
    exact ⟨v, r, e, Rp.mono s q, RpL.mono s p⟩
end
section
variable {K : PySem.W.Frag} {H : Hp}
theorem GP {v : V} : Rp K H .non v ↔ v = .non := by unfold Rp; exact Iff.rfl
theorem BZ {b : Bool} {v : V} : Rp K H (.bl b) v ↔ v = .bl b := by unfold Rp; exact Iff.rfl
theorem Bc {i : Int} {v : V} : Rp K H (.int i) v ↔ v = .int i := by unfold Rp; exact Iff.rfl
theorem Jb {x : Str} {v : V} : Rp K H (.str x) v ↔ v = .str x := by unfold Rp; exact Iff.rfl
theorem Pa {a : Addr} {v : V} : Rp K H (.fn a) v ↔ v = .ref a := by unfold Rp; exact Iff.rfl
theorem Fe {c : Str} {ns : List Str} {ds : List Dt} {v : V} : Rp K H (.exc c ns ds) v ↔ ∃ a C U dx vs, v = .ref a ∧ PySem.W.nsIn K mainGlobals c = some (some (.ref C)) ∧ XC K C U ∧ H a = some (.ext (exO a C dx)) ∧ (H dx = some (.xd (ns.zip vs)) ∨ dx = a ∧ ns = []) ∧ ns.length = ds.length ∧ RpL K H ds vs := by rw [Rp]
theorem Er {ds : List Dt} {v : V} : Rp K H (.tup ds) v ↔ ∃ a xs, v = .ref a ∧ SqT K H a xs ∧ RpL K H ds xs := by rw [Rp]
theorem JL {ds : List Dt} {v : V} : Rp K H (.lst ds) v ↔ ∃ a xs, v = .ref a ∧ LsD K H a xs ∧ RpL K H ds xs := by rw [Rp]
theorem Ls {ds : List Dt} {v : V} (h : ∃ a xs, v = .ref a ∧ H a = some (.lst xs) ∧ RpL K H ds xs) : Rp K H (.lst ds) v := let ⟨a, xs, e, h1, h2⟩ := h; JL.mpr ⟨a, xs, e, .inl h1, h2⟩
theorem Fx {ds : List Dt} {v : V} (h : Rp K H (.lst ds) v) : ∃ a xs, v = .ref a ∧ SqL K H a xs ∧ RpL K H ds xs := let ⟨a, xs, e, h1, h2⟩ := JL.mp h; ⟨a, xs, e, h1.sq, h2⟩
theorem Rx {ns : List Int} {a : Addr} (h : SqL K H a (ns.map V.int)) (r : RpL K H (ns.map Dt.int) (ns.map V.int)) : Rp K H (.lst (ns.map Dt.int)) (.ref a) := JL.mpr ⟨a, _, rfl, .inr ⟨h, fun x hx => by obtain ⟨i, _, rfl⟩ := List.mem_map.mp hx; exact ⟨i, rfl⟩⟩, r⟩
theorem Ca {vs : List V} : RpL K H [] vs ↔ vs = [] := by rw [RpL]
theorem Bb {d : Dt} {ds : List Dt} {vs : List V} : RpL K H (d :: ds) vs ↔ ∃ v r, vs = v :: r ∧ Rp K H d v ∧ RpL K H ds r := by rw [RpL]
theorem RpL.nil : RpL K H [] [] := Ca.mpr rfl
theorem RpL.cons {d : Dt} {ds : List Dt} {v : V} {vs : List V} (h : Rp K H d v) (r : RpL K H ds vs) : RpL K H (d :: ds) (v :: vs) := Bb.mpr ⟨v, vs, rfl, h, r⟩
theorem RpL.len : ∀ {ds : List Dt} {vs : List V}, RpL K H ds vs → vs.length = ds.length
  | [], _, h => by rw [Ca.mp h]; rfl
  | d :: ds, _, h => by
    obtain ⟨v, r, rfl, _, p⟩ := Bb.mp h
    simp [RpL.len p]
theorem RpL.get : ∀ {ds : List Dt} {vs : List V} {i : Nat} {d : Dt}, RpL K H ds vs → ds[i]? = some d → ∃ v, vs[i]? = some v ∧ Rp K H d v
  | [], _, _, _, _, e => by simp at e
  | d :: ds, _, 0, _, h, e => by
    obtain ⟨v, r, rfl, q, p⟩ := Bb.mp h
    simp at e; subst e
    exact ⟨v, rfl, q⟩
  | d :: ds, _, i + 1, _, h, e => by
    obtain ⟨v, r, rfl, q, p⟩ := Bb.mp h
    obtain ⟨u, e1, e2⟩ := RpL.get (i := i) p (by simpa using e)
    exact ⟨u, by simpa using e1, e2⟩
theorem RpL.append : ∀ {ds es : List Dt} {vs ws : List V}, RpL K H ds vs → RpL K H es ws → RpL K H (ds ++ es) (vs ++ ws)
  | [], _, _, _, h, q => by rw [Ca.mp h]; exact q
  | d :: ds, _, _, _, h, q => by
    obtain ⟨v, r, rfl, a, p⟩ := Bb.mp h
    exact .cons a (RpL.append p q)
theorem RpL.drop : ∀ {ds : List Dt} {vs : List V} (n : Nat), RpL K H ds vs → RpL K H (ds.drop n) (vs.drop n)
  | _, _, 0, h => by simpa using h
  | [], _, n + 1, h => by rw [Ca.mp h]; simpa using RpL.nil
  | d :: ds, _, n + 1, h => by
    obtain ⟨v, r, rfl, a, p⟩ := Bb.mp h
    simpa using RpL.drop n p
theorem RpL.take : ∀ {ds : List Dt} {vs : List V} (n : Nat), RpL K H ds vs → RpL K H (ds.take n) (vs.take n)
  | _, _, 0, h => by simpa using RpL.nil
  | [], _, n + 1, h => by rw [Ca.mp h]; simpa using RpL.nil
  | d :: ds, _, n + 1, h => by
    obtain ⟨v, r, rfl, a, p⟩ := Bb.mp h
    simpa using RpL.cons a (RpL.take n p)
theorem RpL.ints : ∀ (ns : List Int), RpL K H (ns.map Dt.int) (ns.map V.int)
  | [] => RpL.nil
  | _ :: ns => RpL.cons (Bc.mpr rfl) (RpL.ints ns)
end
noncomputable def mask (O : List Addr) (H : Hp) : Hp := fun a => if a ∈ O then none else H a
theorem Fz {O : List Addr} {H : Hp} {a : Addr} (h : a ∈ O) : mask O H a = none := if_pos h
theorem Bd {O : List Addr} {H : Hp} {a : Addr} (h : a ∉ O) : mask O H a = H a := if_neg h
theorem Ef {O : List Addr} {H : Hp} {a : Addr} {o : HO} (h : mask O H a = some o) : a ∉ O ∧ H a = some o := by
  by_cases q : a ∈ O
  · rw [Fz q] at h; cases h
  · rw [Bd q] at h; exact ⟨q, h⟩
theorem Bj {O : List Addr} {H : Hp} : Same (mask O H) H := fun _ _ h => (Ef h).2
theorem Same.mask {O : List Addr} {H H' : Hp} (s : Same H H') : Same (mask O H) (L2.mask O H') := fun a o h => by
  obtain ⟨q, e⟩ := Ef h
  rw [Bd q]; exact s a o e
theorem Ox {O O' : List Addr} {H : Hp} (h : ∀ a ∈ O', a ∈ O) : Same (mask O H) (mask O' H) := fun a o e => by
  obtain ⟨q, e⟩ := Ef e
  rw [Bd fun z => q (h a z)]; exact e
theorem Same.upd {H : Hp} {p : Addr} {o : HO} (h : H p = none) : Same H (L2.upd H p o) := fun a u e => by
  rw [Ag (Ak e h)]; exact e
noncomputable def tabAt (a : Addr) (xs : List (List Key × Addr × Value)) (h : Heap) : Prop := (a == sysModules) = false ∧ ∃ (P : Program) (w : World) (o : Obj) (es : Array DictEntry) (ep : Nat), h.get? a = some o ∧ o.ExactDict ∧ o.data = .dict es ep ∧ es.toList = xs.map (entryOfKey (tupleKind (Jw P w))) ∧ (xs.map (·.1)).Nodup
noncomputable def Rj (K : PySem.W.Frag) (H : Hp) (ks : List (List Int)) (xs : List (List Key × Addr × Value)) : Prop := xs.map (·.1) = ks.map (·.map Sum.inl) ∧ ∀ x ∈ xs, SqT K H x.2.1 (x.1.map kV)
theorem Rj.mono {K : PySem.W.Frag} {H H' : Hp} {ks : List (List Int)} {xs : List (List Key × Addr × Value)} (s : Same H H') (h : Rj K H ks xs) : Rj K H' ks xs := ⟨h.1, fun x hx => s.seqT (h.2 x hx)⟩
inductive En where
  | is (d : Dt) | own (ds : List Dt) | tab (ks : List (List Int))
noncomputable abbrev Bq := List (Option En)
noncomputable abbrev DTE := Bq → (Dt → Prop) → Prop
noncomputable abbrev DTT := Bq → (Bool → Prop) → Prop
noncomputable abbrev DTA := Bq → (List Dt → Prop) → Prop
structure Dy where
  nx : Bq → Prop
  rt : Dt → Prop
  bk : Bq → Prop := fun _ => False
  ct : Bq → Prop := fun _ => False
noncomputable abbrev DTS := Dy → Bq → Prop
structure Rep (K : PySem.W.Frag) (B : Hp) (F O : List Addr) (H : Hp) (σ : St) (ρ : Bq) : Prop where
  len : σ.length = ρ.length
  base : Same B H
  fr : ∀ a ∈ O, B a = none
  th : ∀ a ∈ F ++ O, H a ≠ none
  is : ∀ (i : Nat) (d : Dt), ρ[i]? = some (some (.is d)) → ∃ v, σ[i]? = some (some v) ∧ Rp K (mask (F ++ O) H) d v
  own : ∀ (i : Nat) (ds : List Dt), ρ[i]? = some (some (.own ds)) → ∃ a xs, σ[i]? = some (some (.ref a)) ∧ a ∈ O ∧ a ∉ F ∧ H a = some (.lst xs) ∧ RpL K (mask (F ++ O) H) ds xs
  inj : ∀ (i j : Nat) (ds es : List Dt) (a : Addr), ρ[i]? = some (some (.own ds)) → ρ[j]? = some (some (.own es)) → σ[i]? = some (some (.ref a)) → σ[j]? = some (some (.ref a)) → i = j
  tab : ∀ (i : Nat) (ks : List (List Int)), ρ[i]? = some (some (.tab ks)) → ∃ a xs, σ[i]? = some (some (.ref a)) ∧ a ∈ O ∧ a ∉ F ∧ H a = some (.ext (tabAt a xs)) ∧ Rj K (mask (F ++ O) H) ks xs
  tinj : ∀ (i j : Nat) (ks ls : List (List Int)) (a : Addr), ρ[i]? = some (some (.tab ks)) → ρ[j]? = some (some (.tab ls)) → σ[i]? = some (some (.ref a)) → σ[j]? = some (some (.ref a)) → i = j
section
variable {K : PySem.W.Frag} {B : Hp} {F O : List Addr} {H H' : Hp} {σ : St} {ρ : Bq}
theorem Rep.same (r : Rep K B F O H σ ρ) (s : Same H H') : Rep K B F O H' σ ρ where
  len := r.len
  base := r.base.trans s
  fr := r.fr
  th := fun a h e => by
    have := r.th a h
    cases q : H a with
    | none => exact this q
    | some o => rw [s a o q] at e; cases e
  is := fun i d e => let ⟨v, h1, h2⟩ := r.is i d e; ⟨v, h1, h2.mono s.mask⟩
  own := fun i ds e => let ⟨a, xs, h1, h2, h3, h4, h5⟩ := r.own i ds e; ⟨a, xs, h1, h2, h3, s _ _ h4, h5.mono s.mask⟩
  inj := r.inj
  tab := fun i ks e => let ⟨a, xs, h1, h2, h3, h4, h5⟩ := r.tab i ks e; ⟨a, xs, h1, h2, h3, s _ _ h4, h5.mono s.mask⟩
  tinj := r.tinj
theorem Rep.below (r : Rep K B F O H σ ρ) : Same (mask F B) (mask (F ++ O) H) := fun a o e => by
  obtain ⟨q, e⟩ := Ef e
  rw [Bd]
  · exact r.base a o e
  · intro z
    rcases List.mem_append.mp z with z | z
    · exact q z
    · rw [r.fr a z] at e; cases e
theorem Rep.set (r : Rep K B F O H σ ρ) (i : Nat) {d : Dt} {v : V} (h : Rp K (mask (F ++ O) H) d v) : Rep K B F O H (σ.set i (some v)) (ρ.set i (some (.is d))) := by
  have hl := r.len
  have back : ∀ (j : Nat) (ds : En), (∀ z, ds ≠ .is z) → (ρ.set i (some (.is d)))[j]? = some (some ds) → j ≠ i ∧ ρ[j]? = some (some ds) := fun j ds nz e => by
    by_cases hj : j = i
    · subst hj
      by_cases hk : j < ρ.length
      · rw [List.getElem?_set_self hk] at e; cases e; exact (nz d rfl).elim
      · rw [List.getElem?_eq_none (by simpa using hk)] at e; cases e
    · rw [List.getElem?_set_ne (Ne.symm hj)] at e; exact ⟨hj, e⟩
  refine ⟨by simpa using hl, r.base, r.fr, r.th, fun j e q => ?_, fun j ds q => ?_, fun j k ds es a h1 h2 h3 h4 => ?_, fun j ks q => ?_, fun j k ds es a h1 h2 h3 h4 => ?_⟩
  · by_cases hj : j = i
    · subst hj
      by_cases hk : j < ρ.length
      · rw [List.getElem?_set_self hk] at q
        cases q
        exact ⟨v, List.getElem?_set_self (by omega), h⟩
      · rw [List.getElem?_eq_none (by simpa using hk)] at q; cases q
    · rw [List.getElem?_set_ne (Ne.symm hj)] at q ⊢
      exact r.is j e q
  · obtain ⟨hj, q⟩ := back j _ (fun _ z => by cases z) q
    rw [List.getElem?_set_ne (Ne.symm hj)]
    exact r.own j ds q
  · obtain ⟨hj, q1⟩ := back j _ (fun _ z => by cases z) h1
    obtain ⟨hk, q2⟩ := back k _ (fun _ z => by cases z) h2
    rw [List.getElem?_set_ne (Ne.symm hj)] at h3
    rw [List.getElem?_set_ne (Ne.symm hk)] at h4
    exact r.inj j k ds es a q1 q2 h3 h4
  · obtain ⟨hj, q⟩ := back j _ (fun _ z => by cases z) q
    rw [List.getElem?_set_ne (Ne.symm hj)]
    exact r.tab j ks q
  · obtain ⟨hj, q1⟩ := back j _ (fun _ z => by cases z) h1
    obtain ⟨hk, q2⟩ := back k _ (fun _ z => by cases z) h2
    rw [List.getElem?_set_ne (Ne.symm hj)] at h3
    rw [List.getElem?_set_ne (Ne.symm hk)] at h4
    exact r.tinj j k ds es a q1 q2 h3 h4
end
noncomputable def lE (K : PySem.W.Frag) (t : DTE) : TE := fun σ H Q => ∃ B F O ρ, Rep K B F O H σ ρ ∧ t ρ fun d => ∀ v H', Same H H' → Rp K (mask (F ++ O) H') d v → Q v H'
noncomputable def lT (K : PySem.W.Frag) (t : DTT) : TT := fun σ H Q => ∃ B F O ρ, Rep K B F O H σ ρ ∧ t ρ fun b => ∀ H', Same H H' → Q b H'
noncomputable def lA (K : PySem.W.Frag) (t : DTA) : TA := fun σ H Q => ∃ B F O ρ, Rep K B F O H σ ρ ∧ t ρ fun ds => ∀ vs H', Same H H' → RpL K (mask (F ++ O) H') ds vs → Q vs H'
noncomputable def lD (K : PySem.W.Frag) (B : Hp) (F : List Addr) (D : Ends) : Dy where
  nx := fun ρ' => ∀ O' σ' H', Rep K B F O' H' σ' ρ' → D.nx σ' H'
  rt := fun d => ∀ v H', Same B H' → Rp K (mask F H') d v → D.rt v H'
  bk := fun ρ' => ∀ O' σ' H', Rep K B F O' H' σ' ρ' → D.bk σ' H'
  ct := fun ρ' => ∀ O' σ' H', Rep K B F O' H' σ' ρ' → D.ct σ' H'
noncomputable def lS (K : PySem.W.Frag) (t : DTS) : TS := fun D σ H => ∃ B F O ρ, Rep K B F O H σ ρ ∧ t (lD K B F D) ρ
structure Dy.le (D D' : Dy) : Prop where
  nx : ∀ ρ, D.nx ρ → D'.nx ρ
  rt : ∀ d, D.rt d → D'.rt d
  bk : ∀ ρ, D.bk ρ → D'.bk ρ
  ct : ∀ ρ, D.ct ρ → D'.ct ρ
structure DE (X : Cx) (e : Expr) (t : DTE) : Prop where
  mono : ∀ {ρ Q Q'}, (∀ d, Q d → Q' d) → t ρ Q → t ρ Q'
  pe : PE X e (lE X.K t)
structure DT (X : Cx) (e : Expr) (t : DTT) : Prop where
  mono : ∀ {ρ Q Q'}, (∀ d, Q d → Q' d) → t ρ Q → t ρ Q'
  pt : PT X e (lT X.K t)
structure DA (X : Cx) (es : List Expr) (t : DTA) : Prop where
  mono : ∀ {ρ Q Q'}, (∀ d, Q d → Q' d) → t ρ Q → t ρ Q'
  pa : PA X es (lA X.K t)
structure DS (X : Cx) (st : Stmt) (t : DTS) : Prop where
  mono : ∀ {ρ D D'}, Dy.le D D' → t D ρ → t D' ρ
  ps : PS X st (lS X.K t)
structure DSs (X : Cx) (st : List Stmt) (t : DTS) : Prop where
  mono : ∀ {ρ D D'}, Dy.le D D' → t D ρ → t D' ρ
  ps : PSs X st (lS X.K t)
theorem PE.imp {X : Cx} {e : Expr} {t t' : TE} (h : PE X e t) (i : ∀ σ H Q, t' σ H Q → t σ H Q) : PE X e t' := fun pins s σ H Q I q => h pins s σ H Q I (i _ _ _ q)
theorem PT.imp {X : Cx} {e : Expr} {t t' : TT} (h : PT X e t) (i : ∀ σ H Q, t' σ H Q → t σ H Q) : PT X e t' := fun pins s σ H Q I q => h pins s σ H Q I (i _ _ _ q)
theorem PA.imp {X : Cx} {e : List Expr} {t t' : TA} (h : PA X e t) (i : ∀ σ H Q, t' σ H Q → t σ H Q) : PA X e t' := fun pos pins s σ H Q I q => h pos pins s σ H Q I (i _ _ _ q)
theorem PS.imp {X : Cx} {e : Stmt} {t t' : TS} (h : PS X e t) (i : ∀ D σ H, t' D σ H → t D σ H) : PS X e t' := fun pins s σ H D I q => h pins s σ H D I (i _ _ _ q)
theorem PSs.imp {X : Cx} {e : List Stmt} {t t' : TS} (h : PSs X e t) (i : ∀ D σ H, t' D σ H → t D σ H) : PSs X e t' := fun pins s σ H D I q => h pins s σ H D I (i _ _ _ q)
section
variable {X : Cx} {a b c e : Expr} {es : List Expr} {ta tb tc te : DTE} {tA tB : DTT} {tl : DTA} {pos : Pos}
noncomputable def SQ (i : Nat) : DTE := fun ρ Q => match ρ[i]? with
  | some (some (.is d)) => Q d
  | _ => False
noncomputable def dC (d : Dt) : DTE := fun _ Q => Q d
theorem dv (i : Nat) {x : Str} {pos : Pos} (hN : X.N[i]? = some x := by rfl) (hv : Vis X.env.scope x := by first | exact Or.inl rfl | exact Or.inr (Or.inl rfl) | exact Or.inr (Or.inr rfl)) (hd : (x == ("__debug__" : Str)) = false := by decide)
    (hcd : (x == ("__classdict__" : Str)) = false := by decide) : DE X (.Name x pos) (SQ i) where
  mono := fun {ρ Q Q'} hq h => by
    unfold SQ at h ⊢
    split at h
    · exact hq _ h
    · exact h.elim
  pe := (Qa hN hv hd hcd).imp fun σ H Q ⟨B, F, O, ρ, r, h⟩ => by
    unfold SQ at h
    split at h
    · rename_i d e
      obtain ⟨v, h1, h2⟩ := r.is i d e
      exact ⟨v, h1, h v H (Same.refl H) h2⟩
    · exact h.elim
theorem QM {v : V} {d : Dt} (h : PE X e (tC v)) (hr : ∀ K H, Rp K H d v) : DE X e (dC d) where
  mono := fun hq h => hq _ h
  pe := h.imp fun σ H Q ⟨B, F, O, ρ, r, h⟩ => h v H (Same.refl H) (hr _ _)
theorem Ab {i j pos} : DE X (.Constant (.int i) j pos) (dC (.int i)) := QM Wq fun _ _ => Bc.mpr rfl
theorem Fo {i j pos} : DE X (.Constant (.bool i) j pos) (dC (.bl i)) := QM AaL fun _ _ => BZ.mpr rfl
theorem Vn {j pos} : DE X (.Constant .none j pos) (dC .non) := QM Vy fun _ _ => GP.mpr rfl
theorem Fd {x j pos} : DE X (.Constant (.str x) j pos) (dC (.str x)) := QM VL fun _ _ => Jb.mpr rfl
theorem Lq {x : Str} {v : V} {u : Value} {d : Dt} {pos : Pos} (hg : Gl X x) (hm : X.mg x = some u) (r : RelV v u) (hr : ∀ H, Rp X.K H d v) (hd : (x == ("__debug__" : Str)) = false := by decide) : DE X (.Name x pos) (dC d) where
  mono := fun hq h => hq _ h
  pe := (RT hg hm r hd).imp fun σ H Q ⟨B, F, O, ρ, _, h⟩ => h v H (Same.refl H) (hr _)
noncomputable abbrev D2 := Dt → Dt → (Dt → Prop) → Prop
structure Ga (K : PySem.W.Frag) (r : R2) (t : D2) : Prop where
  mono : ∀ {a b Q Q'}, (∀ d, Q d → Q' d) → t a b Q → t a b Q'
  ok : ∀ (O : List Addr) (H : Hp) (a b : Dt) (x y : V) (Q : VK), (∀ p ∈ O, H p ≠ none) → Rp K (mask O H) a x → Rp K (mask O H) b y →
    t a b (fun d => ∀ v H', Same H H' → Rp K (mask O H') d v → Q v H') → r x y H Q
noncomputable def dOp (t : D2) (ta tb : DTE) : DTE := fun ρ Q => ta ρ fun a => tb ρ fun b => t a b Q
theorem Jf {K : PySem.W.Frag} {r : R2} {t : D2} (S : Ga K r t) {ta tb : DTE} (ma : ∀ {ρ Q Q'}, (∀ d, Q d → Q' d) → ta ρ Q → ta ρ Q') (mb : ∀ {ρ Q Q'}, (∀ d, Q d → Q' d) → tb ρ Q → tb ρ Q')
    (σ : St) (H : Hp) (Q : VK) (h : lE K (dOp t ta tb) σ H Q) : tOp r (lE K ta) (lE K tb) σ H Q := by
  obtain ⟨B, F, O, ρ, R, h⟩ := h
  refine ⟨B, F, O, ρ, R, ma (fun a h v H1 s1 r1 => ?_) h⟩
  refine ⟨B, F, O, ρ, R.same s1, mb (fun b h u H2 s2 r2 => ?_) h⟩
  exact S.ok _ H2 a b v u Q ((R.same s1).same s2).th (r1.mono s2.mask) r2 (S.mono (fun d q w H3 s3 r3 => q w H3 ((s1.trans s2).trans s3) r3) h)
theorem EY {t : D2} (m : ∀ {a b Q Q'}, (∀ d, Q d → Q' d) → t a b Q → t a b Q') (ma : ∀ {ρ Q Q'}, (∀ d, Q d → Q' d) → ta ρ Q → ta ρ Q') (mb : ∀ {ρ Q Q'}, (∀ d, Q d → Q' d) → tb ρ Q → tb ρ Q') :
    ∀ {ρ Q Q'}, (∀ d, Q d → Q' d) → dOp t ta tb ρ Q → dOp t ta tb ρ Q' := fun hq h => ma (fun _ h => mb (fun _ h => m hq h) h) h
theorem Hz {op : Operator} {r : R2} {t : D2} (ho : OpR X (binaryOp op) r) (S : Ga X.K r t) (ha : DE X a ta) (hb : DE X b tb) : DE X (.BinOp a op b pos) (dOp t ta tb) where
  mono := EY (t := t) (ta := ta) (tb := tb) S.mono ha.mono hb.mono
  pe := (UL ho ha.pe hb.pe).imp (Jf (ta := ta) (tb := tb) S ha.mono hb.mono)
theorem KH {op : CmpOp} {r : R2} {t : D2} (ho : OpR X (compareOp op) r) (S : Ga X.K r t) (ha : DE X a ta) (hb : DE X b tb) (hm : behindInMarks op b = false) : DE X (.Compare a [op] [b] pos) (dOp t ta tb) where
  mono := EY (t := t) (ta := ta) (tb := tb) S.mono ha.mono hb.mono
  pe := (QL ho ha.pe hb.pe hm).imp (Jf (ta := ta) (tb := tb) S ha.mono hb.mono)
theorem X3 {r : R2} {t : D2} (ho : IxR X r) (S : Ga X.K r t) (ha : DE X a ta) (hb : DE X b tb) (hs : JF b) : DE X (.Subscript a b pos) (dOp t ta tb) where
  mono := EY (t := t) (ta := ta) (tb := tb) S.mono ha.mono hb.mono
  pe := (Zx ho ha.pe hb.pe hs).imp (Jf (ta := ta) (tb := tb) S ha.mono hb.mono)
noncomputable def dI (C : Int → Int → Prop) (g : Int → Int → Int) : D2 := fun a b Q => match a, b with
  | .int i, .int j => C i j ∧ Q (.int (g i j))
  | _, _ => False
noncomputable def dI0 (g : Int → Int → Int) : D2 := fun a b Q => match a, b with
  | .int i, .int j => Q (.int (g i j))
  | _, _ => False
noncomputable def dB0 (g : Int → Int → Bool) : D2 := fun a b Q => match a, b with
  | .int i, .int j => Q (.bl (g i j))
  | _, _ => False
theorem J1 {K : PySem.W.Frag} {C : Int → Int → Prop} {g : Int → Int → Int} : Ga K (rI C fun i j => .int (g i j)) (dI C g) where
  mono := fun {a b Q Q'} hq h => by
    unfold dI at h ⊢
    split at h
    · exact ⟨h.1, hq _ h.2⟩
    · exact h.elim
  ok := fun O H a b x y Q _ ra rb h => by
    unfold dI at h
    split at h
    · exact ⟨_, _, Bc.mp ra, Bc.mp rb, h.1, h.2 _ H (Same.refl H) (Bc.mpr rfl)⟩
    · exact h.elim
theorem Ob {K : PySem.W.Frag} {g : Int → Int → Int} : Ga K (rI0 fun i j => .int (g i j)) (dI0 g) where
  mono := fun {a b Q Q'} hq h => by
    unfold dI0 at h ⊢
    split at h
    · exact hq _ h
    · exact h.elim
  ok := fun O H a b x y Q _ ra rb h => by
    unfold dI0 at h
    split at h
    · exact ⟨_, _, Bc.mp ra, Bc.mp rb, h _ H (Same.refl H) (Bc.mpr rfl)⟩
    · exact h.elim
theorem FW {K : PySem.W.Frag} {g : Int → Int → Bool} : Ga K (rI0 fun i j => .bl (g i j)) (dB0 g) where
  mono := fun {a b Q Q'} hq h => by
    unfold dB0 at h ⊢
    split at h
    · exact hq _ h
    · exact h.elim
  ok := fun O H a b x y Q _ ra rb h => by
    unfold dB0 at h
    split at h
    · exact ⟨_, _, Bc.mp ra, Bc.mp rb, h _ H (Same.refl H) (BZ.mpr rfl)⟩
    · exact h.elim
theorem RJ : OpR X (binaryOp .Mult) (rI IntMulOk fun i j => .int (i * j)) := opI fun _ _ _ _ _ _ _ hc q => mul_int q hc
noncomputable def CDv (_ j : Int) : Prop := j ≠ 0 ∧ j.natAbs < 2 ^ 9000
theorem log2_small {n : Nat} (h : n < 2 ^ 9000) : n.log2 < 9000 := by
  by_cases h0 : n = 0
  · subst h0; decide +kernel
  · exact (Nat.log2_lt h0).mpr h
theorem Ol : OpR X (binaryOp .FloorDiv) (rI CDv fun i j => .int (i.fdiv j)) := opI fun _ _ _ _ _ _ _ hc q => floordiv_int hc.1 q (.inl (PyProof.noPylong_of_log2 (log2_small hc.2)))
noncomputable def Zi : D2 := dI0 fun i j => i + j
noncomputable def Aak : D2 := dI0 fun i j => i - j
noncomputable def ZX : D2 := dI IntMulOk fun i j => i * j
noncomputable def Ye : D2 := dI (fun _ j => j ≠ 0) fun i j => i.fmod j
noncomputable def Z7 : D2 := dI CDv fun i j => i.fdiv j
noncomputable def AaB : D2 := dI La fun i j => i ^ j.toNat
noncomputable def AaS : D2 := dI La fun i j => i * 2 ^ j.toNat
noncomputable def Abf : D2 := dI (fun _ j => 0 ≤ j) fun i j => i / 2 ^ j.toNat
theorem Eb (ha : DE X a ta) (hb : DE X b tb) : DE X (.BinOp a .Add b pos) (dOp Zi ta tb) := Hz Wy Ob ha hb
theorem DK (ha : DE X a ta) (hb : DE X b tb) : DE X (.BinOp a .Sub b pos) (dOp Aak ta tb) := Hz Xe Ob ha hb
theorem BP (ha : DE X a ta) (hb : DE X b tb) : DE X (.BinOp a .Mult b pos) (dOp ZX ta tb) := Hz RJ J1 ha hb
theorem Dw (ha : DE X a ta) (hb : DE X b tb) : DE X (.BinOp a .Mod b pos) (dOp Ye ta tb) := Hz Rz J1 ha hb
theorem Dd (ha : DE X a ta) (hb : DE X b tb) : DE X (.BinOp a .FloorDiv b pos) (dOp Z7 ta tb) := Hz Ol J1 ha hb
theorem Jx (ha : DE X a ta) (hb : DE X b tb) : DE X (.BinOp a .Pow b pos) (dOp AaB ta tb) := Hz Wi J1 ha hb
theorem PN (ha : DE X a ta) (hb : DE X b tb) : DE X (.BinOp a .LShift b pos) (dOp AaS ta tb) := Hz W0 J1 ha hb
noncomputable def dLt : D2 := dB0 fun i j => decide (i < j)
noncomputable def dLe : D2 := dB0 fun i j => decide (i ≤ j)
noncomputable def dGt : D2 := dB0 fun i j => decide (j < i)
noncomputable def dGe : D2 := dB0 fun i j => decide (j ≤ i)
theorem Aai (ha : DE X a ta) (hb : DE X b tb) : DE X (.Compare a [.Gt] [b] pos) (dOp dGt ta tb) := KH Vd FW ha hb (FP _)
noncomputable def ixL : Int → List Dt → Option Dt
  | .ofNat n, ds => ds[n]?
  | .negSucc m, ds => if m < ds.length then ds[ds.length - 1 - m]? else none
noncomputable def ixD (i : Int) : Dt → Option Dt
  | .tup ds => ixL i ds
  | .lst ds => ixL i ds
  | _ => none
theorem Nz {i : Int} {ds : List Dt} {d : Dt} (h : ixL i ds = some d) : atI ds i = some d := by
  cases i with
  | ofNat n => exact Sg h
  | negSucc m =>
    have h' : (if m < ds.length then ds[ds.length - 1 - m]? else none) = some d := h
    by_cases hm : m < ds.length
    · rw [if_pos hm] at h'
      unfold atI ixN
      have h1 : ¬ (0 : Int) ≤ Int.negSucc m := by omega
      have h2 : -(ds.length : Int) ≤ Int.negSucc m := by omega
      have h3 : (Int.negSucc m + (ds.length : Int)).toNat = ds.length - 1 - m := by omega
      rw [if_neg h1, if_pos h2, Option.bind_some, h3]
      exact h'
    · rw [if_neg hm] at h'; cases h'
noncomputable def dIx : D2 := fun a b Q => match b with
  | .int i => match ixD i a with
    | some d => Q d
    | none => False
  | _ => False
theorem O1 {K : PySem.W.Frag} {H : Hp} {ds : List Dt} {xs : List V} {i : Int} {d : Dt} (r : RpL K H ds xs) (h : atI ds i = some d) : ∃ v, atI xs i = some v ∧ Rp K H d v := by
  unfold atI at h ⊢
  rw [r.len]
  cases e : ixN ds.length i with
  | none => rw [e] at h; cases h
  | some j =>
    rw [e] at h
    exact r.get h
theorem WX {K : PySem.W.Frag} : Ga K (rIx K) dIx where
  mono := fun {a b Q Q'} hq h => by
    unfold dIx at h ⊢
    split at h
    · split at h
      · rename_i e; exact hq _ h
      · exact h.elim
    · exact h.elim
  ok := fun O H a b x y Q _ ra rb h => by
    unfold dIx at h
    split at h
    · split at h
      · rename_i i _ d e
        have eb := Bc.mp rb
        subst eb
        cases a with
        | tup ds =>
          obtain ⟨p, xs, rfl, hs, hl⟩ := Er.mp ra
          obtain ⟨v, e1, e2⟩ := O1 hl (Nz e)
          exact .inr (.inl ⟨p, xs, i, v, rfl, rfl, Bj.seqT hs, e1, h v H (Same.refl H) e2⟩)
        | lst ds =>
          obtain ⟨p, xs, rfl, hs, hl⟩ := Fx ra
          obtain ⟨v, e1, e2⟩ := O1 hl (Nz e)
          exact .inl ⟨p, xs, i, v, rfl, rfl, Bj.seq hs, e1, h v H (Same.refl H) e2⟩
        | _ => cases e
      · exact h.elim
    · exact h.elim
theorem Ba (ha : DE X a ta) (hb : DE X b tb) (hs : JF b := by exact fun _ _ => rfl) : DE X (.Subscript a b pos) (dOp dIx ta tb) := X3 Ww WX ha hb hs
noncomputable def QT : Dt → (Dt → Prop) → Prop := fun a Q => match a with
  | .int i => Q (.int (-i))
  | _ => False
noncomputable def dUn (t : Dt → (Dt → Prop) → Prop) (ta : DTE) : DTE := fun ρ Q => ta ρ fun a => t a Q
theorem PK (ha : DE X a ta) : DE X (.UnaryOp .USub a pos) (dUn QT ta) where
  mono := fun hq h => ha.mono (fun d h => by
    unfold QT at h ⊢
    split at h
    · exact hq _ h
    · exact h.elim) h
  pe := (Aao Wm ha.pe).imp fun σ H Q ⟨B, F, O, ρ, R, h⟩ => ⟨B, F, O, ρ, R, ha.mono (fun d h v H1 s1 r1 => by
    unfold QT at h
    split at h
    · exact ⟨_, Bc.mp r1, h _ H1 s1 (Bc.mpr rfl)⟩
    · exact h.elim) h⟩
noncomputable def Yo (ta : DTE) : DTE := fun ρ Q => ta ρ fun a => match a with
  | .bl k => Q (.bl (!k))
  | _ => False
noncomputable def ZC (ta tb : DTE) : DTE := fun ρ Q => ta ρ fun a => match a with
  | .bl k => if k = true then tb ρ Q else Q (.bl false)
  | _ => False
noncomputable def dOr (ta tb : DTE) : DTE := fun ρ Q => ta ρ fun a => match a with
  | .bl k => if k = true then Q (.bl true) else tb ρ Q
  | _ => False
theorem K6 (ha : DE X a ta) : DE X (.UnaryOp .Not a pos) (Yo ta) where
  mono := fun hq h => ha.mono (fun d h => by
    split at h
    · exact hq _ h
    · exact h.elim) h
  pe := (VN ha.pe).imp fun σ H Q ⟨B, F, O, ρ, R, h⟩ => ⟨B, F, O, ρ, R, ha.mono (fun d h v H1 s1 r1 => by
    split at h
    · exact ⟨_, BZ.mp r1, h _ H1 s1 (BZ.mpr rfl)⟩
    · exact h.elim) h⟩
theorem FN {op} (h : DE X a ta) : DE X (.BoolOp op [a] pos) ta := ⟨h.mono, VD h.pe⟩
theorem Eu {rest : List Expr} (ha : DE X a ta) (hb : DE X (.BoolOp .And (b :: rest) pos) tb) : DE X (.BoolOp .And (a :: b :: rest) pos) (ZC ta tb) where
  mono := fun hq h => ha.mono (fun d h => by
    split at h
    · split at h
      · rename_i e; simp only [e, if_true]; exact hb.mono hq h
      · rename_i e; simp only [e]; exact hq _ h
    · exact h.elim) h
  pe := (Wz ha.pe hb.pe).imp fun σ H Q ⟨B, F, O, ρ, R, h⟩ => ⟨B, F, O, ρ, R, ha.mono (fun d h v H1 s1 r1 => by
    split at h
    · rename_i k
      refine ⟨k, BZ.mp r1, ?_⟩
      cases k with
      | true => exact ⟨B, F, O, ρ, R.same s1, hb.mono (fun d q v H2 s2 r2 => q v H2 (s1.trans s2) r2) h⟩
      | false => exact h _ H1 s1 (BZ.mpr rfl)
    · exact h.elim) h⟩
theorem Zb {rest : List Expr} (ha : DE X a ta) (hb : DE X (.BoolOp .Or (b :: rest) pos) tb) : DE X (.BoolOp .Or (a :: b :: rest) pos) (dOr ta tb) where
  mono := fun hq h => ha.mono (fun d h => by
    split at h
    · split at h
      · rename_i e; simp only [e, if_true]; exact hq _ h
      · rename_i e; simp only [e]; exact hb.mono hq h
    · exact h.elim) h
  pe := (ZW ha.pe hb.pe).imp fun σ H Q ⟨B, F, O, ρ, R, h⟩ => ⟨B, F, O, ρ, R, ha.mono (fun d h v H1 s1 r1 => by
    split at h
    · rename_i k
      refine ⟨k, BZ.mp r1, ?_⟩
      cases k with
      | false => exact ⟨B, F, O, ρ, R.same s1, hb.mono (fun d q v H2 s2 r2 => q v H2 (s1.trans s2) r2) h⟩
      | true => exact h _ H1 s1 (BZ.mpr rfl)
    · exact h.elim) h⟩
noncomputable def JH (t : DTE) : DTT := fun ρ Q => t ρ fun a => match a with
  | .bl k => Q k
  | _ => False
theorem Im {t : DTE} (m : ∀ {ρ Q Q'}, (∀ d, Q d → Q' d) → t ρ Q → t ρ Q') : ∀ {ρ Q Q'}, (∀ d, Q d → Q' d) → JH t ρ Q → JH t ρ Q' := fun hq h => m (fun d h => by
    split at h
    · exact hq _ h
    · exact h.elim) h
theorem DX (h : DE X e te) (he : ∀ whole, isTrue e X.env whole = (do let v ← whole; standAt e.pos; holding [v] (truthy v)) := by intro _; rfl) : DT X e (JH te) where
  mono := Im (t := te) h.mono
  pt := (Wr h.pe he).imp fun σ H Q ⟨B, F, O, ρ, R, q⟩ => ⟨B, F, O, ρ, R, h.mono (fun d q v H1 s1 r1 => by
    split at q
    · exact ⟨_, BZ.mp r1, q H1 s1⟩
    · exact q.elim) q⟩
theorem Iw {op : CmpOp} {r : R2} {t : D2} (ho : OpR X (compareOp op) r) (S : Ga X.K r t) (ha : DE X a ta) (hb : DE X b tb) (hm : behindInMarks op b = false) : DT X (.Compare a [op] [b] pos) (JH (dOp t ta tb)) where
  mono := Im (t := dOp t ta tb) (EY (t := t) (ta := ta) (tb := tb) S.mono ha.mono hb.mono)
  pt := (Q0 ho ha.pe hb.pe hm).imp fun σ H Q ⟨B, F, O, ρ, R, q⟩ => Jf (ta := ta) (tb := tb) S ha.mono hb.mono σ H _ ⟨B, F, O, ρ, R, EY (t := t) (ta := ta) (tb := tb) S.mono ha.mono hb.mono (fun d q v H1 s1 r1 => by
    split at q
    · exact ⟨_, BZ.mp r1, q H1 s1⟩
    · exact q.elim) q⟩
theorem Lx (ha : DE X a ta) (hb : DE X b tb) : DT X (.Compare a [.Lt] [b] pos) (JH (dOp dLt ta tb)) := Iw Qh FW ha hb (FP _)
theorem Kr (ha : DE X a ta) (hb : DE X b tb) : DT X (.Compare a [.Gt] [b] pos) (JH (dOp dGt ta tb)) := Iw Vd FW ha hb (FP _)
noncomputable def U8 (t : DTT) : DTT := fun ρ Q => t ρ fun k => Q (!k)
noncomputable def U4 (t u : DTT) : DTT := fun ρ Q => t ρ fun k => if k = true then u ρ Q else Q false
noncomputable def X4 (t u : DTT) : DTT := fun ρ Q => t ρ fun k => if k = true then Q true else u ρ Q
theorem Fi (ha : DT X a tA) : DT X (.UnaryOp .Not a pos) (U8 tA) where
  mono := fun hq h => ha.mono (fun _ h => hq _ h) h
  pt := (VJ ha.pt).imp fun σ H Q ⟨B, F, O, ρ, R, q⟩ => ⟨B, F, O, ρ, R, q⟩
structure DW (X : Cx) (e : Expr) (t : DTT) : Prop where
  mono : ∀ {ρ Q Q'}, (∀ d, Q d → Q' d) → t ρ Q → t ρ Q'
  pw : PW X e (lT X.K t)
theorem DW.dt {t : DTT} (h : DW X e t) : DT X e t := ⟨h.mono, h.pw.pt⟩
theorem Ri (ha : DT X a tA) : DW X (.BoolOp .And [a] pos) tA := ⟨ha.mono, RQ ha.pt⟩
theorem Hx (ha : DT X a tA) : DW X (.BoolOp .Or [a] pos) tA := ⟨ha.mono, V1 ha.pt⟩
theorem PW.imp {t t' : TT} (h : PW X e t) (i : ∀ σ H Q, t' σ H Q → t σ H Q) : PW X e t' := fun wh pins s σ H Q I q => h wh pins s σ H Q I (i _ _ _ q)
theorem Wt {rest : List Expr} (ha : DT X a tA) (hb : DW X (.BoolOp .And (b :: rest) pos) tB) : DW X (.BoolOp .And (a :: b :: rest) pos) (U4 tA tB) where
  mono := fun hq h => ha.mono (fun k h => by
    cases k with
    | true => exact hb.mono hq h
    | false => exact hq _ h) h
  pw := (V8 ha.pt hb.pw).imp fun σ H Q ⟨B, F, O, ρ, R, q⟩ => ⟨B, F, O, ρ, R, ha.mono (fun k h H1 s1 => by
    cases k with
    | true => exact ⟨B, F, O, ρ, R.same s1, hb.mono (fun k q H2 s2 => q H2 (s1.trans s2)) h⟩
    | false => exact h H1 s1) q⟩
theorem G9 {rest : List Expr} (ha : DT X a tA) (hb : DW X (.BoolOp .Or (b :: rest) pos) tB) : DW X (.BoolOp .Or (a :: b :: rest) pos) (X4 tA tB) where
  mono := fun hq h => ha.mono (fun k h => by
    cases k with
    | true => exact hq _ h
    | false => exact hb.mono hq h) h
  pw := (Y9 ha.pt hb.pw).imp fun σ H Q ⟨B, F, O, ρ, R, q⟩ => ⟨B, F, O, ρ, R, ha.mono (fun k h H1 s1 => by
    cases k with
    | false => exact ⟨B, F, O, ρ, R.same s1, hb.mono (fun k q H2 s2 => q H2 (s1.trans s2)) h⟩
    | true => exact h H1 s1) q⟩
noncomputable def Abl (t : DTT) (ta tb : DTE) : DTE := fun ρ Q => t ρ fun k => if k = true then ta ρ Q else tb ρ Q
noncomputable def YM : DTA := fun _ Q => Q []
noncomputable def UG (te : DTE) (tl : DTA) : DTA := fun ρ Q => te ρ fun d => tl ρ fun ds => Q (d :: ds)
theorem Ad : DA X [] YM := ⟨fun hq h => hq _ h, Js.imp fun σ H Q ⟨B, F, O, ρ, R, q⟩ => q [] H (Same.refl H) RpL.nil⟩
theorem Aa (ha : DE X e te) (hr : DA X es tl) (hs : starEach (e :: es) X.env = (false, eval e X.env) :: starEach es X.env := by rfl) : DA X (e :: es) (UG te tl) where
  mono := fun hq h => ha.mono (fun d h => hr.mono (fun ds h => hq _ h) h) h
  pa := (Ek ha.pe hr.pa hs).imp fun σ H Q ⟨B, F, O, ρ, R, q⟩ => ⟨B, F, O, ρ, R, ha.mono (fun d h v H1 s1 r1 => ⟨B, F, O, ρ, R.same s1, hr.mono (fun ds h vs H2 s2 r2 =>
    h (v :: vs) H2 (s1.trans s2) (RpL.cons (r1.mono s2.mask) r2)) h⟩) q⟩
noncomputable def dTup (tl : DTA) : DTE := fun ρ Q => tl ρ fun ds => ds.length ≤ sizeLine ∧ Q (.tup ds)
noncomputable def Y8 (tl : DTA) : DTE := fun ρ Q => tl ρ fun ds => ds.length ≤ sizeLine ∧ Q (.lst ds)
theorem Kp {O : List Addr} {H : Hp} {p : Addr} {o : HO} (hp : p ∉ O) : mask O (upd H p o) p = some o := by rw [Bd hp, Am]
theorem Dj {k} (h : DA X es tl) : DE X (.Tuple es k pos) (dTup tl) where
  mono := fun hq z => h.mono (fun ds q => ⟨q.1, hq _ q.2⟩) z
  pe := (Wf h.pa).imp fun σ H Q ⟨B, F, O, ρ, R, q⟩ => ⟨B, F, O, ρ, R, h.mono (fun ds z vs H1 s1 r1 => ⟨by rw [r1.len]; exact z.1, fun p hp => by
    have np : p ∉ F ++ O := fun m => (R.same s1).th p m hp
    exact z.2 (.ref p) _ (s1.trans (Same.upd hp)) (Er.mpr ⟨p, vs, rfl, SqT.of (Kp np), r1.mono (Same.upd hp).mask⟩)⟩) q⟩
theorem WY (h : DA X es tl) : DE X (.List es pos) (Y8 tl) where
  mono := fun hq z => h.mono (fun ds q => ⟨q.1, hq _ q.2⟩) z
  pe := (Nr h.pa).imp fun σ H Q ⟨B, F, O, ρ, R, q⟩ => ⟨B, F, O, ρ, R, h.mono (fun ds z vs H1 s1 r1 => ⟨by rw [r1.len]; exact z.1, fun p hp => by
    have np : p ∉ F ++ O := fun m => (R.same s1).th p m hp
    exact z.2 (.ref p) _ (s1.trans (Same.upd hp)) (Ls ⟨p, vs, rfl, (Kp np), r1.mono (Same.upd hp).mask⟩)⟩) q⟩
noncomputable abbrev DSp := List Dt → (Dt → Prop) → Prop
noncomputable def lSp (K : PySem.W.Frag) (sp : DSp) : Sp := fun vs H Q _ => ∃ F ds, (∀ a ∈ F, H a ≠ none) ∧ RpL K (mask F H) ds vs ∧ sp ds fun d => ∀ v H', Same H H' → Rp K (mask F H') d v → Q v H'
noncomputable def Jp (sp : DSp) : Prop := ∀ ds Q Q', (∀ d, Q d → Q' d) → sp ds Q → sp ds Q'
noncomputable def dCall (sp : DSp) (tl : DTA) : DTE := fun ρ Q => tl ρ fun ds => sp ds Q
theorem Rv {CX : CXT} {k : Nat} {f : Addr} {fd : FuncData} {ps : List Str} {sp : DSp} {x : Str} {p : Pos} (m : Jp sp) (G : DY X.prog X.w X.K X.mg X.base CX0 k f fd ps (lSp X.K sp)) (hr : Ck k X.A) (hg : Gl X x) (hm : X.mg x = some (.ref f))
    (hk : PySem.W.keepIn X.K (.ref f) = true) (hb : Binds X.K fd ps []) (ha : DA X (e :: es) tl) (hdb : (x == ("__debug__" : Str)) = false := by decide)
    (he : starEach (e :: es) X.env = (false, eval e X.env) :: starEach es X.env := by rfl) (hpl : (backTo pos (starEach es X.env)).any (·.1) = false := by rfl) : DE X (.Call (.Name x p) (e :: es) [] pos) (dCall sp tl) where
  mono := fun hq z => ha.mono (fun ds q => m _ _ _ hq q) z
  pe := (Qq G hr hg hm hk hb .nil AaO ha.pa hdb he hpl).imp fun σ H Q ⟨B, F, O, ρ, R, q⟩ => ⟨B, F, O, ρ, R, ha.mono (fun ds z vs H1 s1 r1 => by
    show lSp X.K sp (vs ++ []) H1 Q E0
    rw [List.append_nil]
    exact ⟨F ++ O, ds, (R.same s1).th, r1, m _ _ _ (fun d q v H2 s2 r2 => q v H2 (s1.trans s2) r2) z⟩) q⟩
variable {st : Stmt} {sts : List Stmt} {t u : DTS}
noncomputable def Ua : DTS := fun D ρ => D.nx ρ
noncomputable def HY (t u : DTS) : DTS := fun D ρ => t { D with nx := u D } ρ
theorem XJ {D D' : Dy} {P P' : Bq → Prop} (h : Dy.le D D') (hp : ∀ ρ, P ρ → P' ρ) : Dy.le { D with nx := P } { D' with nx := P' } := ⟨hp, h.rt, h.bk, h.ct⟩
theorem Bh : DSs X [] Ua := ⟨fun hd h => hd.nx _ h, Lg.imp fun D σ H ⟨B, F, O, ρ, R, h⟩ => h O σ H R⟩
theorem Ae (h1 : DS X st t) (h2 : DSs X sts u) : DSs X (st :: sts) (HY t u) where
  mono := fun hd h => h1.mono (XJ hd fun ρ q => h2.mono hd q) h
  ps := (Ht h1.ps h2.ps).imp fun D σ H ⟨B, F, O, ρ, R, h⟩ => ⟨B, F, O, ρ, R, h1.mono (D := { lD X.K B F D with nx := u (lD X.K B F D) }) ⟨fun ρ' q O' σ' H' R' => ⟨B, F, O', ρ', R', q⟩, fun _ q => q, fun _ q => q, fun _ q => q⟩ h⟩
theorem Ai (h1 : DS X st t) : DSs X [st] t := ⟨h1.mono, CN h1.ps⟩
noncomputable def Pn : DTS := fun _ _ => False
theorem Aq : DS X st Pn := ⟨fun _ h => h.elim, P0.imp fun D σ H ⟨B, F, O, ρ, R, h⟩ => h.elim⟩
noncomputable def Yx (te : DTE) : DTS := fun D ρ => te ρ fun _ => D.nx ρ
noncomputable def Yi (te : DTE) : DTS := fun D ρ => te ρ D.rt
theorem HN {F O : List Addr} {H : Hp} : Same (mask (F ++ O) H) (mask F H) := Ox fun _ h => List.mem_append_left _ h
theorem Ar (he : DE X e te) : DS X (.Return (some e) pos) (Yi te) where
  mono := fun hd h => he.mono (fun _ h => hd.rt _ h) h
  ps := (Oj he.pe).imp fun D σ H ⟨B, F, O, ρ, R, h⟩ => ⟨B, F, O, ρ, R, he.mono (fun d q v H1 s1 r1 => q v H1 (R.base.trans s1) (r1.mono HN)) h⟩
noncomputable def YT : DTS := fun D _ => D.rt .non
noncomputable def dIf (c : DTT) (t u : DTS) : DTS := fun D ρ => c ρ fun k => if k = true then t D ρ else u D ρ
theorem Cv {sa sb : List Stmt} (hc : DT X c tA) (ha : DSs X sa t) (hb : DSs X sb u) : DS X (.If c sa sb pos) (dIf tA t u) where
  mono := fun hd h => hc.mono (fun k h => by
    cases k with
    | true => exact ha.mono hd h
    | false => exact hb.mono hd h) h
  ps := (Va hc.pt ha.ps hb.ps).imp fun D σ H ⟨B, F, O, ρ, R, h⟩ => ⟨B, F, O, ρ, R, hc.mono (fun k h H1 s1 => by
    cases k with
    | true => exact ⟨B, F, O, ρ, R.same s1, h⟩
    | false => exact ⟨B, F, O, ρ, R.same s1, h⟩) h⟩
noncomputable abbrev DTG := Dt → Bq → (Bq → Prop) → Prop
noncomputable abbrev O2 := List Dt → Bq → (Bq → Prop) → Prop
noncomputable def lG (K : PySem.W.Frag) (g : DTG) : TG := fun v σ H Q => ∃ B F O ρ d, Rep K B F O H σ ρ ∧ Rp K (mask (F ++ O) H) d v ∧ g d ρ fun ρ' => ∀ σ', Rep K B F O H σ' ρ' → Q σ' H
structure DG (X : Cx) (tg : Expr) (g : DTG) : Prop where
  mono : ∀ {d ρ Q Q'}, (∀ ρ', Q ρ' → Q' ρ') → g d ρ Q → g d ρ Q'
  pg : PG X tg (lG X.K g)
theorem PG.imp {e : Expr} {t t' : TG} (h : PG X e t) (i : ∀ v σ H Q, t' v σ H Q → t v σ H Q) : PG X e t' := fun pins s σ H v u Q I r q => h pins s σ H v u Q I r (i _ _ _ _ q)
noncomputable def K3 (i : Nat) : DTG := fun d ρ Q => Q (ρ.set i (some (.is d)))
theorem RL (i : Nat) {x : Str} (hN : X.N.Nodup) (hi : X.N[i]? = some x := by rfl) (hx : Loc X.env.scope x := by first | exact Or.inl rfl | exact Or.inr rfl)
    (hf : X.fn x = true ∨ X.env.scope.names.lookup x = some .local := by first | exact .inl rfl | exact .inr rfl | assumption) : DG X (.Name x pos) (K3 i) where
  mono := fun hq h => hq _ h
  pg := (Rn hN hi hx hf).imp fun v σ H Q ⟨B, F, O, ρ, d, R, r, h⟩ => h _ (R.set i r)
noncomputable def AaQ : O2 := fun ds ρ Q => match ds with
  | [] => Q ρ
  | _ => False
noncomputable def Vt (g : DTG) (gs : O2) : O2 := fun ds ρ Q => match ds with
  | d :: r => g d ρ fun ρ' => gs r ρ' Q
  | [] => False
noncomputable def Aat (n : Nat) (gs : O2) : DTG := fun d ρ Q => match d with
  | .tup ds => ds.length = n ∧ gs ds ρ Q
  | _ => False
noncomputable def AaR (te : DTE) (g : DTG) : DTS := fun D ρ => te ρ fun d => g d ρ D.nx
noncomputable def Pq (c : DTT) (tb : DTS) : DTS := fun D ρ => ∃ W : Nat → Bq → Prop, (∃ m, W m ρ) ∧ ∀ m ρ, W m ρ →
  c ρ fun k => if k = true then tb { D with nx := fun ρ' => ∃ m', m' < m ∧ W m' ρ', ct := fun ρ' => ∃ m', m' < m ∧ W m' ρ', bk := D.nx } ρ else D.nx ρ
theorem Kq {body : List Stmt} (hp : PassesOwn (model X.prog X.w) X.A X.env X.xe) (hc : DT X c tA) (hb : DSs X body t) : DS X (.While c body [] pos) (Pq tA t) where
  mono := fun {ρ D D'} hd ⟨W, h0, h⟩ => ⟨W, h0, fun m ρ w => hc.mono (fun k h => by
    cases k with
    | true => exact hb.mono (D := { D with nx := fun ρ' => ∃ m', m' < m ∧ W m' ρ', ct := fun ρ' => ∃ m', m' < m ∧ W m' ρ', bk := D.nx }) ⟨fun _ q => q, hd.rt, hd.nx, fun _ q => q⟩ h
    | false => exact hd.nx _ h) (h m ρ w)⟩
  ps := (Ow hp hc.pt hb.ps).imp fun D σ H ⟨B, F, O, ρ, R, W, ⟨m0, w0⟩, h⟩ => by
    refine ⟨fun m σ H => ∃ O ρ, Rep X.K B F O H σ ρ ∧ W m ρ, ⟨m0, O, ρ, R, w0⟩, ?_⟩
    rintro m σ H ⟨O, ρ, R, w⟩
    refine ⟨B, F, O, ρ, R, hc.mono (fun k h H1 s1 => ?_) (h m ρ w)⟩
    cases k with
    | true =>
      refine ⟨fun σ' H' => ∃ m', m' < m ∧ ∃ O ρ, Rep X.K B F O H' σ' ρ ∧ W m' ρ, fun σ' H' ⟨m', l, q⟩ => ⟨m', l, q⟩, B, F, O, ρ, R.same s1, hb.mono (D := { lD X.K B F D with nx := fun ρ' => ∃ m', m' < m ∧ W m' ρ', ct := fun ρ' => ∃ m', m' < m ∧ W m' ρ', bk := (lD X.K B F D).nx }) ⟨?_, fun _ q => q, fun _ q => q, ?_⟩ h⟩
      · rintro ρ' ⟨m', l, w'⟩ O' σ' H' R'
        exact ⟨m', l, O', ρ', R', w'⟩
      · rintro ρ' ⟨m', l, w'⟩ O' σ' H' R'
        exact ⟨m', l, O', ρ', R', w'⟩
    | false => exact h O σ H1 (R.same s1)
noncomputable def ItD (K : PySem.W.Frag) (M : Hp) (J : It) (items : List Dt) : Prop := ∀ H, Same M H →
  (∀ (k : Nat) d, items[k]? = some d → J.go k H ∧ ∀ x H', J.yld k H x H' → H' = H ∧ Rp K M d x) ∧ J.stop items.length H
noncomputable abbrev DTI := Bq → (List Dt → Prop) → Prop
noncomputable def lI (K : PySem.W.Frag) (ti : DTI) : TI := fun σ H R => ∃ B F O ρ, Rep K B F O H σ ρ ∧ ti ρ fun items => ∀ J H', Same H H' → ItD K (mask (F ++ O) H') J items → R J H'
structure DI (X : Cx) (tg iter : Expr) (ti : DTI) : Prop where
  mono : ∀ {ρ Q Q'}, (∀ d, Q d → Q' d) → ti ρ Q → ti ρ Q'
  pi : PI X tg iter (lI X.K ti)
theorem PI.imp {tg e : Expr} {t t' : TI} (h : PI X tg e t) (i : ∀ σ H Q, t' σ H Q → t σ H Q) : PI X tg e t' := fun pins s σ H R I q => h pins s σ H R I (i _ _ _ q)
noncomputable def Zg (ti : DTI) (g : DTG) (tb : DTS) : DTS := fun D ρ => ti ρ fun items => ∃ W : Nat → Bq → Prop, W 0 ρ ∧
  (∀ (k : Nat) d ρ', items[k]? = some d → W k ρ' → g d ρ' fun ρ2 => tb { D with nx := W (k + 1), ct := W (k + 1), bk := D.nx } ρ2) ∧ ∀ ρ', W items.length ρ' → D.nx ρ'
theorem Rep.rebase {K : PySem.W.Frag} {B : Hp} {F O : List Addr} {H : Hp} {σ : St} {ρ : Bq} (r : Rep K B F O H σ ρ) : Rep K (mask O H) F O H σ ρ :=
  ⟨r.len, Bj, fun _ h => Fz h, r.th, r.is, r.own, r.inj, r.tab, r.tinj⟩
theorem Rep.unbase {K : PySem.W.Frag} {B B' : Hp} {F O O' : List Addr} {H H' : Hp} {σ σ' : St} {ρ ρ' : Bq} (r : Rep K B F O H σ ρ) (r' : Rep K (mask O H) F O' H' σ' ρ') : Rep K B F O' H' σ' ρ' := by
  have s : Same B (mask O H) := fun a o e => by
    rw [Bd]
    · exact r.base a o e
    · intro z; rw [r.fr a z] at e; cases e
  refine ⟨r'.len, s.trans r'.base, fun a h => ?_, r'.th, r'.is, r'.own, r'.inj, r'.tab, r'.tinj⟩
  cases q : B a with
  | none => rfl
  | some o => have := s a o q; rw [r'.fr a h] at this; cases this
theorem Rep.sub {K : PySem.W.Frag} {B : Hp} {F O : List Addr} {H : Hp} {σ : St} {ρ : Bq} (r : Rep K B F O H σ ρ) : Same B (mask O H) := fun a o e => by
  rw [Bd]
  · exact r.base a o e
  · intro z; rw [r.fr a z] at e; cases e
theorem Mq {F O : List Addr} {H : Hp} : mask F (mask O H) = mask (F ++ O) H := by
  funext a
  by_cases h1 : a ∈ F
  · rw [Fz h1, Fz (List.mem_append_left _ h1)]
  · rw [Bd h1]
    by_cases h2 : a ∈ O
    · rw [Fz h2, Fz (List.mem_append_right _ h2)]
    · rw [Bd h2, Bd fun z => (List.mem_append.mp z).elim h1 h2]
theorem Vu {tg iter : Expr} {body : List Stmt} {ti : DTI} {g : DTG} (hp : PassesOwn (model X.prog X.w) X.A X.env X.xe) (hc : X.calm = true) (hi : DI X tg iter ti) (hg : DG X tg g) (hb : DSs X body t)
    (hs : ∀ x, foldedSetIterable iter X.env x = pure x := by intro _; rfl) : DS X (.For tg iter body [] pos) (Zg ti g t) where
  mono := fun {ρ D D'} hd h => hi.mono (fun items ⟨W, h0, h, he⟩ => ⟨W, h0, fun k d ρ' e w => hg.mono (fun ρ2 q => hb.mono (D := { D with nx := W (k + 1), ct := W (k + 1), bk := D.nx }) ⟨fun _ q => q, hd.rt, hd.nx, fun _ q => q⟩ q) (h k d ρ' e w), fun ρ' w => hd.nx _ (he ρ' w)⟩) h
  ps := (VP hp hc hi.pi hg.pg hb.ps hs).imp fun D σ H ⟨B, F, O, ρ, R, h⟩ => by
    refine ⟨B, F, O, ρ, R, hi.mono (fun items z J H1 s1 it => ?_) h⟩
    obtain ⟨W, h0, h, he⟩ := z
    have R1 := R.same s1
    refine ⟨fun i m σ H => m + i = items.length ∧ ∃ O' ρ', Rep X.K (mask O H1) F O' H σ ρ' ∧ W i ρ', ⟨items.length, by omega, O, ρ, R1.rebase, h0⟩, ?_⟩
    rintro i m σ2 H2 ⟨hm, O', ρ', R2, w⟩
    have sb : Same (mask (F ++ O) H1) H2 := fun a o e => R2.base a o (by
      obtain ⟨q, e⟩ := Ef e
      rw [Bd fun z => q (List.mem_append_right _ z)]; exact e)
    obtain ⟨go, stop⟩ := it H2 sb
    by_cases hlt : i < items.length
    · refine .inr ⟨(go i items[i] (by simp [hlt])).1, fun σ' H' => ∃ O' ρ', Rep X.K (mask O H1) F O' H' σ' ρ' ∧ W (i + 1) ρ', fun σ' H' q => ⟨m - 1, by omega, by omega, q⟩, fun x H3 y => ?_⟩
      obtain ⟨e, r⟩ := (go i items[i] (by simp [hlt])).2 x H3 y
      subst e
      have r' : Rp X.K (mask (F ++ O') H3) items[i] x := r.mono (by rw [← Mq]; exact R2.below)
      refine ⟨_, F, O', ρ', _, R2, r', hg.mono (fun ρ2 q σ3 R3 => ⟨_, F, O', ρ2, R3, hb.mono (D := { lD X.K B F D with nx := W (i + 1), ct := W (i + 1), bk := (lD X.K B F D).nx }) ⟨?_, ?_, ?_, ?_⟩ q⟩) (h i _ ρ' (by simp [hlt]) w)⟩
      · exact fun ρ4 w4 O4 σ4 H4 R4 => ⟨O4, ρ4, R4, w4⟩
      · exact fun d q v H4 s4 r4 => q v H4 (R1.sub.trans s4) r4
      · exact fun ρ4 q O4 σ4 H4 R4 => q O4 σ4 H4 (R1.unbase (B' := B) R4)
      · exact fun ρ4 w4 O4 σ4 H4 R4 => ⟨O4, ρ4, R4, w4⟩
    · have e : i = items.length := by omega
      subst e
      exact .inl ⟨stop, he ρ' w O' σ2 H2 (R1.unbase (B' := B) R2)⟩
noncomputable def Ub (te : DTE) : DTI := fun ρ Q => te ρ fun d => match d with
  | .lst ds => Q ds
  | _ => False
noncomputable def Xy (te : DTE) : DTI := fun ρ Q => te ρ fun d => match d with
  | .tup ds => Q ds
  | _ => False
theorem W2 {tg : Expr} (h : DE X e te) : DI X tg e (Ub te) where
  mono := fun hq z => h.mono (fun d z => by
    split at z
    · exact hq _ z
    · exact z.elim) z
  pi := (Sx h.pe).imp fun σ H Q ⟨B, F, O, ρ, R, z⟩ => ⟨B, F, O, ρ, R, h.mono (fun d z v H1 s1 r1 => by
    split at z
    · obtain ⟨a, xs, rfl, hs, hl⟩ := Fx r1
      refine ⟨a, rfl, ⟨xs, Bj.seq hs⟩, z _ H1 s1 fun H2 s2 => ⟨fun k d e => ?_, xs, s2.seq hs, by rw [hl.len]; exact Nat.le_refl _⟩⟩
      obtain ⟨x, e1, e2⟩ := hl.get e
      refine ⟨⟨xs, x, s2.seq hs, e1⟩, fun y H3 ⟨e3, e4⟩ => ⟨e3, ?_⟩⟩
      have e5 := e4 xs (s2.seq hs)
      rw [e1] at e5; cases e5; exact e2
    · exact z.elim) z⟩
noncomputable def ups (lo : Int) (n : Nat) : List Dt := (List.range n).map fun i => .int (lo + (i : Nat))
noncomputable def Xd (tl : DTA) : DTI := fun ρ Q => tl ρ fun ds => match ds with
  | [.int j] => (-(2 ^ 62) ≤ j ∧ j < 2 ^ 62) ∧ Q (ups 0 j.toNat)
  | _ => False
noncomputable def Xg (tl : DTA) : DTI := fun ρ Q => tl ρ fun ds => match ds with
  | [.int i, .int j] => (-(2 ^ 62) ≤ i ∧ i < 2 ^ 62 ∧ -(2 ^ 62) ≤ j ∧ j < 2 ^ 62) ∧ Q (ups i (j - i).toNat)
  | _ => False
end
noncomputable def Ci (N : List Str) (ds : List Dt) : Bq := ds.map (fun d => some (.is d)) ++ List.replicate (N.length - ds.length) none
theorem Ik {K : PySem.W.Frag} {F : List Addr} {H : Hp} {N : List Str} {ds : List Dt} {vs : List V} (hF : ∀ a ∈ F, H a ≠ none) (r : RpL K (mask F H) ds vs) : Rep K H F [] H (start N vs) (Ci N ds) := by
  have hl := r.len
  have noown : ∀ (i : Nat) (es : En), (∀ z, es ≠ .is z) → (Ci N ds)[i]? = some (some es) → False := fun i es nz e => by
    unfold Ci at e
    by_cases hi : i < ds.length
    · rw [List.getElem?_append_left (by simpa using hi), List.getElem?_map] at e
      cases q : ds[i]? with
      | none => rw [q] at e; cases e
      | some d => rw [q] at e; cases e; exact nz d rfl
    · rw [List.getElem?_append_right (by simpa using hi), List.getElem?_replicate] at e
      split at e <;> cases e
  refine ⟨?_, Same.refl H, fun a h => (nomatch h), fun a h => hF a (by simpa using h), fun i d e => ?_, fun i es e => (noown i _ (fun _ z => by cases z) e).elim, fun i j es es' a h1 => (noown i _ (fun _ z => by cases z) h1).elim, fun i es e => (noown i _ (fun _ z => by cases z) e).elim, fun i j es es' a h1 => (noown i _ (fun _ z => by cases z) h1).elim⟩
  · unfold start Ci; simp [hl]
  · unfold Ci at e
    by_cases hi : i < ds.length
    · rw [List.getElem?_append_left (by simpa using hi), List.getElem?_map] at e
      cases q : ds[i]? with
      | none => rw [q] at e; cases e
      | some d' =>
        rw [q] at e; cases e
        obtain ⟨v, e1, e2⟩ := r.get q
        refine ⟨v, ?_, by rw [List.append_nil]; exact e2⟩
        unfold start
        rw [List.getElem?_append_left (by simp; omega), List.getElem?_map, e1]; rfl
    · rw [List.getElem?_append_right (by simpa using hi), List.getElem?_replicate] at e
      split at e <;> cases e
section
variable {P : Program} {w : World} {K : PySem.W.Frag} {mg : Str → Option Value} {base : Heap}
theorem Fun.okD {x qual : Str} {st : Stmt} {f : Addr} {fd : FuncData} {N ps : List Str} {k : Nat} {sp : DSp} (F : Fun K x qual st f fd) (S : Al N ps (Ac st)) (len : ∀ ds Q, sp ds Q → ds.length = ps.length)
    (hbody : ∀ (cdv : Value) (A : Around) (outer : List Env) (s : Shared) (H : Hp) (E : XK), Ck k (A.deeper (envOfC qual (Ac st) s.heap.objs.size f cdv)) →
      ∃ t, DSs (Jc CX0 P w K mg base N qual (Ac st) f cdv A outer s H E).nox (Bf st) t ∧ ∀ ds Q, sp ds Q → t { nx := fun _ => Q .non, rt := Q } (Ci N ds)) : DY P w K mg base CX0 (k + 1) f fd ps (lSp K sp) := by
  refine F.ok S (fun vs H Q E ⟨F, ds, _, r, h⟩ => by rw [r.len]; exact len _ _ h) fun cdv A outer s H vs Q E hr ⟨F', ds, hF, r, h⟩ => ?_
  obtain ⟨t, T, q⟩ := hbody cdv A outer s H E hr
  refine ⟨_, T.ps, H, F', [], Ci N ds, Ik hF r, T.mono (D := { nx := fun _ => ∀ v H', Same H H' → Rp K (mask F' H') .non v → Q v H', rt := fun d => ∀ v H', Same H H' → Rp K (mask F' H') d v → Q v H' }) ⟨?_, ?_, fun _ z => False.elim z, fun _ z => False.elim z⟩ (q ds _ h)⟩
  · exact fun ρ z O' σ' H' R' => z .non H' R'.base (GP.mpr rfl)
  · exact fun d z v H' s' r' => z v H' s' r'
end
end L2
namespace L2
open PySem PySem.Spec PyProof.Rows PySem.SeqAt
structure FnT (K : PySem.W.Frag) (mg : Str → Option Value) (x : Str) (st : Stmt) (ps : List Str) (f : Addr) (fd : FuncData) : Prop where
  fn : Fun K x x st f fd
  mg : mg x = some (.ref f)
  bd : Binds K fd ps []
noncomputable def Pm (P : Program) (w : World) (K : PySem.W.Frag) (mg : Str → Option Value) (base : Heap) (k : Nat) (x : Str) (st : Stmt) (ps : List Str) (sp : DSp) : Prop :=
  ∃ f fd, FnT K mg x st ps f fd ∧ DY P w K mg base CX0 k f fd ps (lSp K sp)
theorem Fun.uniq {K : PySem.W.Frag} {x q : Str} {st : Stmt} {f : Addr} {fd fd' : FuncData} (a : Fun K x q st f fd) (b : Fun K x q st f fd') : fd = fd' := by
  obtain ⟨oc, od, kV, doc, pm, an, cdv, ct, osl, _, h1, _⟩ := a.ex
  obtain ⟨oc', od', kV', doc', pm', an', cdv', ct', osl', _, h2, _⟩ := b.ex
  rw [h1] at h2
  injection h2 with h2
  injection h2 with _ _ h2 _
  injection h2
noncomputable def spec {τ : Type} (args : τ → List Dt) (pre : τ → Prop) (post : τ → Dt → Prop) : DSp := fun ds Q => ∃ p, ds = args p ∧ pre p ∧ ∀ d, post p d → Q d
theorem Af {τ : Type} {args : τ → List Dt} {pre : τ → Prop} {post : τ → Dt → Prop} : Jp (spec args pre post) := fun _ _ _ hq ⟨p, e, h, q⟩ => ⟨p, e, h, fun d z => hq _ (q d z)⟩
noncomputable abbrev Ez {τ : Type} (args : τ → List Dt) (pre : τ → Prop) (val : τ → Dt) : DSp := spec args pre fun p d => d = val p
noncomputable abbrev T2 (a b : Int) : Dt := .tup [.int a, .int b]
noncomputable abbrev T3 (a b c : Int) : Dt := .tup [.int a, .int b, .int c]
noncomputable abbrev T4 (a b c d : Int) : Dt := .tup [.int a, .int b, .int c, .int d]
noncomputable def Uw : DSp := spec (fun ns : List Int => [.lst (ns.map Dt.int)]) (fun ns => ns.length ≤ 63) fun _ d => d = .bl true
theorem Oo {H : Hp} : mask [] H = H := by funext a; exact Bd (by simp)
theorem Mt {K : PySem.W.Frag} {H : Hp} {a : Addr} {ns : List Int} {E : XK} (hl : ns.length ≤ 63) (hS : SqL K H a (ns.map V.int)) : lSp K Uw [.ref a] H (fun v _ => v = .bl true) E :=
  ⟨[], [.lst (ns.map Dt.int)], fun _ h => (nomatch h), RpL.cons (Rx (by rw [Oo]; exact hS) (RpL.ints ns)) RpL.nil, ns, rfl, hl, fun d e v H' s r => by subst e; exact BZ.mp r⟩
section
variable {X : Cx} {a b c e : Expr} {es : List Expr} {ta tb tc te : DTE} {tA tB : DTT} {tl : DTA} {pos : Pos}
theorem Aj {k : Nat} {ps : List Str} {sp : DSp} {x : Str} {stx : Stmt} {p : Pos} (m : Jp sp) (G : Pm X.prog X.w X.K X.mg X.base k x stx ps sp) (hr : Ck k X.A) (hg : Gl X x)
    (ha : DA X (e :: es) tl) (hdb : (x == ("__debug__" : Str)) = false := by decide)
    (he : starEach (e :: es) X.env = (false, eval e X.env) :: starEach es X.env := by rfl) (hpl : (backTo pos (starEach es X.env)).any (·.1) = false := by rfl) : DE X (.Call (.Name x p) (e :: es) [] pos) (dCall sp tl) := by
  obtain ⟨f, fd, F, G⟩ := G
  exact Rv (CX := CX0) m G hr hg F.mg F.fn.kp F.bd ha hdb he hpl
theorem Aw (i : Nat) {x : Str} {pos' : Pos} (hN : X.N.Nodup) (he : DE X e te) (hi : X.N[i]? = some x := by rfl) (hx : Loc X.env.scope x := by first | exact Or.inl rfl | exact Or.inr rfl) (hs : swapsWith e (some (.Name x pos')) pos.line X.env = pure false := by rfl)
    (hf : X.fn x = true ∨ X.env.scope.names.lookup x = some .local := by first | exact .inl rfl | exact .inr rfl | assumption) : DS X (.Assign [.Name x pos'] e pos) (AaR te (K3 i)) where
  mono := fun hd h => he.mono (fun _ h => hd.nx _ h) h
  ps := (V7 hN hi hx he.pe hs hf).imp fun D σ H ⟨B, F, O, ρ, R, h⟩ => ⟨B, F, O, ρ, R, he.mono (fun d q v H1 s1 r1 => q O _ H1 ((R.same s1).set i r1)) h⟩
noncomputable def AaP (i j : Nat) (tl : DTA) : DTS := fun D ρ => tl ρ fun ds => match ds with
  | [d, e] => D.nx ((ρ.set i (some (.is d))).set j (some (.is e)))
  | _ => False
mutual
noncomputable def Dt.py : Dt → PyData
  | .non => .none
  | .bl b => .bool b
  | .int i => .int i
  | .str x => .str x
  | .tup ds => .tuple (Dt.pys ds)
  | .lst ds => .list (Dt.pys ds)
  | .fn _ => .dict []
  | .exc _ _ _ => .dict []
  | .obj _ _ _ => .dict []
noncomputable def Dt.pys : List Dt → List PyData
  | [] => []
  | d :: ds => d.py :: Dt.pys ds
end
mutual
theorem Fj {X : Cx} {pins : List (Addr × Obj)} {σ : St} {H : Hp} {s : Shared} (I : Inv X pins σ H s) : ∀ {d : Dt} {v : V} {u : Value}, d.py.canLay0 = true → Rp X.K H d v → RelV v u → ∃ as, Reads s.heap u d.py as
  | .non, v, u, _, h, r => by rw [GP.mp h] at r; cases (show u = .none from r); exact ⟨_, by rw [Dt.py]; exact .none⟩
  | .bl b, v, u, _, h, r => by rw [BZ.mp h] at r; cases (show u = .bool b from r); exact ⟨_, by rw [Dt.py]; exact .bool b⟩
  | .int i, v, u, _, h, r => by rw [Bc.mp h] at r; obtain ⟨t, rfl⟩ := r; exact ⟨_, by rw [Dt.py]; exact .int i t⟩
  | .str x, v, u, _, h, r => by rw [Jb.mp h] at r; obtain ⟨t, rfl⟩ := r; exact ⟨_, by rw [Dt.py]; exact .str x t⟩
  | .fn a, v, u, c, h, r => by rw [Dt.py] at c; exact (nomatch c)
  | .exc _ _ _, v, u, c, h, r => by rw [Dt.py] at c; exact (nomatch c)
  | .obj _ _ _, v, u, c, h, r => by rw [Dt.py] at c; exact (nomatch c)
  | .tup ds, v, u, c, h, r => by
    obtain ⟨a, xs, rfl, hs, hl⟩ := Er.mp h
    cases (show u = .ref a from r)
    obtain ⟨its, rv, ⟨o, h1, h2, n, h3⟩, _⟩ := I.tuple hs
    rw [Dt.py] at c
    obtain ⟨as, ra⟩ := GQ I (ds := ds) (by simpa [PyData.canLay0] using c) hl rv
    exact ⟨_, by rw [Dt.py]; exact .tuple h1 h2 h3 (by simpa using ra)⟩
  | .lst ds, v, u, c, h, r => by
    obtain ⟨a, xs, rfl, hs, hl⟩ := Fx h
    cases (show u = .ref a from r)
    obtain ⟨its, rv, ⟨o, n, h1, h2, _, h3⟩, _⟩ := I.list hs
    rw [Dt.py] at c
    obtain ⟨as, ra⟩ := GQ I (ds := ds) (by simpa [PyData.canLay0] using c) hl rv
    exact ⟨_, by rw [Dt.py]; exact .list h1 h2 h3 (by simpa using ra)⟩
theorem GQ {X : Cx} {pins : List (Addr × Obj)} {σ : St} {H : Hp} {s : Shared} (I : Inv X pins σ H s) : ∀ {ds : List Dt} {vs : List V} {us : List Value}, PyData.canLayAll0 (Dt.pys ds) = true → RpL X.K H ds vs → Vals vs us → ∃ as, ReadsAll s.heap us (Dt.pys ds) as
  | [], vs, us, _, h, r => by rw [Ca.mp h] at r; cases r; exact ⟨_, by rw [Dt.pys]; exact .nil⟩
  | d :: ds, vs, us, c, h, r => by
    obtain ⟨v, vr, rfl, h1, h2⟩ := Bb.mp h
    rw [Dt.pys] at c
    have c' : d.py.canLay0 = true ∧ PyData.canLayAll0 (Dt.pys ds) = true := by simpa [PyData.canLayAll0] using c
    cases r with
    | cons r1 r2 =>
      obtain ⟨as, ra⟩ := Fj I c'.1 h1 r1
      obtain ⟨bs, rb⟩ := GQ I c'.2 h2 r2
      exact ⟨_, by rw [Dt.pys]; exact .cons ra rb⟩
end
mutual
noncomputable def Dt.eq : Dt → Dt → Bool
  | .non, .non => true
  | .bl a, .bl b => a == b
  | .bl a, .int j => (if a then 1 else 0) == j
  | .int i, .bl b => i == (if b then 1 else 0)
  | .int i, .int j => decide (i = j)
  | .str x, .str y => x == y
  | .tup xs, .tup ys => Dt.eqs xs ys
  | .lst xs, .lst ys => Dt.eqs xs ys
  | _, _ => false
noncomputable def Dt.eqs : List Dt → List Dt → Bool
  | [], [] => true
  | x :: xs, y :: ys => Dt.eq x y && Dt.eqs xs ys
  | _, _ => false
end
mutual
noncomputable def Dt.flat : Nat → Dt → Bool
  | _, .fn _ => false
  | _, .exc _ _ _ => false
  | _, .obj _ _ _ => false
  | _, .str x => (PyData.str x).canLay0
  | 0, .tup _ => false
  | 0, .lst _ => false
  | n + 1, .tup ds => Dt.flats n ds
  | n + 1, .lst ds => Dt.flats n ds
  | _, _ => true
noncomputable def Dt.flats : Nat → List Dt → Bool
  | _, [] => true
  | n, d :: ds => Dt.flat n d && Dt.flats n ds
end
mutual
theorem Fb : ∀ (d : Dt) (n : Nat), d.flat n = true → d.py.canLay0 = true ∧ d.py.depth ≤ n
  | .non, n, h => by rw [Dt.py]; exact ⟨rfl, Nat.zero_le _⟩
  | .bl _, n, h => by rw [Dt.py]; exact ⟨rfl, Nat.zero_le _⟩
  | .int _, n, h => by rw [Dt.py]; exact ⟨rfl, Nat.zero_le _⟩
  | .str _, n, h => by rw [Dt.py]; exact ⟨by simpa [Dt.flat] using h, Nat.zero_le _⟩
  | .fn _, n, h => by simp [Dt.flat] at h
  | .exc _ _ _, n, h => by simp [Dt.flat] at h
  | .obj _ _ _, n, h => by simp [Dt.flat] at h
  | .tup ds, 0, h => by simp [Dt.flat] at h
  | .lst ds, 0, h => by simp [Dt.flat] at h
  | .tup ds, n + 1, h => by
    have := GJ ds n (by simpa [Dt.flat] using h)
    rw [Dt.py]
    exact ⟨by simpa [PyData.canLay0] using this.1, by simpa [PyData.depth] using this.2⟩
  | .lst ds, n + 1, h => by
    have := GJ ds n (by simpa [Dt.flat] using h)
    rw [Dt.py]
    exact ⟨by simpa [PyData.canLay0] using this.1, by simpa [PyData.depth] using this.2⟩
theorem GJ : ∀ (ds : List Dt) (n : Nat), Dt.flats n ds = true → PyData.canLayAll0 (Dt.pys ds) = true ∧ PyData.depthAll (Dt.pys ds) ≤ n
  | [], n, h => by rw [Dt.pys]; exact ⟨rfl, Nat.zero_le _⟩
  | d :: ds, n, h => by
    have h' : d.flat n = true ∧ Dt.flats n ds = true := by simpa [Dt.flats] using h
    have h1 := Fb d n h'.1
    have h2 := GJ ds n h'.2
    rw [Dt.pys]
    exact ⟨by simp [PyData.canLayAll0, h1.1, h2.1], by simp only [PyData.depthAll]; omega⟩
end
mutual
theorem K4 : ∀ (a b : Dt), a.py.canLay0 = true → b.py.canLay0 = true → PyData.eqv a.py b.py = a.eq b
  | .fn _, b, h, _ => by rw [Dt.py] at h; exact (nomatch h)
  | .exc _ _ _, b, h, _ => by rw [Dt.py] at h; exact (nomatch h)
  | .obj _ _ _, b, h, _ => by rw [Dt.py] at h; exact (nomatch h)
  | a, .fn _, _, h => by rw [Dt.py] at h; exact (nomatch h)
  | a, .exc _ _ _, _, h => by rw [Dt.py] at h; exact (nomatch h)
  | a, .obj _ _ _, _, h => by rw [Dt.py] at h; exact (nomatch h)
  | .non, .non, _, _ => by simp [Dt.py, Dt.eq, PyData.eqv]
  | .non, .bl _, _, _ => by simp [Dt.py, Dt.eq, PyData.eqv]
  | .non, .int _, _, _ => by simp [Dt.py, Dt.eq, PyData.eqv]
  | .non, .str _, _, _ => by simp [Dt.py, Dt.eq, PyData.eqv]
  | .non, .tup _, _, _ => by simp [Dt.py, Dt.eq, PyData.eqv]
  | .non, .lst _, _, _ => by simp [Dt.py, Dt.eq, PyData.eqv]
  | .bl _, .non, _, _ => by simp [Dt.py, Dt.eq, PyData.eqv]
  | .bl _, .bl _, _, _ => by simp [Dt.py, Dt.eq, PyData.eqv]
  | .bl _, .int _, _, _ => by simp [Dt.py, Dt.eq, PyData.eqv]
  | .bl _, .str _, _, _ => by simp [Dt.py, Dt.eq, PyData.eqv]
  | .bl _, .tup _, _, _ => by simp [Dt.py, Dt.eq, PyData.eqv]
  | .bl _, .lst _, _, _ => by simp [Dt.py, Dt.eq, PyData.eqv]
  | .int _, .non, _, _ => by simp [Dt.py, Dt.eq, PyData.eqv]
  | .int _, .bl _, _, _ => by simp [Dt.py, Dt.eq, PyData.eqv]
  | .int i, .int j, _, _ => by
    simp only [Dt.py, Dt.eq, PyData.eqv]
    exact Bool.beq_eq_decide_eq i j
  | .int _, .str _, _, _ => by simp [Dt.py, Dt.eq, PyData.eqv]
  | .int _, .tup _, _, _ => by simp [Dt.py, Dt.eq, PyData.eqv]
  | .int _, .lst _, _, _ => by simp [Dt.py, Dt.eq, PyData.eqv]
  | .str _, .non, _, _ => by simp [Dt.py, Dt.eq, PyData.eqv]
  | .str _, .bl _, _, _ => by simp [Dt.py, Dt.eq, PyData.eqv]
  | .str _, .int _, _, _ => by simp [Dt.py, Dt.eq, PyData.eqv]
  | .str _, .str _, _, _ => by simp [Dt.py, Dt.eq, PyData.eqv]
  | .str _, .tup _, _, _ => by simp [Dt.py, Dt.eq, PyData.eqv]
  | .str _, .lst _, _, _ => by simp [Dt.py, Dt.eq, PyData.eqv]
  | .tup _, .non, _, _ => by simp [Dt.py, Dt.eq, PyData.eqv]
  | .tup _, .bl _, _, _ => by simp [Dt.py, Dt.eq, PyData.eqv]
  | .tup _, .int _, _, _ => by simp [Dt.py, Dt.eq, PyData.eqv]
  | .tup _, .str _, _, _ => by simp [Dt.py, Dt.eq, PyData.eqv]
  | .tup xs, .tup ys, h1, h2 => by
    rw [Dt.py] at h1 h2
    rw [Dt.py, Dt.py, Dt.eq, PyData.eqv]
    exact Iv xs ys (by simpa [PyData.canLay0] using h1) (by simpa [PyData.canLay0] using h2)
  | .tup _, .lst _, _, _ => by simp [Dt.py, Dt.eq, PyData.eqv]
  | .lst _, .non, _, _ => by simp [Dt.py, Dt.eq, PyData.eqv]
  | .lst _, .bl _, _, _ => by simp [Dt.py, Dt.eq, PyData.eqv]
  | .lst _, .int _, _, _ => by simp [Dt.py, Dt.eq, PyData.eqv]
  | .lst _, .str _, _, _ => by simp [Dt.py, Dt.eq, PyData.eqv]
  | .lst _, .tup _, _, _ => by simp [Dt.py, Dt.eq, PyData.eqv]
  | .lst xs, .lst ys, h1, h2 => by
    rw [Dt.py] at h1 h2
    rw [Dt.py, Dt.py, Dt.eq, PyData.eqv]
    exact Iv xs ys (by simpa [PyData.canLay0] using h1) (by simpa [PyData.canLay0] using h2)
theorem Iv : ∀ (xs ys : List Dt), PyData.canLayAll0 (Dt.pys xs) = true → PyData.canLayAll0 (Dt.pys ys) = true → PyData.eqvAll (Dt.pys xs) (Dt.pys ys) = Dt.eqs xs ys
  | [], [], _, _ => by simp [Dt.pys, Dt.eqs, PyData.eqvAll]
  | [], _ :: _, _, _ => by simp [Dt.pys, Dt.eqs, PyData.eqvAll]
  | _ :: _, [], _, _ => by simp [Dt.pys, Dt.eqs, PyData.eqvAll]
  | x :: xs, y :: ys, h1, h2 => by
    rw [Dt.pys] at h1 h2
    have h1' : x.py.canLay0 = true ∧ PyData.canLayAll0 (Dt.pys xs) = true := by simpa [PyData.canLayAll0] using h1
    have h2' : y.py.canLay0 = true ∧ PyData.canLayAll0 (Dt.pys ys) = true := by simpa [PyData.canLayAll0] using h2
    rw [Dt.pys, Dt.pys, Dt.eqs, PyData.eqvAll, K4 x y h1'.1 h2'.1, Iv xs ys h1'.2 h2'.2]
end
noncomputable def Ra (K : PySem.W.Frag) (neg : Bool) : R2 := fun x y H Q => ∃ a b, Rp K H a x ∧ Rp K H b y ∧ a.flat 8 = true ∧ b.flat 8 = true ∧ Q (.bl (if neg then !a.eq b else a.eq b)) H
theorem Nq (hu : X.A.units + 64 < cLine) : OpR X (compareOp .Eq) (Ra X.K false) := by
  intro pins s σ H x y v u Q I rx ry ⟨a, b, ra, rb, fa, fb, q⟩
  obtain ⟨ca, da⟩ := Fb a 8 fa
  obtain ⟨cb, db⟩ := Fb b 8 fb
  obtain ⟨as, r1⟩ := Fj I ca ra rx
  obtain ⟨bs, r2⟩ := Fj I cb rb ry
  refine rcAt_reads r1 r2 ca cb (by omega) _ _ _ _ ?_
  rw [K4 a b ca cb]
  exact ⟨.bl _, H, I, rfl, q⟩
theorem Ni (hu : X.A.units + 64 < cLine) : OpR X (compareOp .NotEq) (Ra X.K true) := by
  intro pins s σ H x y v u Q I rx ry ⟨a, b, ra, rb, fa, fb, q⟩
  obtain ⟨ca, da⟩ := Fb a 8 fa
  obtain ⟨cb, db⟩ := Fb b 8 fb
  obtain ⟨as, r1⟩ := Fj I ca ra rx
  obtain ⟨bs, r2⟩ := Fj I cb rb ry
  refine compareNe_reads r1 r2 ca cb (by omega) ?_
  rw [K4 a b ca cb]
  exact ⟨.bl _, H, I, rfl, q⟩
noncomputable def dEq : D2 := fun a b Q => (a.flat 8 = true ∧ b.flat 8 = true) ∧ Q (.bl (a.eq b))
noncomputable def dNe : D2 := fun a b Q => (a.flat 8 = true ∧ b.flat 8 = true) ∧ Q (.bl (!a.eq b))
theorem NZ {K : PySem.W.Frag} : Ga K (Ra K false) dEq := ⟨fun hq h => ⟨h.1, hq _ h.2⟩, fun O H a b x y Q _ ra rb h => ⟨a, b, ra.mono Bj, rb.mono Bj, h.1.1, h.1.2, h.2 _ H (Same.refl H) (BZ.mpr rfl)⟩⟩
theorem Qf {K : PySem.W.Frag} : Ga K (Ra K true) dNe := ⟨fun hq h => ⟨h.1, hq _ h.2⟩, fun O H a b x y Q _ ra rb h => ⟨a, b, ra.mono Bj, rb.mono Bj, h.1.1, h.1.2, h.2 _ H (Same.refl H) (BZ.mpr rfl)⟩⟩
theorem Ka (hu : X.A.units + 64 < cLine) (ha : DE X a ta) (hb : DE X b tb) : DE X (.Compare a [.Eq] [b] pos) (dOp dEq ta tb) := KH (Nq hu) NZ ha hb (FP _)
theorem XH (hu : X.A.units + 64 < cLine) (ha : DE X a ta) (hb : DE X b tb) : DE X (.Compare a [.NotEq] [b] pos) (dOp dNe ta tb) := KH (Ni hu) Qf ha hb (FP _)
theorem Gw (hu : X.A.units + 64 < cLine) (ha : DE X a ta) (hb : DE X b tb) : DT X (.Compare a [.Eq] [b] pos) (JH (dOp dEq ta tb)) := Iw (Nq hu) NZ ha hb (FP _)
theorem FJ (hu : X.A.units + 64 < cLine) (ha : DE X a ta) (hb : DE X b tb) : DT X (.Compare a [.NotEq] [b] pos) (JH (dOp dNe ta tb)) := Iw (Ni hu) Qf ha hb (FP _)
noncomputable def isB (k : Bool) : Dt → Bool
  | .bl b => b == k
  | _ => false
noncomputable def isN : Dt → Bool
  | .non => true
  | _ => false
noncomputable def dIs (neg : Bool) : D2 := fun a b Q => match b with
  | .bl k => Q (.bl (if neg then !isB k a else isB k a))
  | .non => Q (.bl (if neg then !isN a else isN a))
  | _ => False
noncomputable def Hw (t t' : D2) (ta tb tc : DTE) : DTE := fun ρ Q => ta ρ fun a => tb ρ fun b => t a b fun z => match z with
  | .bl k => if k = true then tc ρ fun c => t' b c Q else Q (.bl false)
  | _ => False
theorem K8 {t t' : D2} {ta tb tc : DTE} (m : ∀ {a b Q Q'}, (∀ d, Q d → Q' d) → t a b Q → t a b Q') (m' : ∀ {a b Q Q'}, (∀ d, Q d → Q' d) → t' a b Q → t' a b Q')
    (ma : ∀ {ρ Q Q'}, (∀ d, Q d → Q' d) → ta ρ Q → ta ρ Q') (mb : ∀ {ρ Q Q'}, (∀ d, Q d → Q' d) → tb ρ Q → tb ρ Q') (mc : ∀ {ρ Q Q'}, (∀ d, Q d → Q' d) → tc ρ Q → tc ρ Q') :
    ∀ {ρ Q Q'}, (∀ d, Q d → Q' d) → Hw t t' ta tb tc ρ Q → Hw t t' ta tb tc ρ Q' := fun hq h => ma (fun _ h => mb (fun _ h => m (fun z h => by
      split at h
      · rename_i k
        cases k with
        | true => exact mc (fun _ h => m' hq h) h
        | false => exact hq _ h
      · exact h.elim) h) h) h
theorem MK {K : PySem.W.Frag} {r r' : R2} {t t' : D2} (S : Ga K r t) (S' : Ga K r' t') {ta tb tc : DTE} (ma : ∀ {ρ Q Q'}, (∀ d, Q d → Q' d) → ta ρ Q → ta ρ Q') (mb : ∀ {ρ Q Q'}, (∀ d, Q d → Q' d) → tb ρ Q → tb ρ Q') (mc : ∀ {ρ Q Q'}, (∀ d, Q d → Q' d) → tc ρ Q → tc ρ Q')
    (σ : St) (H : Hp) (Q : VK) (h : lE K (Hw t t' ta tb tc) σ H Q) : O6 r r' (lE K ta) (lE K tb) (lE K tc) σ H Q := by
  obtain ⟨B, F, O, ρ, R, h⟩ := h
  refine ⟨B, F, O, ρ, R, ma (fun a h v H1 s1 r1 => ⟨B, F, O, ρ, R.same s1, mb (fun b h u H2 s2 r2 => ?_) h⟩) h⟩
  refine S.ok _ H2 a b v u _ ((R.same s1).same s2).th (r1.mono s2.mask) r2 (S.mono (fun z h w H3 s3 r3 => ?_) h)
  split at h
  · rename_i k
    refine ⟨k, BZ.mp r3, ?_⟩
    have s123 := (s1.trans s2).trans s3
    cases k with
    | true => exact ⟨B, F, O, ρ, R.same s123, mc (fun c h y H4 s4 r4 => S'.ok _ H4 b c u y Q ((R.same s123).same s4).th ((r2.mono s3.mask).mono s4.mask) r4 (S'.mono (fun d q w' H5 s5 r5 => q w' H5 ((s123.trans s4).trans s5) r5) h)) h⟩
    | false => exact h _ H3 s123 (BZ.mpr rfl)
  · exact h.elim
theorem JZ {op op' : CmpOp} {r r' : R2} {t t' : D2} (ho : OpR X (compareOp op) r) (ho' : OpR X (compareOp op') r') (S : Ga X.K r t) (S' : Ga X.K r' t') (ha : DE X a ta) (hb : DE X b tb) (hc : DE X c tc)
    (hm : lastMarks [op, op'] [b, c] = false := by with_unfolding_all rfl) : DE X (.Compare a [op, op'] [b, c] pos) (Hw t t' ta tb tc) where
  mono := K8 (t := t) (t' := t') (ta := ta) (tb := tb) (tc := tc) S.mono S'.mono ha.mono hb.mono hc.mono
  pe := (NP ho ho' ha.pe hb.pe hc.pe hm).imp (MK (ta := ta) (tb := tb) (tc := tc) S S' ha.mono hb.mono hc.mono)
noncomputable abbrev DL := List Dt → (Dt → Prop) → Prop
structure Mw (K : PySem.W.Frag) (r : List V → Hp → VK → Prop) (t : DL) : Prop where
  mono : ∀ {ds Q Q'}, (∀ d, Q d → Q' d) → t ds Q → t ds Q'
  ok : ∀ (O : List Addr) (H : Hp) (ds : List Dt) (xs : List V) (Q : VK), (∀ p ∈ O, H p ≠ none) → RpL K (mask O H) ds xs →
    t ds (fun d => ∀ v H', Same H H' → Rp K (mask O H') d v → Q v H') → r xs H Q
noncomputable def dCB (t : DL) (tl : DTA) : DTE := fun ρ Q => tl ρ fun ds => t ds Q
theorem W7 {K : PySem.W.Frag} {r : List V → Hp → VK → Prop} {t : DL} (S : Mw K r t) {tl : DTA} (m : ∀ {ρ Q Q'}, (∀ d, Q d → Q' d) → tl ρ Q → tl ρ Q') (σ : St) (H : Hp) (Q : VK) (h : lE K (dCB t tl) σ H Q) : tCB r (lA K tl) σ H Q := by
  obtain ⟨B, F, O, ρ, R, h⟩ := h
  exact ⟨B, F, O, ρ, R, m (fun ds h vs H1 s1 r1 => S.ok _ H1 ds vs Q (R.same s1).th r1 (S.mono (fun d q v H2 s2 r2 => q v H2 (s1.trans s2) r2) h)) h⟩
theorem Lp {id : String} {x : Str} {p : Pos} {r : List V → Hp → VK → Prop} {t : DL} (hc : GF X (.builtin id) r) (S : Mw X.K r t) (hg : Gl X x) (hm : X.mg x = none) (hv : bootBuiltins x = some (.builtin id)) (ha : DA X (e :: es) tl) (hn : x ≠ "__name__" := by decide)
    (hdb : (x == ("__debug__" : Str)) = false := by decide) (he : starEach (e :: es) X.env = (false, eval e X.env) :: starEach es X.env := by rfl) (hpl : (backTo pos (starEach es X.env)).any (·.1) = false := by rfl) : DE X (.Call (.Name x p) (e :: es) [] pos) (dCB t tl) where
  mono := fun hq h => ha.mono (fun _ h => S.mono hq h) h
  pe := (Gn hc hg hm hv ha.pa hn hdb he hpl).imp (W7 (tl := tl) S ha.mono)
noncomputable def Qe : DL := fun ds Q => match ds with
  | [.lst xs] => Q (.int xs.length)
  | [.tup xs] => Q (.int xs.length)
  | _ => False
noncomputable def Nx : DL := fun ds Q => match ds with
  | [.int i] => Q (.int (if i < 0 then -i else i))
  | _ => False
noncomputable def Abu : DL := fun ds Q => match ds with
  | [.int i, .int j] => Q (.int (if j > i then j else i))
  | _ => False
noncomputable def Aa9 : DL := fun ds Q => match ds with
  | [.int i, .int j] => Q (.int (if j < i then j else i))
  | _ => False
noncomputable def Yg : DL := fun ds Q => match ds with
  | [.int i] => Q (.int i)
  | [.bl k] => Q (.int (if k then 1 else 0))
  | _ => False
theorem Q9 {K : PySem.W.Frag} : Mw K (fun xs H Q => ∃ p ys, xs = [.ref p] ∧ (SqL K H p ys ∨ SqT K H p ys) ∧ Q (.int ys.length) H) Qe where
  mono := fun hq h => by
    unfold Qe at h ⊢
    split at h
    · exact hq _ h
    · exact hq _ h
    · exact h.elim
  ok := fun O H ds xs Q _ r h => by
    unfold Qe at h
    split at h
    · obtain ⟨v, r', rfl, r2, r3⟩ := Bb.mp r
      obtain rfl := Ca.mp r3
      obtain ⟨a, ys, rfl, hs, hl⟩ := Fx r2
      exact ⟨a, ys, rfl, .inl (Bj.seq hs), by rw [hl.len]; exact h _ H (Same.refl H) (Bc.mpr rfl)⟩
    · obtain ⟨v, r', rfl, r2, r3⟩ := Bb.mp r
      obtain rfl := Ca.mp r3
      obtain ⟨a, ys, rfl, hs, hl⟩ := Er.mp r2
      exact ⟨a, ys, rfl, .inr (Bj.seqT hs), by rw [hl.len]; exact h _ H (Same.refl H) (Bc.mpr rfl)⟩
    · exact h.elim
theorem Abe {K : PySem.W.Frag} {H : Hp} {i : Int} {xs : List V} (h : RpL K H [.int i] xs) : xs = [.int i] := by
  obtain ⟨v, r, rfl, r2, r3⟩ := Bb.mp h
  rw [Ca.mp r3, Bc.mp r2]
theorem RW {K : PySem.W.Frag} : Mw K (fun xs H Q => ∃ i, xs = [.int i] ∧ Q (.int (if i < 0 then -i else i)) H) Nx where
  mono := fun hq h => by
    unfold Nx at h ⊢
    split at h
    · exact hq _ h
    · exact h.elim
  ok := fun O H ds xs Q _ r h => by
    unfold Nx at h
    split at h
    · exact ⟨_, Abe r, h _ H (Same.refl H) (Bc.mpr rfl)⟩
    · exact h.elim
theorem WW {p : Pos} (hm : X.mg "len" = none) (ha : DA X [a] tl) (hg : Gl X "len" := by rfl) (he : starEach [a] X.env = (false, eval a X.env) :: starEach [] X.env := by rfl) (hpl : (backTo pos (starEach [] X.env)).any (·.1) = false := by rfl) :
    DE X (.Call (.Name "len" p) [a] [] pos) (dCB Qe tl) := Lp IV Q9 hg hm PySem.boot_len ha (he := he) (hpl := hpl)
theorem Wh {p : Pos} (hm : X.mg "abs" = none) (ha : DA X [a] tl) (hg : Gl X "abs" := by rfl) (hv : bootBuiltins "abs" = some (.builtin "abs") := by rfl) (he : starEach [a] X.env = (false, eval a X.env) :: starEach [] X.env := by rfl) (hpl : (backTo pos (starEach [] X.env)).any (·.1) = false := by rfl) :
    DE X (.Call (.Name "abs" p) [a] [] pos) (dCB Nx tl) := Lp Np RW hg hm hv ha (he := he) (hpl := hpl)
noncomputable def tyOf : Dt → String
  | .non => "NoneType"
  | .bl _ => "bool"
  | .int _ => "int"
  | .str _ => "str"
  | .tup _ => "tuple"
  | .lst _ => "list"
  | .fn _ => "function"
  | .exc _ _ _ => "exception"
  | .obj _ _ _ => "instance"
noncomputable def noFn : Dt → Bool
  | .fn _ => false
  | .exc _ _ _ => false
  | .obj _ _ _ => false
  | _ => true
noncomputable def isT (T : String) (d : Dt) : Bool := tyOf d == T || (T == "int" && tyOf d == "bool")
noncomputable def O9 (T : String) : Prop := ∀ (K : PySem.W.Frag) (d : Dt), noFn d = true → PySem.W.kitOne K (.type (tyOf d)) (.type T) = some (isT T d)
theorem Qp {T : String} (hT : O9 T) : GF X (.builtin "isinstance") (fun xs H Q => ∃ d x, xs = [x, .ty T] ∧ Rp X.K H d x ∧ noFn d = true ∧ Q (.bl (isT T d)) H) := by
  intro pins s σ H xs us Q I r ⟨d, x, e, rp, nf, q⟩
  subst e
  obtain ⟨u, u2, rfl, r1, r2⟩ := vals2 r
  cases (show u2 = .type T from r2)
  have hk := hT X.K d nf
  have fin : ∀ tk, EP X pins σ Q (.bool (isT T d)) { s with toks := tk } := fun tk => ⟨.bl _, H, I.tok tk, rfl, q⟩
  cases d with
  | non => rw [GP.mp rp] at r1; cases (show u = Value.none from r1); exact PySem.W.kia_one PySem.W.kitx_none I.kIn True.intro hk (fun z => nomatch z) fin
  | bl y => rw [BZ.mp rp] at r1; cases (show u = Value.bool y from r1); exact PySem.W.kia_one PySem.W.kitx_bool I.kIn True.intro hk (fun z => nomatch z) fin
  | int i => rw [Bc.mp rp] at r1; obtain ⟨t, q⟩ := (show ∃ t, u = Value.int i t from r1); cases q; exact PySem.W.kia_one PySem.W.kitx_int I.kIn True.intro hk (fun z => nomatch z) fin
  | str y => rw [Jb.mp rp] at r1; obtain ⟨t, q⟩ := (show ∃ t, u = Value.str y t from r1); cases q; exact PySem.W.kia_one PySem.W.kitx_str I.kIn True.intro hk (fun z => nomatch z) fin
  | fn a => cases nf
  | exc _ _ _ => cases nf
  | obj _ _ _ => cases nf
  | tup ds =>
    obtain ⟨a, ys, rfl, hs, _⟩ := Er.mp rp
    cases (show u = Value.ref a from r1)
    obtain ⟨_, _, ⟨o, h1, h2, _⟩, _⟩ := I.tuple hs
    exact PySem.W.kia_one PySem.W.kitx_tuple I.kIn ⟨o, h1, h2⟩ hk (fun z => nomatch z) fin
  | lst ds =>
    obtain ⟨a, ys, rfl, hs, _⟩ := Fx rp
    cases (show u = Value.ref a from r1)
    obtain ⟨_, _, ⟨o, n, h1, h2, _⟩, _⟩ := I.list hs
    exact PySem.W.kia_one PySem.W.kitx_list I.kIn ⟨o, h1, h2⟩ hk (fun z => nomatch z) fin
noncomputable def AaF (T : String) (ta : DTE) : DTE := fun ρ Q => ta ρ fun d => noFn d = true ∧ Q (.bl (isT T d))
theorem Xn {T : String} {Ts : Str} {p p2 : Pos} (hm : X.mg "isinstance" = none) (hmT : X.mg Ts = none) (hT : O9 T) (ha : DE X a ta) (hg : Gl X "isinstance" := by rfl) (hgT : Gl X Ts := by rfl) (hv : bootBuiltins "isinstance" = some (.builtin "isinstance") := by rfl)
    (hvT : bootBuiltins Ts = some (.type T) := by rfl) (hn : Ts ≠ "__name__" := by decide) (hd : (Ts == ("__debug__" : Str)) = false := by decide)
    (hs1 : starEach [a, .Name Ts p2] X.env = (false, eval a X.env) :: starEach [.Name Ts p2] X.env := by rfl) (hs2 : starEach [.Name Ts p2] X.env = (false, eval (.Name Ts p2) X.env) :: starEach [] X.env := by rfl)
    (hpl : (backTo pos (starEach [.Name Ts p2] X.env)).any (·.1) = false := by rfl) : DE X (.Call (.Name "isinstance" p) [a, .Name Ts p2] [] pos) (AaF T ta) where
  mono := fun hq h => ha.mono (fun _ h => ⟨h.1, hq _ h.2⟩) h
  pe := (Gn (Qp hT) hg hm hv (Ek ha.pe (Ek (Jd (v := .ty T) hgT hmT hvT rfl hn hd) Js hs2) hs1) (he := hs1) (hpl := hpl)).imp fun σ H Q ⟨B, F, O, ρ, R, h⟩ =>
    ⟨B, F, O, ρ, R, ha.mono (fun d h v H1 s1 r1 => ⟨d, v, rfl, r1.mono Bj, h.1, h.2 _ H1 s1 (BZ.mpr rfl)⟩) h⟩
noncomputable abbrev DTO := Bq → (Option Int → Prop) → Prop
noncomputable def lO (K : PySem.W.Frag) (t : DTO) : TO := fun σ H Q => ∃ B F O ρ, Rep K B F O H σ ρ ∧ t ρ fun o => ∀ H', Same H H' → Q o H'
structure DO (X : Cx) (e : Option Expr) (t : DTO) : Prop where
  mono : ∀ {ρ Q Q'}, (∀ d, Q d → Q' d) → t ρ Q → t ρ Q'
  po : PO X e (lO X.K t)
noncomputable def Sd : DTO := fun _ Q => Q none
noncomputable def U6 (te : DTE) : DTO := fun ρ Q => te ρ fun d => match d with
  | .int i => Q (some i)
  | _ => False
theorem PO.imp {e : Option Expr} {t t' : TO} (h : PO X e t) (i : ∀ σ H Q, t' σ H Q → t σ H Q) : PO X e t' := fun pins s σ H Q I q => h pins s σ H Q I (i _ _ _ q)
theorem Lw (h : DE X e te) : DO X (some e) (U6 te) where
  mono := fun hq z => h.mono (fun d z => by
    split at z
    · exact hq _ z
    · exact z.elim) z
  po := (Tg h.pe).imp fun σ H Q ⟨B, F, O, ρ, R, z⟩ => ⟨B, F, O, ρ, R, h.mono (fun d z v H1 s1 r1 => by
    split at z
    · exact ⟨_, Bc.mp r1, z H1 s1⟩
    · exact z.elim) z⟩
noncomputable def cutD (xs : List Dt) (lo hi : Option Int) : List Dt := (xs.drop (HT.sIx xs.length 0 lo)).take (HT.sIx xs.length xs.length hi - HT.sIx xs.length 0 lo)
theorem RpL.cut {K : PySem.W.Frag} {H : Hp} {ds : List Dt} {xs : List V} {lo hi : Option Int} (h : RpL K H ds xs) : RpL K H (cutD ds lo hi) (Mv xs lo hi) := by
  unfold cutD Mv
  rw [h.len]
  exact (h.drop _).take _
noncomputable def WD (te : DTE) (tl th : DTO) : DTE := fun ρ Q => te ρ fun d => tl ρ fun lo => th ρ fun hi => match d with
  | .lst ds => Q (.lst (cutD ds lo hi))
  | _ => False
end
theorem M6 : O9 "bool" := fun K d h => by cases d <;> first | rfl | cases h
end L2
namespace L2
open PySem PySem.Spec PyProof.Rows PySem.SeqAt
section
variable {X : Cx} {elt iter : Expr} {x : Str} {px : Pos} {ifs : List Expr} {scope : Scope} {pos : Pos} {N : List Str} {sl : List Nat} {wi : TI} {tt : TT} {te : TE}
noncomputable def inner (sl : List Nat) (ρ : Bq) (d : Dt) : Bq := some (.is d) :: sl.map fun j => (ρ[j]?).join
noncomputable def X7 : DTT := fun _ Q => Q true
noncomputable def caught (sl : List Nat) (ρ : Bq) : Prop := ∀ j ∈ sl, ∃ d, ρ[j]? = some (some (.is d))
noncomputable def Aah (sl : List Nat) (ti : DTI) (tt : DTT) (te : DTE) : DTE := fun ρ Q => ti ρ fun items => items.length ≤ sizeLine ∧ caught sl ρ ∧
  ∃ W : Nat → List Dt → Prop, W 0 [] ∧ (∀ (k : Nat) d acc, items[k]? = some d → W k acc → tt (inner sl ρ d) fun b => if b = true then te (inner sl ρ d) fun e => W (k + 1) (acc ++ [e]) else W (k + 1) acc) ∧
    ∀ acc, acc.length ≤ items.length → W items.length acc → Q (.lst acc)
end
end L2
namespace L2
open PySem PySem.Spec PyProof.Rows PySem.SeqAt
noncomputable def Bt (n : Nat) (x : Int) : Prop := x.natAbs < 2 ^ n
theorem Bt.le {n m : Nat} {x : Int} (h : Bt n x) (l : n ≤ m) : Bt m x := Nat.lt_of_lt_of_le h (Nat.pow_le_pow_right (by decide) l)
theorem Bt.mul {n m : Nat} {x y : Int} (a : Bt n x) (b : Bt m y) : Bt (n + m) (x * y) := by
  unfold Bt at *
  rw [Int.natAbs_mul, Nat.pow_add]
  exact Nat.mul_lt_mul'' a b
theorem Bt.add {n m : Nat} {x y : Int} (a : Bt n x) (b : Bt m y) : Bt (max n m + 1) (x + y) := by
  have a' := a.le (Nat.le_max_left n m)
  have b' := b.le (Nat.le_max_right n m)
  unfold Bt at *
  rw [Nat.pow_succ]
  have := Int.natAbs_add_le x y
  omega
theorem Bt.neg {n : Nat} {x : Int} (a : Bt n x) : Bt n (-x) := by unfold Bt at *; rw [Int.natAbs_neg]; exact a
theorem Bt.sub {n m : Nat} {x y : Int} (a : Bt n x) (b : Bt m y) : Bt (max n m + 1) (x - y) := by rw [Int.sub_eq_add_neg]; exact a.add b.neg
theorem Bt.of_abs {n : Nat} {x : Int} (h : x.natAbs < 2 ^ n) : Bt n x := h
theorem Bt.of {n : Nat} {x : Int} (h1 : -(2 ^ n) < x) (h2 : x < 2 ^ n) : Bt n x := by
  unfold Bt
  have : ((x.natAbs : Nat) : Int) < ((2 ^ n : Nat) : Int) := by push_cast; omega
  omega
theorem Bt.mulOk {n m : Nat} {x y : Int} (a : Bt n x) (b : Bt m y) (hn : n ≤ 1048576 := by decide) (hm : m ≤ 1048576 := by decide) : IntMulOk x y :=
  IntMulOk.of_bits (intBits_le_iff.mpr (a.le hn)) (intBits_le_iff.mpr (b.le hm))
theorem Bt.divOk {n : Nat} {x y : Int} (a : Bt n y) (h : y ≠ 0) (hn : n ≤ 9000 := by decide) : CDv x y := ⟨h, a.le hn⟩
theorem Bt.zero : Bt 0 0 := by unfold Bt; decide
end L2
namespace L2
open PySem PySem.Spec PyProof.Rows PySem.SeqAt
section
variable {a b c d e f : Dt} {r s : List Dt} {i j : Int} {k l : Bool} {n : Nat} {x y : Str}
theorem AbZ : ixD 0 (.tup (a :: r)) = some a := rfl
theorem AcS : ixD 1 (.tup (a :: b :: r)) = some b := rfl
theorem Acj : ixD 2 (.tup (a :: b :: c :: r)) = some c := rfl
theorem AcH : ixD 3 (.tup (a :: b :: c :: d :: r)) = some d := rfl
theorem Acv : ixD 0 (.lst (a :: r)) = some a := rfl
theorem AbC : ixD 1 (.lst (a :: b :: r)) = some b := rfl
theorem Acz : ixD 2 (.lst (a :: b :: c :: r)) = some c := rfl
theorem AcW : ixD 3 (.lst (a :: b :: c :: d :: r)) = some d := rfl
theorem Ig : Dt.eq (.int i) (.int j) = decide (i = j) := by rw [Dt.eq]
theorem Aaw : Dt.eq (.bl k) (.bl l) = (k == l) := by rw [Dt.eq]
theorem Ko : Dt.eq (.str x) (.str y) = (x == y) := by rw [Dt.eq]
theorem AaD : Dt.eq .non .non = true := by rw [Dt.eq]
theorem Yn : Dt.eq .non (.int i) = false := by simp [Dt.eq]
theorem Y0 : Dt.eq .non (.tup r) = false := by simp [Dt.eq]
theorem X8 : Dt.eq (.tup r) .non = false := by simp [Dt.eq]
theorem Lj : Dt.eq (.tup r) (.tup s) = Dt.eqs r s := by rw [Dt.eq]
theorem Aau : Dt.eq (.lst r) (.lst s) = Dt.eqs r s := by rw [Dt.eq]
theorem Jr : Dt.eqs [] [] = true := by rw [Dt.eqs]
theorem Jz : Dt.eqs (a :: r) (b :: s) = (Dt.eq a b && Dt.eqs r s) := by rw [Dt.eqs]
theorem Xh : Dt.eqs [] (b :: s) = false := by simp [Dt.eqs]
theorem WK : Dt.eqs (b :: s) [] = false := by simp [Dt.eqs]
theorem Ec : Dt.flat n (.int i) = true := by cases n <;> rw [Dt.flat] <;> simp
theorem Wc : Dt.flat n (.bl k) = true := by cases n <;> rw [Dt.flat] <;> simp
theorem Xi : Dt.flat n .non = true := by cases n <;> rw [Dt.flat] <;> simp
theorem Ky : Dt.flat (n + 1) (.tup r) = Dt.flats n r := by rw [Dt.flat]
theorem Qj : Dt.flat (n + 1) (.lst r) = Dt.flats n r := by rw [Dt.flat]
theorem Gk : Dt.flat 8 (.tup r) = Dt.flats 7 r := Ky
theorem Qv : Dt.flat 8 (.lst r) = Dt.flats 7 r := Qj
theorem Rf : Dt.flat 7 (.tup r) = Dt.flats 6 r := Ky
theorem Qy : Dt.flat 7 (.lst r) = Dt.flats 6 r := Qj
theorem R6 : Dt.flat 6 (.tup r) = Dt.flats 5 r := Ky
theorem Gz : Dt.flats n [] = true := by rw [Dt.flats]
theorem Gq : Dt.flats n (a :: r) = (Dt.flat n a && Dt.flats n r) := by rw [Dt.flats]
theorem Nt {N : Str} {M : List Str} : Ci (N :: M) (a :: r) = some (.is a) :: Ci M r := by
  unfold Ci
  simp only [List.map_cons, List.length_cons, List.cons_append, Nat.add_sub_add_right]
theorem O8 {N : Str} {M : List Str} : Ci (N :: M) [] = none :: Ci M [] := by
  unfold Ci
  simp [List.replicate_succ]
theorem N8 : Ci [] [] = [] := rfl
theorem Bo (h : n ≤ 1000) : n ≤ sizeLine := Nat.le_of_lt (GK h)
theorem Wn : isT "tuple" (.tup r) = true := rfl
theorem V3 : isT "list" (.lst r) = true := rfl
theorem Vj : isT "int" (.int i) = true := rfl
theorem Wd : isT "bool" (.int i) = false := rfl
theorem V4 : isT "int" (.bl k) = true := rfl
theorem Xa : isT "bool" (.bl k) = true := rfl
theorem Vq : isT "tuple" .non = false := rfl
theorem Xp : isT "int" .non = false := rfl
theorem Vs : isT "int" (.tup r) = false := rfl
theorem Wa : isT "bool" (.tup r) = false := rfl
theorem AbJ : noFn (.int i) = true := rfl
theorem AcG : noFn (.bl k) = true := rfl
theorem AcM : noFn .non = true := rfl
theorem AaW : noFn (.tup r) = true := rfl
theorem Ab9 : noFn (.lst r) = true := rfl
theorem AcD : noFn (.str x) = true := rfl
theorem ZQ : isB true (.bl k) = k := by cases k <;> rfl
theorem Z5 : isB false (.bl k) = !k := by cases k <;> rfl
theorem ZV : isB k (.int i) = false := rfl
theorem Aay : isB k .non = false := rfl
theorem Wk : isB k (.tup r) = false := rfl
theorem Yu : isB k (.lst r) = false := rfl
theorem AaG : isN .non = true := rfl
theorem Aad : isN (.int i) = false := rfl
theorem ZJ : isN (.bl k) = false := rfl
theorem Yr : isN (.tup r) = false := rfl
theorem Aae : isN (.lst r) = false := rfl
end
end L2
namespace L2
open PySem PySem.Spec PyProof.Rows PySem.SeqAt
theorem ifn {c : Bool} {A B : Prop} (h : c = true) (b : B) : if (!c) = true then A else B := by subst h; exact b
theorem ift {c : Bool} {A B : Prop} (h : c = true) (a : A) : if c = true then A else B := by subst h; exact a
theorem Cj {c : Bool} {A B : Prop} (h : c = false) (b : B) : if c = true then A else B := by subst h; exact b
theorem Bv {τ : Type} {args : τ → List Dt} {pre : τ → Prop} {val : τ → Dt} {Q : Dt → Prop} (p : τ) (h : pre p) (k : Q (val p)) : Ez args pre val (args p) Q := ⟨p, rfl, h, fun d e => by rw [e]; exact k⟩
theorem Ce {τ : Type} {args : τ → List Dt} {pre : τ → Prop} {post : τ → Dt → Prop} {Q : Dt → Prop} (p : τ) (h : pre p) (k : ∀ d, post p d → Q d) : spec args pre post (args p) Q := ⟨p, rfl, h, k⟩
theorem QC {ti : DTI} {g : DTG} {tb : DTS} {D : Dy} {ρ : Bq} (items : List Dt) (hi : ∀ R : List Dt → Prop, R items → ti ρ R) (W : Nat → Bq → Prop) (h0 : W 0 ρ)
    (hs : ∀ (k : Nat) d ρ', items[k]? = some d → W k ρ' → g d ρ' fun ρ2 => tb { D with nx := W (k + 1), ct := W (k + 1), bk := D.nx } ρ2) (he : ∀ ρ', W items.length ρ' → D.nx ρ') : Zg ti g tb D ρ := hi _ ⟨W, h0, hs, he⟩
theorem Qx {ns : List Int} {k : Int} (h0 : 0 ≤ k) (h1 : k < ns.length) : ixD k (.lst (ns.map Dt.int)) = some (.int (ns.getD k.toNat 0)) := by
  obtain ⟨j, rfl⟩ := Int.eq_ofNat_of_zero_le h0
  have hj : j < ns.length := by omega
  show (ns.map Dt.int)[j]? = _
  rw [List.getElem?_map]
  simp [hj]
end L2
namespace L2
theorem Kv {c : DTT} {tb : DTS} {D : Dy} {ρ : Bq} (W : Nat → Bq → Prop) (m : Nat) (h0 : W m ρ) (h : ∀ m ρ, W m ρ → c ρ fun k => if k = true then tb { D with nx := fun ρ' => ∃ m', m' < m ∧ W m' ρ', ct := fun ρ' => ∃ m', m' < m ∧ W m' ρ', bk := D.nx } ρ else D.nx ρ) : Pq c tb D ρ := ⟨W, ⟨m, h0⟩, h⟩
end L2
namespace L2
open PySem PySem.Spec PyProof.Rows PySem.SeqAt
section
variable {X : Cx} {a b c e : Expr} {es : List Expr} {ta tb te : DTE} {tl : DTA} {pos : Pos}
noncomputable def downs (hi : Int) (n : Nat) : List Dt := (List.range n).map fun i => .int (hi - (i : Nat))
noncomputable def Xm (tl : DTA) : DTI := fun ρ Q => tl ρ fun ds => match ds with
  | [.int i, .int j, .int k] => k = -1 ∧ (-(2 ^ 62) ≤ i ∧ i < 2 ^ 62 ∧ -(2 ^ 62) ≤ j ∧ j < 2 ^ 62) ∧ Q (downs i (i - j).toNat)
  | _ => False
theorem QF : MtR X "int.bit_length" (fun x xs H Q => ∃ i, x = .int i ∧ xs = [] ∧ Q (.int (Builtin.Int.intBits i)) H) := by
  intro pins s σ H x xs v us Q I rx rs ⟨i, e, e2, q⟩
  subst e e2
  cases rs
  obtain ⟨t, rfl⟩ := rx
  exact call_int_bit_length ⟨.int _, H, I.tok _, ⟨_, rfl⟩, q⟩
noncomputable def Ue (ta : DTE) : DTE := fun ρ Q => ta ρ fun d => match d with
  | .int i => Q (.int (Builtin.Int.intBits i))
  | _ => False
theorem Ly {apos : Pos} (ha : DE X a ta) (hbase : attributeBase a "bit_length" X.env (eval a X.env) = eval a X.env := by rfl) (hline : (apos.endLine == pos.line) = true := by rfl) : DE X (.Call (.Attribute a "bit_length" apos) [] [] pos) (Ue ta) where
  mono := fun hq h => ha.mono (fun d h => by
    split at h
    · exact hq _ h
    · exact h.elim) h
  pe := (Vm PySem.F.plainAttrs_int PySem.F.slot_int_bit_length PySem.F.type_int_bit_length QF ha.pe hbase hline).imp fun σ H Q ⟨B, F, O, ρ, R, h⟩ => ⟨B, F, O, ρ, R, ha.mono (fun d h v H1 s1 r1 => by
    split at h
    · rw [Bc.mp r1]
      exact ⟨rfl, _, rfl, rfl, h _ H1 s1 (Bc.mpr rfl)⟩
    · exact h.elim) h⟩
noncomputable def Zv (P : Program) (w : World) (K : PySem.W.Frag) (mg : Str → Option Value) (base : Heap) (k : Nat) (a : Addr) (sp : DSp) : Prop :=
  ∃ fd ps, DY P w K mg base CX0 k a fd ps (lSp K sp) ∧ Binds K fd ps [] ∧ PySem.W.keepIn K (.ref a) = true
noncomputable def W6 (P : Program) (w : World) (K : PySem.W.Frag) (mg : Str → Option Value) (base : Heap) (k : Nat) (tf : DTE) (tl : DTA) : DTE := fun ρ Q => tf ρ fun d => match d with
  | .fn a => PySem.W.keepIn K (.ref a) = true ∧ tl ρ fun ds => ∃ sp, Jp sp ∧ Zv P w K mg base k a sp ∧ sp ds Q
  | _ => False
noncomputable def lF (K : PySem.W.Frag) (t : DTA) : TE := fun σ H Q => ∃ B F O ρ, Rep K B F O H σ ρ ∧ t ρ fun ds => ∀ p H' vs, Same H H' → H' p = some (.lst vs) → p ∉ F ++ O → RpL K (mask (F ++ O) H') ds vs → Q (.ref p) H'
structure DF (X : Cx) (e : Expr) (t : DTA) : Prop where
  mono : ∀ {ρ Q Q'}, (∀ d, Q d → Q' d) → t ρ Q → t ρ Q'
  pe : PE X e (lF X.K t)
noncomputable def dOf (t : DTA) : DTE := fun ρ Q => t ρ fun ds => Q (.lst ds)
theorem DF.de {t : DTA} (h : DF X e t) : DE X e (dOf t) where
  mono := fun hq z => h.mono (fun _ z => hq _ z) z
  pe := h.pe.imp fun σ H Q ⟨B, F, O, ρ, R, z⟩ => ⟨B, F, O, ρ, R, h.mono (fun ds z p H' vs s e n r => z (.ref p) H' s (Ls ⟨p, vs, rfl, (by rw [Bd n]; exact e), r⟩)) z⟩
noncomputable def Tw (tl : DTA) : DTA := fun ρ Q => tl ρ fun ds => ds.length ≤ sizeLine ∧ Q ds
theorem W4 (h : DA X es tl) : DF X (.List es pos) (Tw tl) where
  mono := fun hq z => h.mono (fun ds q => ⟨q.1, hq _ q.2⟩) z
  pe := (Nr h.pa).imp fun σ H Q ⟨B, F, O, ρ, R, q⟩ => ⟨B, F, O, ρ, R, h.mono (fun ds z vs H1 s1 r1 => ⟨by rw [r1.len]; exact z.1, fun p hp => by
    have np : p ∉ F ++ O := fun m => (R.same s1).th p m hp
    exact z.2 p _ vs (s1.trans (Same.upd hp)) Am np (r1.mono (Same.upd hp).mask)⟩) q⟩
noncomputable def LQ (te : DTE) (tl th : DTO) : DTA := fun ρ Q => te ρ fun d => tl ρ fun lo => th ρ fun hi => match d with
  | .lst ds => Q (cutD ds lo hi)
  | _ => False
theorem Px {lo hi : Option Expr} {t1 t2 : DTO} {p2 : Pos} (he : DE X e te) (hl : DO X lo t1) (hh : DO X hi t2) : DF X (.Subscript e (.Slice lo hi none p2) pos) (LQ te t1 t2) where
  mono := fun hq z => he.mono (fun d z => hl.mono (fun l z => hh.mono (fun h z => by
    split at z
    · exact hq _ z
    · exact z.elim) z) z) z
  pe := (Oe Ru he.pe hl.po hh.po).imp fun σ H Q ⟨B, F, O, ρ, R, z⟩ => ⟨B, F, O, ρ, R, he.mono (fun d z v H1 s1 r1 => ⟨B, F, O, ρ, R.same s1, hl.mono (fun l z H2 s2 => ⟨B, F, O, ρ, (R.same s1).same s2, hh.mono (fun h z H3 s3 => by
    split at z
    · obtain ⟨a, xs, rfl, hs, hr⟩ := Fx ((r1.mono s2.mask).mono s3.mask)
      refine ⟨a, xs, rfl, Bj.seq hs, fun p hp => ?_⟩
      have R3 := ((R.same s1).same s2).same s3
      have np : p ∉ F ++ O := fun m => R3.th p m hp
      exact z p _ _ (((s1.trans s2).trans s3).trans (Same.upd hp)) Am np (hr.cut.mono (Same.upd hp).mask)
    · exact z.elim) z⟩) z⟩) z⟩
noncomputable def Tv (t u : DTA) : DTA := fun ρ Q => t ρ fun xs => u ρ fun ys => xs.length + ys.length ≤ sizeLine ∧ Q (xs ++ ys)
theorem Vr {t u : DTA} (ha : DF X a t) (hb : DF X b u) : DF X (.BinOp a .Add b pos) (Tv t u) where
  mono := fun hq z => ha.mono (fun _ z => hb.mono (fun _ z => ⟨z.1, hq _ z.2⟩) z) z
  pe := (UL Vz ha.pe hb.pe).imp fun σ H Q ⟨B, F, O, ρ, R, z⟩ => ⟨B, F, O, ρ, R, ha.mono (fun xs z p H1 vs s1 e1 n1 r1 => ⟨B, F, O, ρ, R.same s1, hb.mono (fun ys z p2 H2 ws s2 e2 n2 r2 => by
    refine ⟨p, p2, vs, ws, rfl, rfl, s2 _ _ e1, e2, by rw [r1.len, r2.len]; exact z.1, fun l hl => ?_⟩
    have np : l ∉ F ++ O := fun m => ((R.same s1).same s2).th l m hl
    exact z.2 l _ _ ((s1.trans s2).trans (Same.upd hl)) Am np (((r1.mono s2.mask).append r2).mono (Same.upd hl).mask)) z⟩) z⟩
end
end L2
namespace L2
open PySem PySem.Spec PyProof.Rows PySem.SeqAt
section
variable {X : Cx} {elt iter : Expr} {x : Str} {px : Pos} {ifs : List Expr} {scope : Scope} {pos : Pos} {N : List Str} {sl : List Nat} {wi : TI} {tt : TT} {te : TE}
noncomputable def Aap (i : Nat) (sl : List Nat) (ti : DTI) (tt : DTT) (te : DTE) : DTS := fun D ρ => Aah sl ti tt te ρ fun d => D.nx (ρ.set i (some (.is d)))
end
section
variable {prog : Program} {w : World} {A : Around} {E : Value → Shared → Prop} {s : Shared}
end
section
variable {X : Cx} {es : List Expr} {pos : Pos}
noncomputable def Yt (n : Nat) (gs : O2) : DTG := fun d ρ Q => match d with
  | .lst ds => ds.length = n ∧ gs ds ρ Q
  | _ => False
end
end L2
namespace L2
end L2
namespace L2
theorem Ji {n : Nat} {x : PySem.Str} : Dt.flat n (.str x) = (PySem.PyData.str x).canLay0 := by cases n <;> rw [Dt.flat]
end L2
namespace L2
open PySem PySem.Spec PyProof.Rows PySem.SeqAt
noncomputable def exN (a C : Addr) (h : Heap) : Prop := ∃ vs sl, h.get? a = some ⟨.ref C, none, .fields vs, sl⟩ ∧ vs[1]? = some .none
noncomputable def exF (a C dx : Addr) (h : Heap) : Prop := ∃ vs sl, h.get? a = some ⟨.ref C, some dx, .fields vs, sl⟩ ∧ vs[1]? = some .none ∧ dx ≠ a
theorem J0 {a C : Addr} (h1 h2 : Heap) (x : exN a C h1) (k : ∀ o, h1.get? a = some o → h2.get? a = some o) : exN a C h2 := let ⟨vs, sl, e, r⟩ := x; ⟨vs, sl, k _ e, r⟩
theorem N7 {a C dx : Addr} (h1 h2 : Heap) (x : exF a C dx h1) (k : ∀ o, h1.get? a = some o → h2.get? a = some o) : exF a C dx h2 := let ⟨vs, sl, e, r⟩ := x; ⟨vs, sl, k _ e, r⟩
theorem exN.ex {a C : Addr} {h : Heap} (x : exN a C h) : exO a C a h := let ⟨vs, sl, e, _⟩ := x; ⟨_, vs, e, rfl, (if_pos rfl).symm, rfl⟩
theorem exF.ex {a C dx : Addr} {h : Heap} (x : exF a C dx h) : exO a C dx h := let ⟨vs, sl, e, _, r⟩ := x; ⟨_, vs, e, rfl, (if_neg r).symm, rfl⟩
section
variable {X : Cx} {pins : List (Addr × Obj)} {σ : St} {H : Hp} {s : Shared} {h' : Heap} {a dx C U f fI : Addr} {φ ψ : Heap → Prop}
theorem Inv.put2 {od : HO} {t' : Nat} (I : Inv X pins σ H s) (Ha : H a = some (.ext φ)) (hd : s.heap.objs.size ≤ dx) (k : ∀ b u, b ≠ a → s.heap.get? b = some u → h'.get? b = some u) (ha : ∃ u, h'.get? a = some u)
    (n1 : Cz X.prog X.w (upd (upd H dx od) a (.ext ψ)) h' a (.ext ψ)) (n2 : Cz X.prog X.w (upd (upd H dx od) a (.ext ψ)) h' dx od) : Inv X pins σ (upd (upd H dx od) a (.ext ψ)) { s with heap := h', toks := t' } := by
  have nd : H dx = none := I.hok.fresh hd
  have na : a ≠ dx := Ak Ha nd
  have keepH : ∀ b u, H b = some u → b ≠ a → upd (upd H dx od) a (.ext ψ) b = some u := fun b u e n => by rw [Ag n, Ag (Ak e nd)]; exact e
  have nt : ∀ b u, H b = none → s.heap.get? b = some u → b ≠ a := fun b u n _ z => by rw [z, Ha] at n; cases n
  refine I.un ⟨fun b u e n _ _ => k b u (nt b u n e) e, fun b u e n _ _ => ⟨u.slots, k b u (nt b u n e) e⟩, fun b u e n _ => ?_, fun b u e _ => ?_, fun b xs e => keepH b _ e fun z => (by rw [z, Ha] at e; cases e), fun b o u e => keepH b _ e fun z => (by rw [z, Ha] at e; cases e), fun b ps e => ⟨#[], by rw [keepH b _ e fun z => by rw [z, Ha] at e; cases e]; simp⟩⟩ ?_
  · rw [Ag (nt b u n e), Ag (Nat.ne_of_lt (Nat.lt_of_lt_of_le (Heap.lt_size e) hd))]; exact n
  · by_cases z : b = a
    · rw [z]; exact ha
    · exact ⟨u, k b u z e⟩
  · intro b u e
    by_cases z : b = a
    · subst z; rw [Am] at e; cases e; exact n1
    · rw [Ag z] at e
      by_cases z' : b = dx
      · subst z'; rw [Am] at e; cases e; exact n2
      · rw [Ag z'] at e
        refine (I.hok b u e).stay (fun c v hc q => k c v ?_ q) (fun c q => keepH c _ q fun w => by rw [w, Ha] at q; cases q) fun c xs q => keepH c _ q fun w => by rw [w, Ha] at q; cases q
        rcases hc with rfl | hc
        · exact z
        · rintro rfl; rw [Ha] at hc; cases hc
theorem Inv.again (I : Inv X pins σ H s) (Ha : H a = some (.ext φ)) (n : ψ s.heap) (st : ∀ h1 h2 : Heap, ψ h1 → (∀ o, h1.get? a = some o → h2.get? a = some o) → ψ h2) : Inv X pins σ (upd H a (.ext ψ)) s := by
  obtain ⟨_, th, _⟩ := I.hok a _ Ha
  exact I.write (t' := s.toks) (h' := s.heap) (by rw [Ha]; exact True.intro) (.inl rfl) (fun _ _ _ e => e) th ⟨n, th, st⟩
noncomputable def sX1 (C : Addr) (ta tv : TE) (f : Str) : TS := fun D σ H => tv σ H fun y H1 => ta σ H1 fun x H2 => ∃ a, x = .ref a ∧ H2 a = some (.ext (exN a C)) ∧ ∀ dx, H2 dx = none → dx ≠ a → D.nx σ (upd (upd H2 dx (.xd [(f, y)])) a (.ext (exF a C dx)))
theorem Gp {o value : Expr} {f : Str} {pos pos' : Pos} {ta tv : TE} (c : XC X.K C U) (ht : PySem.W.takerIn X.K C f = some none) (ha : PE X o ta) (hv : PE X value tv) (hs : swapsWith value (some (.Attribute o f pos')) pos.line X.env = pure false := by rfl) :
    PS X (.Assign [.Attribute o f pos'] value pos) (sX1 C ta tv f) := by
  intro pins s σ H D I h
  refine plainObj_wpAny_Assign_Attribute (thn (hv pins s σ H _ I h) fun u s1 ⟨y, H1, I1, ry, q⟩ => thn (ha pins s1 σ H1 _ I1 q) fun ov s2 ⟨x, H2, I2, rx, a, ex, ea, q2⟩ => ?_) hs
  subst ex
  obtain rfl : ov = Value.ref a := rx
  obtain ⟨⟨vs, sl, hx, h1⟩, _, _⟩ := I2.hok a _ ea
  have nx : s2.heap.objs.size ≠ a := Nat.ne_of_gt (Heap.lt_size hx)
  refine Aar I2.kIn c ht hx fun h' tk' x1 x2 x3 => ⟨σ, _, I2.put2 (dx := s2.heap.objs.size) (od := .xd [(f, y)]) (ψ := exF a C s2.heap.objs.size) (t' := tk') ea (Nat.le_refl _) x3 ⟨_, x1⟩ ⟨⟨vs, sl, x1, h1, nx⟩, ⟨_, x1⟩, N7⟩ ⟨_, x2, fun g => ?_⟩, q2 _ (I2.hok.fresh (Nat.le_refl _)) nx⟩
  show J9 (List.lookup g [(f, y)]) (if g = f then some u else none)
  by_cases q : g = f
  · rw [if_pos q, show List.lookup g [(f, y)] = some y by simp [List.lookup, beq_iff_eq.mpr q]]; exact ry
  · rw [if_neg q, show List.lookup g [(f, y)] = none by simp [List.lookup, beq_eq_false_iff_ne.mpr q]]; trivial
noncomputable def T9 (C : Addr) (ns : List Str) : Sp := fun vs H Q _ => ∃ a ys, vs = .ref a :: ys ∧ ys.length = ns.length ∧ H a = some (.ext (exN a C)) ∧ ∀ dx, H dx = none → dx ≠ a → Q .non (upd (upd H dx (.xd (ns.zip ys))) a (.ext (exF a C dx)))
structure XR (P : Program) (w : World) (K : PySem.W.Frag) (mg : Str → Option Value) (base : Heap) (k : Nat) (c : Str) (ns : List Str) (C U fI : Addr) (fd : FuncData) (ps : List Str) : Prop where
  at_ : PySem.W.nsIn K mainGlobals c = some (some (.ref C))
  gl : mg c = some (.ref C)
  kp : PySem.W.keepIn K (.ref C) = true
  xc : XC K C U
  hi : PySem.W.findIn K (.ref C) "__init__" = some (some (.ref fI))
  hf : PySem.W.typeIn K (.ref fI) = some (.type "function")
  bd : Binds K fd ps []
  ln : ps.length = ns.length + 1
  ok : DY P w K mg base CX0 k fI fd ps (T9 C ns)
noncomputable def W8 (C : Addr) (ns : List Str) (t : TA) : TE := fun σ H Q => t σ H fun vs H1 => vs.length = ns.length ∧ vs.length ≤ 1000 ∧ ∀ a dx, H1 a = none → H1 dx = none → dx ≠ a → Q (.ref a) (upd (upd (upd H1 a (.ext (exN a C))) dx (.xd (ns.zip vs))) a (.ext (exF a C dx)))
theorem JV {k : Nat} {c : Str} {ns ps : List Str} {fd : FuncData} {e : Expr} {es : List Expr} {p pos : Pos} {t : TA} (G : XR X.prog X.w X.K X.mg X.base k c ns C U fI fd ps) (hr : Ck (k + 1) X.A) (hg : Gl X c) (ha : PA X (e :: es) t)
    (hdb : (c == ("__debug__" : Str)) = false := by decide) (he : starEach (e :: es) X.env = (false, eval e X.env) :: starEach es X.env := by rfl) (hpl : (backTo pos (starEach es X.env)).any (·.1) = false := by rfl) :
    PE X (.Call (.Name c p) (e :: es) [] pos) (W8 C ns t) := by
  intro pins s σ H Q I h
  refine wpAny_Call_Name_kw (Ft I hg G.gl ?_ hdb)
  refine PySem.W.callWith_K (h₀ := X.base) I.ok.mod.kin G.kp (thn (ha pos pins s σ H _ I h) fun us s1 ⟨vs, H1, I1, r, l1, l2, q⟩ => ⟨I1.kIn, ?_⟩) he hpl
  have nz : H1 (s1.heap.objs.size + 1) = none := I1.hok.fresh (Nat.le_succ _)
  have lu : us.length = vs.length := r.length.symm
  have I2 : Inv X pins σ (upd H1 (s1.heap.objs.size + 1) (.ext (exN (s1.heap.objs.size + 1) C))) { s1 with heap := withExc s1.heap C us } :=
    I1.laid (t' := s1.toks) (fun _ _ => Gg) (Nat.le_succ _) ⟨⟨_, _, FQ, rfl⟩, ⟨_, FQ⟩, J0⟩
  refine M9 I1.kIn G.xc G.hi G.hf (by rw [List.nil_append, lu]; exact Nat.le_of_lt (GK l2)) ?_
  have hb := G.bd { s1 with heap := withExc s1.heap C us } (.ref (s1.heap.objs.size + 1) :: us) I2.kIn (by rw [List.append_nil, List.length_cons, lu, l1, G.ln])
  rw [List.append_nil] at hb
  refine wpAny_call (codeAny_mono (G.ok.run _ X.stack { s1 with heap := withExc s1.heap C us } _ ⟨.ref (s1.heap.objs.size + 1) :: us, []⟩ _ (.ref (s1.heap.objs.size + 1) :: vs) (fun v H2 => v = .non ∧ Q (.ref (s1.heap.objs.size + 1)) H2) E0 (hr.make C us []) (I2.env0.make C us []) hb (.cons rfl r)
    ⟨_, vs, rfl, l1, Am, fun dx h1 h2 => ⟨rfl, ?_⟩⟩) fun r' s' hq => ?_)
  · rw [Ag h2] at h1
    exact q _ dx nz h1 h2
  · cases r' with
    | error e => exact False.elim hq
    | ok fl =>
      cases fl with
      | ret u =>
        obtain ⟨v, H', I3, ru, e1, q3⟩ := I2.after hq
        rw [e1] at ru
        exact ⟨ru, .ref _, H', I3, rfl, q3⟩
      | next => exact False.elim hq
      | brk => exact False.elim hq
      | cont => exact False.elim hq
noncomputable def Wl (X : Cx) (C : Addr) (te : TE) : TS := fun _ σ H => te σ H fun v H2 => ∃ a dx, v = .ref a ∧ H2 a = some (.ext (exF a C dx)) ∧ Mp X σ a (upd H2 a (.ext (exO a C dx)))
theorem Nh {e : Expr} {pos : Pos} {te : TE} (c : XC X.K C U) (hc : X.calm = true) (he : PE X e te) : PS X (.Raise (some e) none pos) (Wl X C te) := by
  intro pins s σ H D I h
  rw [arm_exec_Raise]
  have key : wpAny (model X.prog X.w) X.A (eval e X.env) (fun v s₁ => X.K.In s₁.heap ∧ ∃ b od vs sl, v = .ref b ∧ s₁.heap.get? b = some ⟨.ref C, od, .fields vs, sl⟩ ∧ vs[1]? = some .none ∧ X.xe (.ref b) s₁) X.xe s := by
    refine thn (he pins s σ H _ I h) fun u s1 ⟨v, H2, I2, rv, a, dx, e1, e2, wi⟩ => ⟨I2.kIn, ?_⟩
    subst e1
    obtain rfl : u = Value.ref a := rv
    obtain ⟨⟨vs, sl, hx, h1, nd⟩, _, _⟩ := I2.hok a _ e2
    refine ⟨a, _, vs, sl, rfl, hx, h1, wi pins s1 (I2.again e2 (exF.ex ⟨vs, sl, hx, h1, nd⟩) Hy) ⟨_, vs, hx, rfl, .inl h1⟩ ⟨C, dx, Am⟩⟩
  refine wpAny_bind (wpAny_standAt (M4 c (I.ok.hd hc) ?_))
  first
    | exact wpAny_bind (thn key fun v s₃ h₃ => wpAny_bind (wpAny_standAt (wpAny_pure h₃)))
    | exact key
end
end L2
namespace L2
open PySem PySem.Spec PyProof.Rows PySem.SeqAt
structure G6 where
  d : Dy
  ex : Bq → Dt → Prop
noncomputable abbrev Et := G6 → Bq → Prop
noncomputable abbrev H9 := Bq → (Dt → Prop) → (Dt → Prop) → Prop
structure G6.le (D D' : G6) : Prop where
  d : Dy.le D.d D'.d
  ex : ∀ ρ x, D.ex ρ x → D'.ex ρ x
noncomputable def lDX (X : Cx) (B : Hp) (F : List Addr) (D : Ends) : G6 := ⟨lD X.K B F D, fun ρ' x => ∀ O' σ' a H', Rep X.K B F O' H' σ' ρ' → Rp X.K (mask (F ++ O') H') x (.ref a) → Mp X σ' a H'⟩
noncomputable def lSX (X : Cx) (t : Et) : TS := fun D σ H => ∃ B F O ρ, Rep X.K B F O H σ ρ ∧ t (lDX X B F D) ρ
noncomputable def lEX (X : Cx) (t : H9) : TE := fun σ H Q => ∃ B F O ρ, Rep X.K B F O H σ ρ ∧ t ρ (fun d => ∀ v H', Same H H' → Rp X.K (mask (F ++ O) H') d v → Q v H') (fun x => ∀ a H', Same H H' → Rp X.K (mask (F ++ O) H') x (.ref a) → Mp X σ a H')
structure DSX (X : Cx) (st : Stmt) (t : Et) : Prop where
  mono : ∀ {ρ D D'}, G6.le D D' → t D ρ → t D' ρ
  ps : PS X st (lSX X t)
structure J5 (X : Cx) (st : List Stmt) (t : Et) : Prop where
  mono : ∀ {ρ D D'}, G6.le D D' → t D ρ → t D' ρ
  ps : PSs X st (lSX X t)
structure DEX (X : Cx) (e : Expr) (t : H9) : Prop where
  mono : ∀ {ρ Q Q' E E'}, (∀ d, Q d → Q' d) → (∀ d, E d → E' d) → t ρ Q E → t ρ Q' E'
  pe : PE X e (lEX X t)
section
variable {X : Cx} {a b c e : Expr} {es : List Expr} {st : Stmt} {sts sa sb : List Stmt} {t u : Et} {ts us : DTS} {te : H9} {tA : DTT} {tl : DTA} {pos : Pos}
theorem PS.nox {st : Stmt} {t : TS} (h : PS X.nox st t) : PS X st t := fun pins s σ H D I hw =>
  wpAny_mono (h pins s σ H D (I.wish _) hw) (fun _ _ q => q.unwish) fun _ _ z => False.elim z
noncomputable def Ou (t : DTS) : Et := fun D ρ => t D.d ρ
theorem Bm (h : DS X.nox st ts) : DSX X st (Ou ts) where
  mono := fun hd z => h.mono hd.d z
  ps := (PS.nox h.ps).imp fun D σ H ⟨B, F, O, ρ, R, z⟩ => ⟨B, F, O, ρ, R, z⟩
noncomputable def Nf : Et := fun D ρ => D.d.nx ρ
noncomputable def T6 (t u : Et) : Et := fun D ρ => t ⟨{ D.d with nx := u D }, D.ex⟩ ρ
theorem Dv : J5 X [] Nf := ⟨fun hd h => hd.d.nx _ h, Lg.imp fun D σ H ⟨B, F, O, ρ, R, h⟩ => h O σ H R⟩
theorem Ah (h1 : DSX X st t) (h2 : J5 X sts u) : J5 X (st :: sts) (T6 t u) where
  mono := fun {ρ D D'} hd h => h1.mono (D := ⟨{ D.d with nx := u D }, D.ex⟩) ⟨⟨fun ρ q => h2.mono hd q, hd.d.rt, hd.d.bk, hd.d.ct⟩, hd.ex⟩ h
  ps := (Ht h1.ps h2.ps).imp fun D σ H ⟨B, F, O, ρ, R, h⟩ => ⟨B, F, O, ρ, R, h1.mono (D := ⟨{ (lDX X B F D).d with nx := u (lDX X B F D) }, (lDX X B F D).ex⟩) ⟨⟨fun ρ' q O' σ' H' R' => ⟨B, F, O', ρ', R', q⟩, fun _ q => q, fun _ q => q, fun _ q => q⟩, fun _ _ q => q⟩ h⟩
theorem Bg (h1 : DSX X st t) : J5 X [st] t := ⟨h1.mono, CN h1.ps⟩
noncomputable def Aax (c : DTT) (t u : Et) : Et := fun D ρ => c ρ fun k => if k = true then t D ρ else u D ρ
theorem Gb (hc : DT X c tA) (ha : J5 X sa t) (hb : J5 X sb u) : DSX X (.If c sa sb pos) (Aax tA t u) where
  mono := fun hd h => hc.mono (fun k h => by
    cases k with
    | true => exact ha.mono hd h
    | false => exact hb.mono hd h) h
  ps := (Va hc.pt ha.ps hb.ps).imp fun D σ H ⟨B, F, O, ρ, R, h⟩ => ⟨B, F, O, ρ, R, hc.mono (fun k h H1 s1 => by
    cases k with
    | true => exact ⟨B, F, O, ρ, R.same s1, h⟩
    | false => exact ⟨B, F, O, ρ, R.same s1, h⟩) h⟩
noncomputable def Qd (te : H9) : Et := fun D ρ => te ρ (fun _ => D.d.nx ρ) (D.ex ρ)
theorem Dh (he : DEX X e te) (hs : swapsWith e none pos.line X.env = pure false := by rfl) : DSX X (.Expr e pos) (Qd te) where
  mono := fun hd h => he.mono (fun _ h => hd.d.nx _ h) (fun _ h => hd.ex _ _ h) h
  ps := (Q7 he.pe hs).imp fun D σ H ⟨B, F, O, ρ, R, h⟩ => ⟨B, F, O, ρ, R, he.mono (fun d q v H1 s1 _ => q O σ H1 (R.same s1)) (fun x q a H1 s1 r1 => q O σ a H1 (R.same s1) r1) h⟩
noncomputable def TF (te : H9) : Et := fun D ρ => te ρ D.d.rt (D.ex ρ)
theorem Fq (he : DEX X e te) : DSX X (.Return (some e) pos) (TF te) where
  mono := fun hd h => he.mono (fun _ h => hd.d.rt _ h) (fun _ h => hd.ex _ _ h) h
  ps := (Oj he.pe).imp fun D σ H ⟨B, F, O, ρ, R, h⟩ => ⟨B, F, O, ρ, R, he.mono (fun d q v H1 s1 r1 => q v H1 (R.base.trans s1) (r1.mono HN)) (fun x q a H1 s1 r1 => q O σ a H1 (R.same s1) r1) h⟩
noncomputable def AaK (te : H9) (g : DTG) : Et := fun D ρ => te ρ (fun d => g d ρ D.d.nx) (D.ex ρ)
noncomputable abbrev Fp := List Dt → (Dt → Prop) → (Dt → Prop) → Prop
noncomputable def XS (K : PySem.W.Frag) (sp : Fp) : Sp := fun vs H Q E => ∃ F ds, (∀ a ∈ F, H a ≠ none) ∧ RpL K (mask F H) ds vs ∧ sp ds (fun d => ∀ v H', Same H H' → Rp K (mask F H') d v → Q v H') (fun x => ∀ a H', Same H H' → Rp K (mask F H') x (.ref a) → E (.ref a) none H')
noncomputable def Ny (sp : Fp) : Prop := ∀ ds Q Q' E E', (∀ d, Q d → Q' d) → (∀ d, E d → E' d) → sp ds Q E → sp ds Q' E'
noncomputable def Qg (sp : Fp) (tl : DTA) : H9 := fun ρ Q E => tl ρ fun ds => sp ds Q E
noncomputable def PmX (P : Program) (w : World) (K : PySem.W.Frag) (mg : Str → Option Value) (base : Heap) (k : Nat) (x : Str) (st : Stmt) (ps : List Str) (sp : Fp) : Prop :=
  ∃ f fd, FnT K mg x st ps f fd ∧ DY P w K mg base (CXe P w) k f fd ps (XS K sp)
theorem Bx {k : Nat} {ps : List Str} {sp : Fp} {x : Str} {stx : Stmt} {p : Pos} (m : Ny sp) (G : PmX X.prog X.w X.K X.mg X.base k x stx ps sp) (hr : Ck k X.A) (hg : Gl X x)
    (ha : DA X (e :: es) tl) (hdb : (x == ("__debug__" : Str)) = false := by decide)
    (he : starEach (e :: es) X.env = (false, eval e X.env) :: starEach es X.env := by rfl) (hpl : (backTo pos (starEach es X.env)).any (·.1) = false := by rfl) : DEX X (.Call (.Name x p) (e :: es) [] pos) (Qg sp tl) := by
  obtain ⟨f, fd, F, G⟩ := G
  refine ⟨fun hq hx h => ha.mono (fun ds h => m ds _ _ _ _ hq hx h) h, (Ql G hr hg F.mg F.fn.kp F.bd ha.pa hdb he hpl).imp fun σ H Q ⟨B, F, O, ρ, R, h⟩ => ⟨B, F, O, ρ, R, ha.mono (fun ds q vs H1 s1 r1 => ⟨F ++ O, ds, (R.same s1).th, r1, m ds _ _ _ _ (fun d z v H2 s2 r2 => z v H2 (s1.trans s2) r2) (fun x z a H2 s2 r2 => ⟨a, rfl, z a H2 (s1.trans s2) r2⟩) q⟩) h⟩⟩
theorem PmX.pm {P : Program} {w : World} {K : PySem.W.Frag} {mg : Str → Option Value} {base : Heap} {k : Nat} {x : Str} {st : Stmt} {ps : List Str} {sp : Fp} {sp' : DSp} (G : PmX P w K mg base k x st ps sp) (m : Ny sp)
    (h : ∀ ds Q, sp' ds Q → sp ds Q fun _ => False) : Pm P w K mg base k x st ps sp' := by
  obtain ⟨f, fd, F, G⟩ := G
  exact ⟨f, fd, F, G.calm fun vs H Q E ⟨F', ds, h1, r, q⟩ => ⟨F', ds, h1, r, m ds _ _ _ _ (fun _ z => z) (fun _ z => z.elim) (h ds _ q)⟩⟩
noncomputable def Od (c : Str) (ns : List Str) (tl : DTA) : Et := fun D ρ => tl ρ fun ds => ds.length = ns.length ∧ ds.length ≤ 1000 ∧ D.ex ρ (.exc c ns ds)
theorem Ir {k : Nat} {c : Str} {ns ps : List Str} {fd : FuncData} {C U fI : Addr} {p cp : Pos} (G : XR X.prog X.w X.K X.mg X.base k c ns C U fI fd ps) (hr : Ck (k + 1) X.A) (hc : X.calm = true) (hg : Gl X c) (ha : DA X (e :: es) tl)
    (hdb : (c == ("__debug__" : Str)) = false := by decide) (he : starEach (e :: es) X.env = (false, eval e X.env) :: starEach es X.env := by rfl) (hpl : (backTo cp (starEach es X.env)).any (·.1) = false := by rfl) :
    DSX X (.Raise (some (.Call (.Name c p) (e :: es) [] cp)) none pos) (Od c ns tl) where
  mono := fun hd h => ha.mono (fun ds ⟨h1, h2, h3⟩ => ⟨h1, h2, hd.ex _ _ h3⟩) h
  ps := (Nh G.xc hc (JV G hr hg ha.pa hdb he hpl)).imp fun D σ H ⟨B, F, O, ρ, R, h⟩ => ⟨B, F, O, ρ, R, ha.mono (fun ds ⟨h1, h2, h3⟩ vs H1 s1 r1 => by
    refine ⟨by rw [r1.len]; exact h1, by rw [r1.len]; exact h2, fun a dx na nd ne => ⟨a, dx, rfl, Am, ?_⟩⟩
    have R1 := R.same s1
    have oa : a ∉ F ++ O := fun z => R1.th a z na
    have od : dx ∉ F ++ O := fun z => R1.th dx z nd
    have s2 : Same H1 (upd (upd (upd (upd H1 a (.ext (exN a C))) dx (.xd (ns.zip vs))) a (.ext (exF a C dx))) a (.ext (exO a C dx))) := fun b o q => by
      rw [Ag (Ak q na), Ag (Ak q na), Ag (Ak q nd), Ag (Ak q na)]; exact q
    refine h3 O σ a _ (R1.same s2) (Fe.mpr ⟨a, C, U, dx, vs, rfl, G.at_, G.xc, ?_, ?_, h1.symm, r1.mono s2.mask⟩)
    · rw [Bd oa]; exact Am
    · refine .inl ?_
      rw [Bd od, Ag ne, Ag ne]; exact Am) h⟩
end
section
variable {P : Program} {w : World} {K : PySem.W.Frag} {mg : Str → Option Value} {base : Heap}
theorem Fun.okX {x qual : Str} {st : Stmt} {f : Addr} {fd : FuncData} {N ps : List Str} {k : Nat} {sp : Fp} (F : Fun K x qual st f fd) (S : Al N ps (Ac st)) (len : ∀ ds Q E, sp ds Q E → ds.length = ps.length)
    (hbody : ∀ (cdv : Value) (A : Around) (outer : List Env) (s : Shared) (H : Hp) (E : XK), Ck k (A.deeper (envOfC qual (Ac st) s.heap.objs.size f cdv)) →
      ∃ t, J5 (Jc (CXe P w) P w K mg base N qual (Ac st) f cdv A outer s H E) (Bf st) t ∧ ∀ ds Q Ex, sp ds Q Ex → t ⟨{ nx := fun _ => Q .non, rt := Q }, fun _ => Ex⟩ (Ci N ds)) : DY P w K mg base (CXe P w) (k + 1) f fd ps (XS K sp) := by
  obtain ⟨oc, od, kV, doc, pm, an, cdv, ct, osl, rfl, lk, hcd⟩ := F.ex
  refine Uq lk hcd S (fun vs H Q E ⟨F, ds, _, r, h⟩ => by rw [r.len]; exact len _ _ _ h) fun A outer s H vs Q E hr ⟨F', ds, hF, r, h⟩ => ?_
  obtain ⟨t, T, q⟩ := hbody cdv A outer s H E hr
  refine ⟨_, T.ps, H, F', [], Ci N ds, Ik hF r, T.mono (D := ⟨{ nx := fun _ => ∀ v H', Same H H' → Rp K (mask F' H') .non v → Q v H', rt := fun d => ∀ v H', Same H H' → Rp K (mask F' H') d v → Q v H' }, fun _ x => ∀ a H', Same H H' → Rp K (mask F' H') x (.ref a) → E (.ref a) none H'⟩) ⟨⟨?_, ?_, fun _ z => False.elim z, fun _ z => False.elim z⟩, ?_⟩ (q ds _ _ h)⟩
  · exact fun ρ z O' σ' H' R' => z .non H' R'.base (GP.mpr rfl)
  · exact fun d z v H' s' r' => z v H' s' r'
  · exact fun ρ x z O' σ' a H' R' r' => QS fun H2 s2 => z a H2 (R'.base.trans s2) ((r'.mono HN).mono s2.mask)
end
noncomputable def Hg {τ : Type} (args : τ → List Dt) (pre : τ → Prop) (good : τ → Prop) (post : τ → Dt → Prop) (exc : τ → Dt) : Fp := fun ds Q E => ∃ p, ds = args p ∧ pre p ∧ (good p → ∀ d, post p d → Q d) ∧ (¬ good p → E (exc p))
theorem Av {τ : Type} {args : τ → List Dt} {pre good : τ → Prop} {post : τ → Dt → Prop} {exc : τ → Dt} : Ny (Hg args pre good post exc) := fun _ _ _ _ _ hq hx ⟨p, e, h, q, x⟩ => ⟨p, e, h, fun g d z => hq _ (q g d z), fun g => hx _ (x g)⟩
theorem Bw {τ : Type} {args : τ → List Dt} {pre good : τ → Prop} {post : τ → Dt → Prop} {exc : τ → Dt} {Q E : Dt → Prop} (p : τ) (h : pre p) (k : good p → ∀ d, post p d → Q d) (x : ¬ good p → E (exc p)) : Hg args pre good post exc (args p) Q E := ⟨p, rfl, h, k, x⟩
end L2
namespace L2
open PySem PySem.Spec PyProof.Rows PySem.SeqAt
section
variable {X : Cx} {pins : List (Addr × Obj)} {σ : St} {H : Hp} {s : Shared}
theorem Inv.forget {j : Nat} {n : Str} {m : Str → Option Value} {u : Option Value} {h' : Heap} (I : Inv X pins σ H s) (hN : X.N.Nodup) (hj : X.N[j]? = some n) (hl : ∀ (i : Nat) (x : Str) (v : V), X.N[i]? = some x → σ[i]? = some (some v) → Vis X.env.scope x → ∃ u, RelV v u ∧ Look X.env s.heap m x u)
    (hn : h'.Ns X.env.locals (fun x => if x = n then u else m x)) (sb : Heap.SameBut X.env.locals s.heap h') : Inv X pins (σ.set j none) H { s with heap := h' } := by
  have ne : ∀ b o, X.s₀.heap.get? b = some o → b ≠ X.env.locals := fun b o e => Nat.ne_of_lt (Nat.lt_of_lt_of_le (Heap.lt_size e) I.ok.above)
  refine ⟨I.ok, I.os, I.bare, ⟨fun b o e n hb hx => (sb.2 b (ne b o e)).trans (I.base.keep b o e n hb hx), fun b o e n hb hx => ?_, I.base.free, fun b o e hx => ?_, I.base.tups, I.base.frzs, I.base.tbls⟩, ⟨_, hn, fun i y v e1 e2 e3 => ?_⟩, fun y c e => ?_, I.free, I.freeC, fun p hp => ?_, fun b ob e => ?_, by simpa using I.len⟩
  · obtain ⟨sl, e1⟩ := I.base.slot b o e n hb hx
    exact ⟨sl, (sb.2 b (ne b o e)).trans e1⟩
  · obtain ⟨o', e1⟩ := I.base.there b o e hx
    exact ⟨o', (sb.2 b (ne b o e)).trans e1⟩
  · have hij : i ≠ j := fun z => by
      subst z
      by_cases hk : i < σ.length
      · rw [List.getElem?_set_self hk] at e2; cases e2
      · rw [List.getElem?_eq_none (by simpa using hk)] at e2; cases e2
    rw [List.getElem?_set_ne (Ne.symm hij)] at e2
    obtain ⟨u', r', q⟩ := hl i y v e1 e2 e3
    refine ⟨u', r', ?_⟩
    rcases q with ⟨k, e⟩ | ⟨k, c, e, z⟩
    · have : y ≠ n := fun e => hij (HB hN e1 (e ▸ hj))
      exact .inl ⟨k, by simp [this, e]⟩
    · exact .inr ⟨k, c, e, z.sameBut sb (I.cne y c e)⟩
  · obtain ⟨w', z⟩ := I.cell y c e
    exact ⟨w', z.sameBut sb (I.cne y c e)⟩
  · obtain ⟨e, n, ne, nf, d⟩ := I.pin p hp
    exact ⟨(sb.2 p.1 ne).trans e, n, ne, nf, d⟩
  · refine (I.hok b ob e).stay (fun c w' hc q => (sb.2 c ?_).trans q) (fun _ q => q) fun _ _ q => q
    rintro rfl
    rcases hc with hc | hc
    · rw [← hc, I.free] at e; cases e
    · rw [I.free] at hc; cases hc
theorem MP {M : Model} {A : Around} {E : Value → Shared → Prop} {j : Nat} {n : Str} {pos : Pos} {Q : Unit → Shared → Prop} (I : Inv X pins σ H s) (hN : X.N.Nodup) (hj : X.N[j]? = some n) (hk : X.env.scope.names.lookup n = some .local)
    (h : ∀ s', Inv X pins (σ.set j none) H s' → Q () s') : wpAny M A (bindName X.env n .none >>= fun _ => unbindBehindTheSuite X.env n pos) Q E s := by
  refine wpAny_bind (wpAny_bindName (Gm (v := .non) I hN hj (.inl hk) rfl (fun s1 I1 => ?_) (.inr hk)))
  obtain ⟨m, hn, hl⟩ := id I1.loc
  have hjσ : j < σ.length := by rw [I.len]; exact (List.getElem?_eq_some_iff.mp hj).1
  obtain ⟨u, r, q⟩ := hl j n .non hj (List.getElem?_set_self hjσ) (.inl hk)
  have hm : m n = some u := by
    rcases q with ⟨_, e⟩ | ⟨k, _⟩
    · exact e
    · rcases k with k | k
      · have k : X.env.scope.names.lookup n = some .cell := k
        rw [hk] at k; cases k
      · have k : X.env.scope.names.lookup n = some .free := k
        rw [hk] at k; cases k
  have hp : (X.env.scope.kind == .class || (X.env.scope.kind == .module && X.env.locals != X.env.globals)) = false := by rw [I.ok.kind]; rfl
  unfold unbindBehindTheSuite
  refine wpAny_onRaise (wpAny_mono (wpAny_unbindName_local (E := fun _ _ => False) hk hn hm hp fun h' u' hn' sb => ?_) (fun _ _ z => z) fun _ _ z => z.elim)
  refine h _ ?_
  have := I1.forget hN hj hl hn' sb
  rwa [List.set_set] at this
noncomputable abbrev Cx.body (X : Cx) (W : Value → Shared → Prop) (pn : List (Addr × Obj)) : Cx := { X with xe := W, pn := pn }
noncomputable abbrev Cx.suite (X : Cx) (a : Addr) : Cx := { X with A := X.A.mark (some (.ref a)), calm := false, xe := fun _ _ => False }
theorem Inv.body (I : Inv X pins σ H s) (W : Value → Shared → Prop) : Inv (X.body W (X.pn ++ pins)) [] σ H s :=
  ⟨⟨I.ok.mod, I.ok.kind, I.ok.glob, I.ok.blt, I.ok.above, I.ok.inj, I.ok.has, I.ok.cab, I.ok.hd, I.ok.frames, I.ok.stk, I.ok.exf, I.ok.bs, I.ok.bsz, I.ok.noex, I.ok.exfs, I.ok.funs, I.ok.frf⟩, I.os, I.bare, I.base, I.loc, I.cell, I.free, I.freeC, fun p hp => I.pin p (by simpa using hp), I.hok, I.len⟩
theorem Inv.unbody {W : Value → Shared → Prop} {pins' : List (Addr × Obj)} (I : Inv (X.body W (X.pn ++ pins)) pins' σ H s) : Inv X pins σ H s :=
  ⟨⟨I.ok.mod, I.ok.kind, I.ok.glob, I.ok.blt, I.ok.above, I.ok.inj, I.ok.has, I.ok.cab, I.ok.hd, I.ok.frames, I.ok.stk, I.ok.exf, I.ok.bs, I.ok.bsz, I.ok.noex, I.ok.exfs, I.ok.funs, I.ok.frf⟩, I.os, I.bare, I.base, I.loc, I.cell, I.free, I.freeC, fun p hp => I.pin p (List.mem_append_left _ hp), I.hok, I.len⟩
theorem Inv.suite (I : Inv X pins σ H s) (a : Addr) : Inv (X.suite a) pins σ H s :=
  ⟨⟨I.ok.mod, I.ok.kind, I.ok.glob, I.ok.blt, I.ok.above, I.ok.inj, I.ok.has, I.ok.cab, fun z => (by cases z), I.ok.frames, I.ok.stk, I.ok.exf, I.ok.bs, I.ok.bsz, I.ok.noex, I.ok.exfs, I.ok.funs, I.ok.frf⟩, I.os, I.bare, I.base, I.loc, I.cell, I.free, I.freeC, I.pin, I.hok, I.len⟩
theorem Inv.unsuite {a : Addr} (I : Inv (X.suite a) pins σ H s) (hd : X.calm = true → X.A.handled = none) : Inv X pins σ H s :=
  ⟨⟨I.ok.mod, I.ok.kind, I.ok.glob, I.ok.blt, I.ok.above, I.ok.inj, I.ok.has, I.ok.cab, hd, I.ok.frames, I.ok.stk, I.ok.exf, I.ok.bs, I.ok.bsz, I.ok.noex, I.ok.exfs, I.ok.funs, I.ok.frf⟩, I.os, I.bare, I.base, I.loc, I.cell, I.free, I.freeC, I.pin, I.hok, I.len⟩
end
structure XU (K : PySem.W.Frag) (mg : Str → Option Value) (c : Str) (U : Addr) : Prop where
  gl : mg c = some (.ref U)
  obj : ∃ nm q N bs hd sn sub ab col dd k0 k1 k2 k3 k5 id, K.lookup U = some (excClassObj nm q U N bs bmV hd sn sub ab col dd k0 k1 k2 k3 k5 id)
theorem Wg {M : Model} {A : Around} {E : Value → Shared → Prop} {s : Shared} {K : PySem.W.Frag} {mg : Str → Option Value} {C U e : Addr} {oe : Obj} {c : Str} {Q : Bool → Shared → Prop} (X : K.In s.heap) (x : XC K C U) (u : XU K mg c U) (he : s.heap.get? e = some oe) (hc : oe.cls = .ref C) (q : Q true s) :
    wpAny M A (excMatches (.ref e) (.ref U)) Q E s := by
  obtain ⟨nm, q1, N, bs, sn, sub, ab, col, dd, k0, k1, k2, k3, k5, lk⟩ := x.obj
  obtain ⟨nm', q1', N', bs', hd', sn', sub', ab', col', dd', k0', k1', k2', k3', k5', id', lk'⟩ := u.obj
  obtain ⟨h, g, d, t, os⟩ := s
  have oC : h.get? C = some _ := X _ _ lk
  have oU : h.get? U = some _ := X _ _ lk'
  have c1 : (Value.ref U :: bmV).contains (.type "BaseException") = true := by simp
  have c2 : (Value.ref C :: (.ref U :: bmV)).contains (.ref U) = true := by simp
  have nt := tc_notTuple
  unfold excMatches
  repeat (first | (with_reducible refine wpAny_loadPart_at he ?_; rw [hc]) | with_reducible refine wpAny_loadPart_at oU ?_ | (with_reducible refine wpAny_isSubtype_exc oU ?_; rw [c1]) | (with_reducible refine wpAny_isSubtype_exc oC ?_; rw [c2]) | wp_step)
  exact q
theorem XC.uniq {K : PySem.W.Frag} {C U U' : Addr} (x : XC K C U) (y : XC K C U') : U = U' := by
  obtain ⟨nm, q1, N, bs, sn, sub, ab, col, dd, k0, k1, k2, k3, k5, lk⟩ := x.obj
  obtain ⟨nm', q1', N', bs', sn', sub', ab', col', dd', k0', k1', k2', k3', k5', lk'⟩ := y.obj
  rw [lk] at lk'
  injection lk' with e
  injection e with _ _ e _
  injection e with e
  injection e with _ _ e
  injection e with _ e
  injection e with e _
  injection e
noncomputable def Under (K : PySem.W.Frag) (mg : Str → Option Value) (c T : Str) : Prop := ∀ C U, PySem.W.nsIn K mainGlobals c = some (some (.ref C)) → XC K C U → mg T = some (.ref U)
theorem Rep.unset {K : PySem.W.Frag} {B : Hp} {F O : List Addr} {H : Hp} {σ : St} {ρ : Bq} (r : Rep K B F O H σ ρ) (j : Nat) : Rep K B F O H (σ.set j none) (ρ.set j none) := by
  have back : ∀ (i : Nat) (x : En), (ρ.set j none)[i]? = some (some x) → i ≠ j ∧ ρ[i]? = some (some x) := fun i x e => by
    by_cases hi : i = j
    · subst hi
      by_cases hk : i < ρ.length
      · rw [List.getElem?_set_self hk] at e; cases e
      · rw [List.getElem?_eq_none (by simpa using hk)] at e; cases e
    · rw [List.getElem?_set_ne (Ne.symm hi)] at e; exact ⟨hi, e⟩
  refine ⟨by simpa using r.len, r.base, r.fr, r.th, fun i d e => ?_, fun i ds e => ?_, fun i k ds es a h1 h2 h3 h4 => ?_, fun i ks e => ?_, fun i k ds es a h1 h2 h3 h4 => ?_⟩
  · obtain ⟨n, e⟩ := back i _ e
    rw [List.getElem?_set_ne (Ne.symm n)]; exact r.is i d e
  · obtain ⟨n, e⟩ := back i _ e
    rw [List.getElem?_set_ne (Ne.symm n)]; exact r.own i ds e
  · obtain ⟨n1, e1⟩ := back i _ h1
    obtain ⟨n2, e2⟩ := back k _ h2
    rw [List.getElem?_set_ne (Ne.symm n1)] at h3
    rw [List.getElem?_set_ne (Ne.symm n2)] at h4
    exact r.inj i k ds es a e1 e2 h3 h4
  · obtain ⟨n, e⟩ := back i _ e
    rw [List.getElem?_set_ne (Ne.symm n)]; exact r.tab i ks e
  · obtain ⟨n1, e1⟩ := back i _ h1
    obtain ⟨n2, e2⟩ := back k _ h2
    rw [List.getElem?_set_ne (Ne.symm n1)] at h3
    rw [List.getElem?_set_ne (Ne.symm n2)] at h4
    exact r.tinj i k ds es a e1 e2 h3 h4
theorem Vh {X : Cx} {pins : List (Addr × Obj)} {σ : St} {H : Hp} {s : Shared} {a : Addr} {M : Model} {A : Around} {E : Value → Shared → Prop} {Q : Unit → Shared → Prop} (I : Inv X pins σ H s) (fl : Ea s.heap H a) (q : ∀ s', Inv X pins σ H s' → Q () s') : wpAny M A (setFlight (.ref a) none) Q E s := by
  obtain ⟨o, vs, e1, e2, e3⟩ := fl
  unfold setFlight
  rcases e3 with e3 | ⟨T, e3, e4, e5⟩
  · refine wpAny_bind (wpAny_field e1 e2 e3 ?_)
    rw [if_neg (by simp)]
    exact wpAny_pure (q s I)
  · refine wpAny_bind (wpAny_field e1 e2 e3 ?_)
    rw [if_pos (by simp)]
    obtain ⟨⟨oT, ts, t1, t2, t3⟩, _, _⟩ := I.hok T _ e5
    have tz : 3 < ts.size := (Array.getElem?_eq_some_iff.mp t3).1
    have d' := Obj.data_mapFields t2 (·.setIfInBounds 3 Value.none)
    have t' := Heap.get?_update_self (Obj.mapFields (·.setIfInBounds 3 Value.none)) t1 (Obj.isFreed_of_fields d')
    refine wpAny_setField t1 t2 tz (q _ ?_)
    have J := I.write (x := T) (e := T) (o := .ext (tbO T)) (t' := s.toks) (h' := s.heap.update T (Obj.mapFields (·.setIfInBounds 3 Value.none))) (by rw [e5]; exact True.intro) (.inl rfl) (fun b u n e => (Heap.get?_update_other _ _ (Ne.symm n)).trans e) ⟨_, t'⟩ ⟨⟨_, _, t', d', by simp [tz]⟩, ⟨_, t'⟩, HD⟩
    have eH : upd H T (.ext (tbO T)) = H := by
      funext b
      by_cases z : b = T
      · rw [z, Am, e5]
      · rw [Ag z]
    rw [eH] at J
    exact J
section
variable {X : Cx} {tb : Et} {ts : DTS} {pos tp hp : Pos} {T n : Str} {U : Addr} {body suite : List Stmt} {b₀ : Stmt}
noncomputable def GR (K : PySem.W.Frag) (mg : Str → Option Value) (T : Str) (j : Nat) (ts : DTS) (D : Dy) (ρ : Bq) (x : Dt) : Prop := match x with
  | .exc c ns ds => Under K mg c T ∧ ts { nx := fun ρ2 => D.nx (ρ2.set j none), rt := fun _ => False } (ρ.set j (some (.is (.exc c ns ds))))
  | _ => False
noncomputable def AaT (K : PySem.W.Frag) (mg : Str → Option Value) (T : Str) (j : Nat) (tb : Et) (ts : DTS) : Et := fun D ρ => tb ⟨D.d, GR K mg T j ts D.d⟩ ρ
theorem Rr (j : Nat) (u : XU X.K X.mg T U) (hN : X.N.Nodup) (hb : ∀ W pn, J5 (X.body W pn) body tb) (hs : ∀ a, DSs (X.suite a) (b₀ :: suite) ts) (hst : X.stack = X.env :: X.outer := by rfl) (hfr : X.env.frame = some X.env.locals := by rfl) (hj : X.N[j]? = some n := by rfl) (hk : X.env.scope.names.lookup n = some .local := by rfl) (hg : Gl X T := by rfl)
    (hd : (T == ("__debug__" : Str)) = false := by decide) : DSX X (.Try body [.ExceptHandler (some (.Name T tp)) (some n) (b₀ :: suite) hp] [] [] pos) (AaT X.K X.mg T j tb ts) where
  mono := fun {ρ D D'} hd h => (hb X.xe X.pn).mono (D := ⟨D.d, GR X.K X.mg T j ts D.d⟩) ⟨hd.d, fun ρ' x z => by
    revert z
    dsimp only
    unfold GR
    split
    · exact fun z => ⟨z.1, (hs 0).mono (D := { nx := fun ρ2 => D.d.nx (ρ2.set j none), rt := fun _ => False }) ⟨fun _ q => hd.d.nx _ q, fun _ q => q, fun _ q => q, fun _ q => q⟩ z.2⟩
    · exact fun z => z⟩ h
  ps := by
    rintro pins s σ H D I ⟨B, F, O, ρ, R, h⟩
    refine wpAny_Try_except ?_
    refine wpAny_mono ((hb (fun e s₁ => wpAny (model X.prog X.w) X.A (noteFrame e X.env) (fun _ s₂ => wpAny (model X.prog X.w) X.A (setFlight e none) (fun _ s₃ => wpAny (model X.prog X.w) X.A (handleBy e X.env [.ExceptHandler (some (.Name T tp)) (some n) (b₀ :: suite) hp]) (SP X pins D) X.xe s₃) X.xe s₂) X.xe s₁) (X.pn ++ pins)).ps [] s σ H D (I.body _) ⟨B, F, O, ρ, R, (hb X.xe X.pn).mono (D := ⟨(lDX X B F D).d, GR X.K X.mg T j ts (lDX X B F D).d⟩) ⟨⟨fun _ q => q, fun _ q => q, fun _ q => q, fun _ q => q⟩, fun ρ' x z => ?_⟩ h⟩) (fun f s1 q => ?_) fun e s1 q => q
    · revert z
      dsimp only
      unfold GR
      split
      · rintro ⟨un, z⟩ O' σ' a H' R' rp pins' s1 I1 fl ex
        have I2 : Inv X pins σ' H' s1 := I1.unbody
        obtain ⟨a', C, U', dx, vs, ea, h1, xc, h2, h3, h4, h5⟩ := Fe.mp rp
        obtain rfl : a = a' := V.ref.inj ea
        refine lands I2 hst hfr fl ex fun H2 s2 sm I3 fl2 => ?_
        refine wpAny_handleBy_cons (codeAny_handlers_test (Ft (X := X.suite a) (E := fun x s₁ => _) (I3.suite a) hg u.gl ?_ hd)) (by intro q; cases q)
        have eU : U' = U := by
          have := (un C U' h1 xc).symm.trans u.gl
          injection this with this
          injection this
        subst eU
        have h2' := I3.hok a _ (sm _ _ (Bj _ _ h2))
        obtain ⟨⟨oe, _, k1, k2, _⟩, _, _⟩ := h2'
        refine Wg I3.kIn xc u k1 k2 ?_
        refine codeAny_handlers_suite_as (Vh I3 fl2 fun s3 I4 => ?_)
        refine Gm (X := X.suite a) (v := .ref a) (I4.suite a) hN hj (.inl hk) rfl (fun s4 I5 => ?_) (.inr hk)
        have R2 := (R'.same sm).set j (rp.mono sm.mask)
        refine wpAny_mono ((hs a).ps pins s4 _ H2 { nx := fun σ5 H5 => D.nx (σ5.set j none) H5, rt := fun _ _ => False } I5 ⟨B, F, O', _, R2, (hs a).mono (D := { nx := fun ρ2 => (lDX X B F D).d.nx (ρ2.set j none), rt := fun _ => False }) ⟨fun ρ5 q O5 σ5 H5 R5 => q O5 _ H5 (R5.unset j), fun _ q => q.elim, fun _ q => q.elim, fun _ q => q.elim⟩ z⟩) (fun f s5 q => ?_) fun _ _ z => z.elim
        cases f with
        | next =>
          obtain ⟨σ5, H5, I6, q⟩ := q
          exact MP (I6.unsuite I.ok.hd) hN hj hk fun s6 I7 => ⟨_, H5, I7, q⟩
        | brk => obtain ⟨_, _, _, q⟩ := q; exact q.elim
        | cont => obtain ⟨_, _, _, q⟩ := q; exact q.elim
        | ret u => obtain ⟨_, _, _, _, _, q⟩ := q; exact q.elim
      · exact fun z => z.elim
    · cases f with
      | next =>
        obtain ⟨σ', H', I', q⟩ := q
        exact wpAny_execs_nil ⟨σ', H', I'.unbody, q⟩
      | brk => obtain ⟨σ', H', I', q⟩ := q; exact ⟨σ', H', I'.unbody, q⟩
      | cont => obtain ⟨σ', H', I', q⟩ := q; exact ⟨σ', H', I'.unbody, q⟩
      | ret u => obtain ⟨v, σ', H', I', r, q⟩ := q; exact ⟨v, σ', H', I'.unbody, r, q⟩
end
end L2
namespace L2
open PySem PySem.Spec PyProof.Rows PySem.SeqAt
noncomputable def Ay (K : PySem.W.Frag) (c : Str) (A : Addr) (b : Bool) : Prop := ∀ C, PySem.W.nsIn K mainGlobals c = some (some (.ref C)) → PySem.W.kitOne K (.ref C) (.ref A) = some b
noncomputable def Hf (K : PySem.W.Frag) (c : Str) (As : List Addr) (b : Bool) : Prop := ∀ C, PySem.W.nsIn K mainGlobals c = some (some (.ref C)) → PySem.W.kitAny K (.ref C) (As.map .ref) = some b
noncomputable def CV (K : PySem.W.Frag) (c f : Str) : Prop := ∀ C, PySem.W.nsIn K mainGlobals c = some (some (.ref C)) → PySem.W.findIn K (.ref C) f = some none
theorem Hf.nil {K : PySem.W.Frag} {c : Str} : Hf K c [] false := fun _ _ => rfl
theorem Hf.cons {K : PySem.W.Frag} {c : Str} {A : Addr} {As : List Addr} (h : Ay K c A false) (r : Hf K c As false) : Hf K c (A :: As) false := fun C e => by
  show PySem.W.kitAny K (.ref C) (.ref A :: As.map .ref) = some false
  unfold PySem.W.kitAny
  rw [h C e]
  exact r C e
theorem Lz : ∀ {As : List Addr} {its : List Value}, Vals (As.map V.ref) its → its = As.map .ref
  | [], _, rv => by cases rv; rfl
  | A :: As, _, rv => by
    cases rv with
    | cons z1 z2 => rw [Lz z2]; rw [show _ = Value.ref A from z1]; rfl
theorem XC.inst {X : Cx} {pins : List (Addr × Obj)} {σ : St} {H : Hp} {s : Shared} {a C dx : Addr} {fs : List (Str × V)} (I : Inv X pins σ H s) (h1 : H a = some (.ext (exO a C dx))) (h2 : H dx = some (.xd fs)) :
    ∃ (ox od : Obj) (mA : Str → Option Value), PySem.W.InstAt s.heap a ox C (some od) ∧ (∀ name, PySem.W.lookIn name od = some (mA name)) ∧ ∀ f, J9 (fs.lookup f) (mA f) := by
  obtain ⟨⟨o, vs, e1, e2, e3, e4⟩, _, _⟩ := I.hok a _ h1
  obtain ⟨mA, n, r⟩ := (show Cz X.prog X.w H s.heap dx (.xd fs) from I.hok dx _ h2)
  obtain ⟨od, e5, e6⟩ := MF n
  have ne : dx ≠ a := fun z => by rw [z, h1] at h2; cases h2
  rw [if_neg ne] at e3
  exact ⟨o, od, mA, ⟨e1, e2, by unfold PySem.W.notCls; rw [e4], by rw [e3]; exact e5⟩, e6, r⟩
theorem XC.instN {X : Cx} {pins : List (Addr × Obj)} {σ : St} {H : Hp} {s : Shared} {a C dx : Addr} {ns : List Str} {vs : List V} (I : Inv X pins σ H s) (h1 : H a = some (.ext (exO a C dx))) (h2 : H dx = some (.xd (ns.zip vs)) ∨ dx = a ∧ ns = []) :
    ∃ (ox : Obj) (od : Option Obj), PySem.W.InstAt s.heap a ox C od := by
  rcases h2 with h2 | ⟨h2, _⟩
  · obtain ⟨ox, od, _, J, _⟩ := XC.inst I h1 h2
    exact ⟨ox, _, J⟩
  · obtain ⟨⟨o, vs, e1, e2, e3, e4⟩, _, _⟩ := I.hok a _ h1
    rw [if_pos h2] at e3
    exact ⟨o, none, e1, e2, by unfold PySem.W.notCls; rw [e4], by rw [e3]; trivial⟩
section
variable {X : Cx} {a b c e : Expr} {es : List Expr} {ta tb te : DTE} {tl : DTA} {pos : Pos}
theorem Nb : GF X (.builtin "isinstance") (fun xs H Q => ∃ c ns ds x A v, xs = [x, .ref A] ∧ Rp X.K H (.exc c ns ds) x ∧ Ay X.K c A v ∧ Q (.bl v) H) := by
  intro pins s σ H xs us Q I r ⟨c, ns, ds, x, A, v, e, rp, sx, q⟩
  subst e
  obtain ⟨u, u2, rfl, r1, r2⟩ := vals2 r
  cases (show u2 = .ref A from r2)
  obtain ⟨a, C, U, dx, vs, rfl, h1, xc, h2, h3, _, _⟩ := Fe.mp rp
  cases (show u = .ref a from r1)
  obtain ⟨ox, od, J⟩ := XC.instN I h2 h3
  exact PySem.W.kia_one (Qs xc.xb) I.kIn ⟨ox, od, J⟩ (sx C h1) (fun z => nomatch z) fun tk => ⟨.bl _, H, I.tok tk, rfl, q⟩
theorem Mu : GF X (.builtin "isinstance") (fun xs H Q => ∃ c ns ds x t As v, xs = [x, .ref t] ∧ Rp X.K H (.exc c ns ds) x ∧ SqT X.K H t (As.map .ref) ∧ Hf X.K c As v ∧ Q (.bl v) H) := by
  intro pins s σ H xs us Q I r ⟨c, ns, ds, x, t, As, v, e, rp, ht, sx, q⟩
  subst e
  obtain ⟨u, u2, rfl, r1, r2⟩ := vals2 r
  cases (show u2 = .ref t from r2)
  obtain ⟨a, C, U, dx, vs, rfl, h1, xc, h2, h3, _, _⟩ := Fe.mp rp
  cases (show u = .ref a from r1)
  obtain ⟨ox, od, J⟩ := XC.instN I h2 h3
  obtain ⟨its, rv, ⟨o, k1, k2, n, k3⟩, _⟩ := I.tuple ht
  have ei : its = As.map .ref := Lz rv
  subst ei
  obtain ⟨oc, odd, dt, osl⟩ := o
  cases k2
  cases k3
  exact PySem.W.kia_tup (Qs xc.xb) I.kIn ⟨ox, od, J⟩ k1 (by simpa using sx C h1) (fun z => nomatch z) fun tk => ⟨.bl _, H, I.tok tk, rfl, q⟩
noncomputable def Nj (K : PySem.W.Frag) : DL := fun ds Q => match ds with
  | [.exc c _ _, .fn A] => ∃ v, Ay K c A v ∧ Q (.bl v)
  | _ => False
theorem QK {K : PySem.W.Frag} : Mw K (fun xs H Q => ∃ c ns ds x A v, xs = [x, .ref A] ∧ Rp K H (.exc c ns ds) x ∧ Ay K c A v ∧ Q (.bl v) H) (Nj K) where
  mono := fun hq h => by
    unfold Nj at h ⊢
    split at h
    · exact let ⟨v, h1, h2⟩ := h; ⟨v, h1, hq _ h2⟩
    · exact h.elim
  ok := fun O H ds xs Q _ r h => by
    unfold Nj at h
    split at h
    · obtain ⟨v, h1, h2⟩ := h
      obtain ⟨x, xr, rfl, r1, r2⟩ := Bb.mp r
      obtain ⟨y, yr, rfl, r3, r4⟩ := Bb.mp r2
      rw [Ca.mp r4, Pa.mp r3]
      exact ⟨_, _, _, x, _, v, rfl, r1.mono Bj, h1, h2 _ H (Same.refl H) (BZ.mpr rfl)⟩
    · exact h.elim
noncomputable def J2 (K : PySem.W.Frag) : DL := fun ds Q => match ds with
  | [.exc c _ _, .tup es] => ∃ As v, es = As.map .fn ∧ Hf K c As v ∧ Q (.bl v)
  | _ => False
theorem PJ {K : PySem.W.Frag} {H : Hp} : ∀ {As : List Addr} {vs : List V}, RpL K H (As.map Dt.fn) vs → vs = As.map .ref
  | [], _, h => Ca.mp h
  | A :: As, _, h => by
    obtain ⟨v, r, rfl, h1, h2⟩ := Bb.mp h
    rw [PJ h2, Pa.mp h1]; rfl
theorem Ot {K : PySem.W.Frag} : Mw K (fun xs H Q => ∃ c ns ds x t As v, xs = [x, .ref t] ∧ Rp K H (.exc c ns ds) x ∧ SqT K H t (As.map .ref) ∧ Hf K c As v ∧ Q (.bl v) H) (J2 K) where
  mono := fun hq h => by
    unfold J2 at h ⊢
    split at h
    · exact let ⟨As, v, h0, h1, h2⟩ := h; ⟨As, v, h0, h1, hq _ h2⟩
    · exact h.elim
  ok := fun O H ds xs Q _ r h => by
    unfold J2 at h
    split at h
    · obtain ⟨As, v, rfl, h1, h2⟩ := h
      obtain ⟨x, xr, rfl, r1, r2⟩ := Bb.mp r
      obtain ⟨y, yr, rfl, r3, r4⟩ := Bb.mp r2
      obtain ⟨t, ys, rfl, q1, q2⟩ := Er.mp r3
      rw [Ca.mp r4]
      rw [PJ q2] at q1
      exact ⟨_, _, _, x, t, As, v, rfl, r1.mono Bj, Bj.seqT q1, h1, h2 _ H (Same.refl H) (BZ.mpr rfl)⟩
    · exact h.elim
theorem G5 {p : Pos} (hm : X.mg "isinstance" = none) (ha : DA X [a, b] tl) (hg : Gl X "isinstance" := by rfl) (hv : bootBuiltins "isinstance" = some (.builtin "isinstance") := by rfl) (he : starEach [a, b] X.env = (false, eval a X.env) :: starEach [b] X.env := by rfl)
    (hpl : (backTo pos (starEach [b] X.env)).any (·.1) = false := by rfl) : DE X (.Call (.Name "isinstance" p) [a, b] [] pos) (dCB (Nj X.K) tl) := Lp Nb QK hg hm hv ha (he := he) (hpl := hpl)
theorem S5 {p : Pos} (hm : X.mg "isinstance" = none) (ha : DA X [a, b] tl) (hg : Gl X "isinstance" := by rfl) (hv : bootBuiltins "isinstance" = some (.builtin "isinstance") := by rfl) (he : starEach [a, b] X.env = (false, eval a X.env) :: starEach [b] X.env := by rfl)
    (hpl : (backTo pos (starEach [b] X.env)).any (·.1) = false := by rfl) : DE X (.Call (.Name "isinstance" p) [a, b] [] pos) (dCB (J2 X.K) tl) := Lp Mu Ot hg hm hv ha (he := he) (hpl := hpl)
theorem Bl {x : Str} {A : Addr} {pos : Pos} (hm : X.mg x = some (.ref A)) (hg : Gl X x := by rfl) (hd : (x == ("__debug__" : Str)) = false := by decide) : DE X (.Name x pos) (dC (.fn A)) := Lq (v := .ref A) hg hm rfl (fun _ => Pa.mpr rfl) hd
theorem XC.value {K : PySem.W.Frag} {C U : Addr} (c : XC K C U) : PySem.W.kitOne K (.ref C) (.type "ValueError") = some true := by
  unfold PySem.W.kitOne
  rw [if_neg (by simp)]
  show (if PySem.W.kitMeta "ValueError" = true then PySem.W.mroIn K C (.type "ValueError") else none) = some true
  rw [if_pos (by decide +kernel), c.sub]
  simp
theorem Pr : GF X (.builtin "isinstance") (fun xs H Q => ∃ c ns ds x, xs = [x, .ty "ValueError"] ∧ Rp X.K H (.exc c ns ds) x ∧ Q (.bl true) H) := by
  intro pins s σ H xs us Q I r ⟨c, ns, ds, x, e, rp, q⟩
  subst e
  obtain ⟨u, u2, rfl, r1, r2⟩ := vals2 r
  cases (show u2 = .type "ValueError" from r2)
  obtain ⟨a, C, U, dx, vs, rfl, h1, xc, h2, h3, _, _⟩ := Fe.mp rp
  cases (show u = .ref a from r1)
  obtain ⟨ox, od, J⟩ := XC.instN I h2 h3
  exact PySem.W.kia_one (Qs xc.xb) I.kIn ⟨ox, od, J⟩ xc.value (fun z => nomatch z) fun tk => ⟨.bl _, H, I.tok tk, rfl, q⟩
noncomputable def Zu (ta : DTE) : DTE := fun ρ Q => ta ρ fun d => match d with
  | .exc _ _ _ => Q (.bl true)
  | _ => False
theorem W3 {p p2 : Pos} (hm : X.mg "isinstance" = none) (hmT : X.mg "ValueError" = none) (ha : DE X a ta) (hg : Gl X "isinstance" := by rfl) (hgT : Gl X "ValueError" := by rfl) (hv : bootBuiltins "isinstance" = some (.builtin "isinstance") := by rfl)
    (hvT : bootBuiltins "ValueError" = some (.type "ValueError") := by rfl)
    (hs1 : starEach [a, .Name "ValueError" p2] X.env = (false, eval a X.env) :: starEach [.Name "ValueError" p2] X.env := by rfl) (hs2 : starEach [.Name "ValueError" p2] X.env = (false, eval (.Name "ValueError" p2) X.env) :: starEach [] X.env := by rfl)
    (hpl : (backTo pos (starEach [.Name "ValueError" p2] X.env)).any (·.1) = false := by rfl) : DE X (.Call (.Name "isinstance" p) [a, .Name "ValueError" p2] [] pos) (Zu ta) where
  mono := fun hq h => ha.mono (fun d h => by
    split at h
    · exact hq _ h
    · exact h.elim) h
  pe := (Gn Pr hg hm hv (Ek ha.pe (Ek (Jd (v := .ty "ValueError") hgT hmT hvT rfl (by decide) (by decide)) Js hs2) hs1) (he := hs1) (hpl := hpl)).imp fun σ H Q ⟨B, F, O, ρ, R, h⟩ =>
    ⟨B, F, O, ρ, R, ha.mono (fun d h v H1 s1 r1 => by
      split at h
      · exact ⟨_, _, _, v, rfl, r1.mono Bj, h _ H1 s1 (BZ.mpr rfl)⟩
      · exact h.elim) h⟩
noncomputable def XM (K : PySem.W.Frag) (ta : TE) (f : Str) : TE := fun σ H Q => ta σ H fun x H1 => ∃ a C U dx fs v, x = .ref a ∧ XC K C U ∧ PySem.W.findIn K (.ref C) f = some none ∧ H1 a = some (.ext (exO a C dx)) ∧ H1 dx = some (.xd fs) ∧ fs.lookup f = some v ∧ Q v H1
theorem Tj {f : Str} {ta : TE} (he : PE X e ta) (hb : attributeBase e f X.env (eval e X.env) = eval e X.env := by rfl) : PE X (.Attribute e f pos) (XM X.K ta f) := by
  intro pins s σ H Q I h
  refine Q6 hb (thn (he pins s σ H _ I h) fun u s1 ⟨x, H1, I1, rx, a, C, U, dx, fs, v, ex, xc, nf, h1, h2, l, q⟩ => ?_)
  subst ex
  obtain rfl : u = Value.ref a := rx
  obtain ⟨ox, od, mA, J, lk, r⟩ := XC.inst I1 h1 h2
  obtain ⟨cd, hc, _, hd⟩ := xc.cls
  have rf := r f
  rw [l] at rf
  obtain ⟨y, e1, e2⟩ := J9.some_of rf
  exact AaY I1.kIn xc.xb J (PySem.W.findObj_own (by unfold PySem.W.hasDictIn; rw [hc]; exact hd) nf rfl (by rw [lk, e1])) (Mz e2) ⟨v, H1, I1.tok _, e2, q⟩
theorem zip_get {K : PySem.W.Frag} {H : Hp} {f : Str} {d : Dt} : ∀ {ns : List Str} {ds : List Dt} {vs : List V}, RpL K H ds vs → (ns.zip ds).lookup f = some d → ∃ v, (ns.zip vs).lookup f = some v ∧ Rp K H d v
  | [], _, _, _, h => by simp at h
  | _ :: _, [], _, _, h => by simp at h
  | n :: ns, x :: ds, _, r, h => by
    obtain ⟨v, vr, rfl, r1, r2⟩ := Bb.mp r
    rw [List.zip_cons_cons] at h ⊢
    by_cases q : f = n
    · have hb : (f == n) = true := beq_iff_eq.mpr q
      simp only [List.lookup, hb] at h ⊢
      cases h; exact ⟨v, rfl, r1⟩
    · have hb : (f == n) = false := beq_eq_false_iff_ne.mpr q
      simp only [List.lookup, hb] at h ⊢
      exact zip_get r2 h
noncomputable def Tp (K : PySem.W.Frag) (te : DTE) (f : Str) : DTE := fun ρ Q => te ρ fun d => match d with
  | .exc c ns ds => CV K c f ∧ ∃ v, (ns.zip ds).lookup f = some v ∧ Q v
  | _ => False
theorem Cd {f : Str} (h : DE X e te) (hb : attributeBase e f X.env (eval e X.env) = eval e X.env := by rfl) : DE X (.Attribute e f pos) (Tp X.K te f) where
  mono := fun hq z => h.mono (fun d z => by
    split at z
    · exact let ⟨a, v, b, c⟩ := z; ⟨a, v, b, hq _ c⟩
    · exact z.elim) z
  pe := (Tj h.pe hb).imp fun σ H Q ⟨B, F, O, ρ, R, z⟩ => ⟨B, F, O, ρ, R, h.mono (fun d z v H1 s1 r1 => by
    split at z
    · obtain ⟨na, y, ly, q⟩ := z
      obtain ⟨a, C, U, dx, vs, rfl, h1, xc, h2, h3, _, h5⟩ := Fe.mp r1
      obtain ⟨v, lv, rv⟩ := zip_get h5 ly
      have h3 := h3.resolve_right fun z => by rw [z.2] at ly; cases ly
      exact ⟨a, C, U, dx, _, v, rfl, xc, na C h1, Bj _ _ h2, Bj _ _ h3, lv, q v H1 s1 rv⟩
    · exact z.elim) z⟩
noncomputable def TY (t : Et) : DTS := fun D ρ => t ⟨D, fun _ _ => False⟩ ρ
theorem Sw {st : Stmt} {t : Et} (h : DSX X st t) : DS X st (TY t) where
  mono := fun {ρ D D'} hd z => h.mono (D := ⟨D, fun _ _ => False⟩) ⟨hd, fun _ _ q => q⟩ z
  ps := h.ps.imp fun D σ H ⟨B, F, O, ρ, R, z⟩ => ⟨B, F, O, ρ, R, h.mono (D := ⟨lD X.K B F D, fun _ _ => False⟩) ⟨⟨fun _ q => q, fun _ q => q, fun _ q => q, fun _ q => q⟩, fun _ _ q => q.elim⟩ z⟩
end
end L2
namespace L2
open PySem PySem.Spec PyProof.Rows PySem.SeqAt
structure XRT (K : PySem.W.Frag) (mg : Str → Option Value) (c : Str) (ns : List Str) (qual : Str) (st : Stmt) (C U fI : Addr) (fd : FuncData) (ps : List Str) : Prop where
  at_ : PySem.W.nsIn K mainGlobals c = some (some (.ref C))
  gl : mg c = some (.ref C)
  kp : PySem.W.keepIn K (.ref C) = true
  xc : XC K C U
  hi : PySem.W.findIn K (.ref C) "__init__" = some (some (.ref fI))
  hf : PySem.W.typeIn K (.ref fI) = some (.type "function")
  bd : Binds K fd ps []
  ln : ps.length = ns.length + 1
  fn : Fun K "__init__" qual st fI fd
  tk : ∀ f ∈ ns, PySem.W.takerIn K C f = some none
theorem XRT.mk1 {P : Program} {w : World} {K : PySem.W.Frag} {mg : Str → Option Value} {base : Heap} {k : Nat} {c qual : Str} {ns : List Str} {st : Stmt} {C U fI : Addr} {fd : FuncData} {ps : List Str} (R : XRT K mg c ns qual st C U fI fd ps)
    (h : DY P w K mg base CX0 k fI fd ps (T9 C ns)) : XR P w K mg base k c ns C U fI fd ps := ⟨R.at_, R.gl, R.kp, R.xc, R.hi, R.hf, R.bd, R.ln, h⟩
section
variable {K : PySem.W.Frag} {mg : Str → Option Value} {c T f : Str} {C U A : Addr} {cd : ClassData}
theorem Ay.self (h : PySem.W.nsIn K mainGlobals c = some (some (.ref C))) : Ay K c C true := fun C' e => by
  rw [h] at e; cases e
  unfold PySem.W.kitOne
  rw [if_pos (by simp)]
theorem Ay.no (h : PySem.W.nsIn K mainGlobals c = some (some (.ref C))) (x : XC K C U) (z : PySem.W.clsIn K A = some cd) (t : PySem.W.typeIn K (.ref A) = some (.type "type")) (m : PySem.W.mroIn K C (.ref A) = some false) : Ay K c A false := fun C' e => by
  rw [h] at e; cases e
  have ne : C ≠ A := fun q => by
    subst q
    rw [x.sub] at m
    simp at m
  unfold PySem.W.kitOne
  rw [if_neg (by simp [ne])]
  show (if ((PySem.W.clsIn K A).isSome && PySem.W.typeIn K (.ref A) == some (.type "type")) = true then PySem.W.mroIn K C (.ref A) else none) = some false
  rw [if_pos (by rw [z, t]; simp), m]
theorem Under.mk (h : PySem.W.nsIn K mainGlobals c = some (some (.ref C))) (x : XC K C U) (m : mg T = some (.ref U)) : Under K mg c T := fun C' U' e y => by
  rw [h] at e; cases e
  rw [x.uniq y] at m
  exact m
theorem CV.mk (h : PySem.W.nsIn K mainGlobals c = some (some (.ref C))) (n : PySem.W.findIn K (.ref C) f = some none) : CV K c f := fun C' e => by
  rw [h] at e; cases e
  exact n
end
end L2
namespace L2
open PySem PySem.Spec PyProof.Rows PySem.SeqAt
section
variable {K : PySem.W.Frag} {B : Hp} {F O : List Addr} {H : Hp} {σ : St} {ρ : Bq}
end
section
variable {X : Cx} {a b c e : Expr} {es : List Expr} {st : Stmt} {ta tb te : DTE} {tl : DTA} {t : DTS} {pos : Pos}
noncomputable def AbF (i : Nat) (tl : DTA) : DTS := fun D ρ => tl ρ fun ds => ds.length ≤ sizeLine ∧ D.nx (ρ.set i (some (.own ds)))
noncomputable def ownAt (ρ : Bq) (j : Nat) (k : List Dt → Prop) : Prop := match ρ[j]? with
  | some (some (.own ds)) => k ds
  | _ => False
theorem ownAt.mono {ρ : Bq} {j : Nat} {k k' : List Dt → Prop} (hk : ∀ ds, k ds → k' ds) (h : ownAt ρ j k) : ownAt ρ j k' := by
  unfold ownAt at h ⊢
  split at h
  · exact hk _ h
  · exact h.elim
theorem ownAt.get {ρ : Bq} {j : Nat} {k : List Dt → Prop} (h : ownAt ρ j k) : ∃ ds, ρ[j]? = some (some (.own ds)) ∧ k ds := by
  unfold ownAt at h
  split at h
  · rename_i ds e; exact ⟨ds, e, h⟩
  · exact h.elim
noncomputable def Ab0 (j : Nat) (tb : DTE) : DTE := fun ρ Q => ownAt ρ j fun ds => tb ρ fun k => match k with
  | .int i => match ixL i ds with
    | some v => Q v
    | none => False
  | _ => False
noncomputable def AaN (j : Nat) (te tb : DTE) : DTS := fun D ρ => te ρ fun d => ownAt ρ j fun ds => tb ρ fun k => match k with
  | .int i => (0 ≤ i ∧ i < ds.length) ∧ D.nx (ρ.set j (some (.own (ds.set i.toNat d))))
  | _ => False
noncomputable def Yy (j : Nat) (te : DTE) : DTS := fun D ρ => ownAt ρ j fun ds => te ρ fun d => ds.length < sizeLine ∧ D.nx (ρ.set j (some (.own (ds ++ [d]))))
noncomputable def Abp (j : Nat) (t : DTS) : DTS := fun D ρ => ownAt ρ j fun ds => t D (ρ.set j (some (.is (.lst ds))))
noncomputable def AaC (j : Nat) : DTE := fun ρ Q => ownAt ρ j fun ds => Q (.int ds.length)
noncomputable def Yw : D2 := fun a b Q => match a with
  | .tup xs => match b with
    | .tup ys => (xs ≠ [] ∧ xs.length + ys.length ≤ sizeLine) ∧ Q (.tup (xs ++ ys))
    | _ => False
  | _ => False
end
end L2
namespace L2
open PySem PySem.Spec PyProof.Rows
section chain3
variable {X : Cx} {a b c e : Expr} {ta tb tc te : TE} {pos : Pos}
end chain3
noncomputable def Ry (t t' t2 : D2) (ta tb tc te : DTE) : DTT := fun ρ Q => ta ρ fun a => tb ρ fun b => t a b fun z => match z with
  | .bl k => if k = true then tc ρ fun c => t' b c fun z => match z with
    | .bl k => if k = true then te ρ fun e => t2 c e fun z => match z with
      | .bl k => Q k
      | _ => False
      else Q false
    | _ => False
    else Q false
  | _ => False
section
variable {X : Cx} {a b c e : Expr} {ta tb tc te : DTE} {pos : Pos}
end
end L2
namespace L2
open PySem PySem.Spec PyProof.Rows PySem.W
end L2
namespace L2
open PySem PySem.Spec PyProof.Rows
variable {X : Cx} {a b : Expr} {ta tb : DTE} {pos : Pos}
noncomputable def dIn : D2 := fun a b Q => ∃ (i : Int) (ns : List Int), a = .int i ∧ b = .lst (ns.map Dt.int) ∧ Q (.bl (decide (i ∈ ns)))
noncomputable def Aaq (i : Nat) (te : DTE) : DTS := fun D ρ => match ρ[i]? with
  | some (some (.is (.int a))) => te ρ fun d => match d with
    | .int b => D.nx (ρ.set i (some (.is (.int (a + b)))))
    | _ => False
  | _ => False
noncomputable def ZF (i j k : Nat) (tl : DTA) : DTS := fun D ρ => tl ρ fun ds => match ds with
  | [d, e, f] => D.nx (((ρ.set i (some (.is d))).set j (some (.is e))).set k (some (.is f)))
  | _ => False
end L2
namespace L2
open PySem PySem.Spec PyProof.Rows PySem.SeqAt
mutual
noncomputable def Dt.noL : Nat → Dt → Bool
  | _, .non => true
  | _, .bl _ => true
  | _, .int _ => true
  | _, .str _ => true
  | 0, _ => false
  | n + 1, .tup ds => Dt.noLs n ds
  | _, _ => false
noncomputable def Dt.noLs : Nat → List Dt → Bool
  | _, [] => true
  | n, d :: ds => Dt.noL n d && Dt.noLs n ds
end
theorem Vk {n : Nat} {d : Dt} {r : List Dt} : Dt.noLs n (d :: r) = (Dt.noL n d && Dt.noLs n r) := by rw [Dt.noLs]
theorem Aan {n : Nat} {r : List Dt} : Dt.noL (n + 1) (.tup r) = Dt.noLs n r := by rw [Dt.noL]
noncomputable def Keep (M M' : Hp) : Prop := ∀ b o, M b = some o → (∀ xs, o ≠ .lst xs) → M' b = some o
mutual
theorem Xo {K : PySem.W.Frag} {M M' : Hp} (k : Keep M M') : ∀ (n : Nat) (d : Dt) (v : V), d.noL n = true → Rp K M d v → Rp K M' d v
  | _, .non, _, _, r => by rw [GP] at r ⊢; exact r
  | _, .bl _, _, _, r => by rw [BZ] at r ⊢; exact r
  | _, .int _, _, _, r => by rw [Bc] at r ⊢; exact r
  | _, .str _, _, _, r => by rw [Jb] at r ⊢; exact r
  | 0, .tup _, _, h, _ => by simp [Dt.noL] at h
  | n + 1, .tup ds, _, h, r => by
    rw [Aan] at h
    obtain ⟨a, xs, e, q, r⟩ := Er.mp r
    refine Er.mpr ⟨a, xs, e, ?_, Lh k n ds xs h r⟩
    rcases q with (q | ⟨o, q⟩) | q
    · exact .inl (.inl (k _ _ q fun _ => by simp))
    · exact .inl (.inr ⟨o, k _ _ q fun _ => by simp⟩)
    · exact .inr q
  | 0, .lst _, _, h, _ => by simp [Dt.noL] at h
  | _ + 1, .lst _, _, h, _ => by simp [Dt.noL] at h
  | 0, .fn _, _, h, _ => by simp [Dt.noL] at h
  | _ + 1, .fn _, _, h, _ => by simp [Dt.noL] at h
  | 0, .exc _ _ _, _, h, _ => by simp [Dt.noL] at h
  | _ + 1, .exc _ _ _, _, h, _ => by simp [Dt.noL] at h
  | 0, .obj _ _ _, _, h, _ => by simp [Dt.noL] at h
  | _ + 1, .obj _ _ _, _, h, _ => by simp [Dt.noL] at h
theorem Lh {K : PySem.W.Frag} {M M' : Hp} (k : Keep M M') : ∀ (n : Nat) (ds : List Dt) (vs : List V), Dt.noLs n ds = true → RpL K M ds vs → RpL K M' ds vs
  | _, [], _, _, r => by rw [Ca] at r ⊢; exact r
  | n, d :: ds, _, h, r => by
    rw [Vk, Bool.and_eq_true] at h
    obtain ⟨v, w, rfl, r1, r2⟩ := Bb.mp r
    exact Bb.mpr ⟨v, w, rfl, Xo k n d v h.1 r1, Lh k n ds w h.2 r2⟩
end
noncomputable def YK : Option HO → Bool
  | some (.lst _) => true
  | _ => false
noncomputable def lists (H : Hp) (n : Nat) : List Addr := (List.range n).filter fun a => YK (H a)
section
variable {X : Cx} {a b c e : Expr} {es : List Expr} {st : Stmt} {ta tb te : DTE} {tl : DTA} {tA : DTT} {t : DTS} {pos : Pos}
noncomputable def Wx (i : Nat) (sp : DSp) (tl : DTA) : DTS := fun D ρ => tl ρ fun ds => Dt.noLs 4 ds = true ∧ sp ds fun d => ∃ ks, d = .lst ks ∧ (∃ r, Dt.tup r ∈ ks) ∧ Dt.noLs 4 ks = true ∧ D.nx (ρ.set i (some (.own ks)))
noncomputable def W9 (j : Nat) (t : DTT) : DTT := fun ρ Q => ownAt ρ j fun ds => t (ρ.set j (some (.is (.lst ds)))) Q
noncomputable def V2 (j : Nat) : DTE := fun ρ Q => ownAt ρ j fun ds => Q (.lst ds)
end
end L2
namespace L2
open PySem PySem.Spec PyProof.Rows PySem.W PySem.Builtin PySem.Builtin.ObjectAttr
section
variable {prog : Program} {w : World} {A : Around} {E : Value → Shared → Prop} {s : Shared} {K : PySem.W.Frag} {C U x dx : Addr} {name : Str} {v : Value}
theorem YC {Q : Unit → Shared → Prop} {vs : Array Value} {sl : Array (Option Value)} {m : Str → Option Value} {ns : List Str} (X : K.In s.heap) (c : XC K C U) (ht : takerIn K C name = some none) (hx : s.heap.get? x = some ⟨.ref C, some dx, .fields vs, sl⟩)
    (hn : s.heap.Ns1 dx m) (wi : PySem.Within m ns) (hl : ns.length ≤ 1000)
    (h : ∀ h' tk', h'.Ns1 dx (fun y => if y = name then some v else m y) → (∀ b o, b ≠ dx → s.heap.get? b = some o → h'.get? b = some o) → Q () { s with heap := h', toks := tk' }) :
    wpAny (model prog w) A (setAttr (.ref x) name v) Q E s := by
  obtain ⟨oD0, es0, ep0, ho0, rest0⟩ := id hn
  have I : InstAt s.heap x ⟨.ref C, some dx, .fields vs, sl⟩ C (some oD0) := ⟨hx, rfl, rfl, ho0⟩
  refine set_plain X I c.sa (M7 (s := { s with toks := s.toks + 1 }) X c I ht fun b => ?_)
  obtain ⟨cd, hc, hm, hd⟩ := c.cls
  refine wpAny_bind (wpAny_pure (wpAny_bind ?_))
  show wpAny _ _ (instanceDict x true) _ _ _
  unfold instanceDict
  refine wpAny_bind (wpAny_loadPart hx ?_)
  dsimp only
  refine wpAny_bind ((looks_clsIn X hc).here (s := { s with toks := s.toks + 1 }) ?_)
  rw [hd]
  refine wpAny_pure ?_
  show wpAny _ _ (storeInDict dx (.str name _) name v) _ _ _
  unfold storeInDict newKeyGuard
  refine wpAny_bind (wpAny_pure (wpAny_bind (wpAny_nsSet1 (s := { s with toks := s.toks + 1 }) hn fun h' hn' hs => ?_)))
  obtain ⟨oD, esD, epD, hoD, hdD, hcD⟩ := hn'.count (Within.cons name v wi)
  refine wpAny_bind (wpAny_lookBehind hoD (by rw [hdD]; exact pastItsLine_dict (Nat.le_trans hcD (by rw [List.length_cons, sizeLine_eq]; omega))) ?_)
  exact wpAny_pure (h h' _ hn' fun b o nb hb => (hs.2 b nb).trans hb)
end
section
variable {X : Cx} {pins : List (Addr × Obj)} {σ : St} {H : Hp} {s : Shared} {h' : Heap} {a dx C U f fI : Addr}
theorem Inv.putXd {fs fs' : List (Str × V)} {t' : Nat} (I : Inv X pins σ H s) (Hd : H dx = some (.xd fs)) (k : ∀ b u, b ≠ dx → s.heap.get? b = some u → h'.get? b = some u) (hd : ∃ u, h'.get? dx = some u)
    (n : Cz X.prog X.w (upd H dx (.xd fs')) h' dx (.xd fs')) : Inv X pins σ (upd H dx (.xd fs')) { s with heap := h', toks := t' } := by
  have keepH : ∀ b u, H b = some u → b ≠ dx → upd H dx (.xd fs') b = some u := fun b u e n => by rw [Ag n]; exact e
  have nt : ∀ b u, H b = none → s.heap.get? b = some u → b ≠ dx := fun b u n _ z => by rw [z, Hd] at n; cases n
  refine I.un ⟨fun b u e n _ _ => k b u (nt b u n e) e, fun b u e n _ _ => ⟨u.slots, k b u (nt b u n e) e⟩, fun b u e n _ => ?_, fun b u e _ => ?_, fun b xs e => keepH b _ e fun z => (by rw [z, Hd] at e; cases e), fun b o u e => keepH b _ e fun z => (by rw [z, Hd] at e; cases e), fun b ps e => ⟨#[], by rw [keepH b _ e fun z => by rw [z, Hd] at e; cases e]; simp⟩⟩ ?_
  · rw [Ag (nt b u n e)]; exact n
  · by_cases z : b = dx
    · rw [z]; exact hd
    · exact ⟨u, k b u z e⟩
  · intro b u e
    by_cases z : b = dx
    · subst z; rw [Am] at e; cases e; exact n
    · rw [Ag z] at e
      refine (I.hok b u e).stay (fun c v hc q => k c v ?_ q) (fun c q => keepH c _ q fun w => by rw [w, Hd] at q; cases q) fun c xs q => keepH c _ q fun w => by rw [w, Hd] at q; cases q
      rcases hc with rfl | hc
      · exact z
      · rintro rfl; rw [Hd] at hc; cases hc
noncomputable def sX2 (C : Addr) (ta tv : TE) (f : Str) : TS := fun D σ H => tv σ H fun y H1 => ta σ H1 fun x H2 => ∃ a dx fs, x = .ref a ∧ H2 a = some (.ext (exF a C dx)) ∧ H2 dx = some (.xd fs) ∧ fs.length ≤ 1000 ∧ fs.lookup f = none ∧ D.nx σ (upd H2 dx (.xd (fs ++ [(f, y)])))
theorem Hu {f g : Str} {y : V} : ∀ {fs : List (Str × V)}, fs.lookup f = none → (fs ++ [(f, y)]).lookup g = if g = f then some y else fs.lookup g
  | [], _ => by
    by_cases q : g = f
    · rw [if_pos q]; simp [List.lookup, q]
    · rw [if_neg q]; simp [List.lookup, beq_eq_false_iff_ne.mpr q]
  | (k, z) :: fs, h => by
    have nk : (f == k) = false := by
      cases e : f == k with
      | false => rfl
      | true => simp [List.lookup, e] at h
    have h2 : fs.lookup f = none := by simpa [List.lookup, nk] using h
    have ih := Hu (g := g) (y := y) h2
    cases e : g == k with
    | true =>
      have : ¬ g = f := fun q => by
        rw [q, nk] at e
        cases e
      rw [if_neg this]
      simp [List.lookup, e]
    | false =>
      simp only [List.cons_append, List.lookup, e]
      exact ih
theorem lookup_mem {g : Str} : ∀ {fs : List (Str × V)}, fs.lookup g ≠ none → g ∈ fs.map (·.1)
  | [], h => absurd rfl h
  | (k, z) :: fs, h => by
    cases e : g == k with
    | true => rw [List.map_cons, beq_iff_eq.mp e]; exact List.mem_cons_self
    | false =>
      have : fs.lookup g ≠ none := by simpa [List.lookup, e] using h
      rw [List.map_cons]
      exact List.mem_cons_of_mem _ (lookup_mem this)
theorem Yk {o value : Expr} {f : Str} {pos pos' : Pos} {ta tv : TE} (c : XC X.K C U) (ht : PySem.W.takerIn X.K C f = some none) (ha : PE X o ta) (hv : PE X value tv) (hs : swapsWith value (some (.Attribute o f pos')) pos.line X.env = pure false := by rfl) :
    PS X (.Assign [.Attribute o f pos'] value pos) (sX2 C ta tv f) := by
  intro pins s σ H D I h
  refine plainObj_wpAny_Assign_Attribute (thn (hv pins s σ H _ I h) fun u s1 ⟨y, H1, I1, ry, q⟩ => thn (ha pins s1 σ H1 _ I1 q) fun ov s2 ⟨x, H2, I2, rx, a, dx, fs, ex, ea, ed, fl, fn, q2⟩ => ?_) hs
  subst ex
  obtain rfl : ov = Value.ref a := rx
  obtain ⟨⟨vs, sl, hx, h1, nx⟩, _, _⟩ := I2.hok a _ ea
  obtain ⟨mA, hn, hm⟩ := (show Cz X.prog X.w H2 s2.heap dx (.xd fs) from I2.hok dx _ ed)
  have wi : PySem.Within mA (fs.map (·.1)) := fun g hg => lookup_mem fun z => hg (by
    have := hm g
    rw [z] at this
    cases q : mA g with
    | none => rfl
    | some w => rw [q] at this; exact this.elim)
  refine YC I2.kIn c ht hx hn wi (by rw [List.length_map]; exact fl) fun h' tk' x1 x2 => ⟨σ, _, I2.putXd (fs' := fs ++ [(f, y)]) (t' := tk') ed x2 (let ⟨o, _, _, e, _⟩ := x1; ⟨o, e⟩) ⟨_, x1, fun g => ?_⟩, q2⟩
  rw [Hu fn]
  show J9 _ (if g = f then some u else mA g)
  by_cases q : g = f
  · rw [if_pos q, if_pos q]; exact ry
  · rw [if_neg q, if_neg q]; exact hm g
theorem OJ {H : Hp} {a dx : Addr} {o u v : HO} (n : dx ≠ a) : upd (upd (upd H dx o) a u) dx v = upd (upd H dx v) a u := by
  funext b
  by_cases h1 : b = dx
  · subst h1; rw [Am, Ag n, Am]
  · by_cases h2 : b = a
    · subst h2; rw [Ag h1, Am, Am]
    · rw [Ag h1, Ag h2, Ag h1, Ag h2, Ag h1]
end
end L2
namespace L2
open PySem PySem.Spec PyProof.Rows PySem.SeqAt
noncomputable abbrev VH := Bq → (List Dt → Prop) → (Dt → Prop) → Prop
section
variable {X : Cx} {e : Expr} {es : List Expr} {te : H9} {tl : DTA} {tx : VH} {pos : Pos}
noncomputable def Vl (te : H9) (tl : DTA) : VH := fun ρ Q E => te ρ (fun d => tl ρ fun ds => Q (d :: ds)) E
noncomputable def Wv (sp : DSp) (tx : VH) : H9 := fun ρ Q E => tx ρ (fun ds => sp ds Q) E
end
end L2
namespace L2
open PySem PySem.Spec PyProof.Rows
section
variable {prog : Program} {w : World} {A : Around} {I S : Addr} {fp wr : List Addr} {n : Nat} {P : Nat → Value → Prop} {St : Nat → Heap → Prop} {bt : Nat → Nat → Bool} {R : Result → Shared → Prop}
end
variable {X : Cx}
end L2
namespace L2
open PySem PySem.Spec PyProof.Rows
variable {X : Cx}
end L2
namespace L2
open PySem PySem.Spec PyProof.Rows PySem.SeqAt
section
variable {X : Cx} {C U fI : Addr} {e : Expr} {es : List Expr} {p pos : Pos} {t : TA} {tl : DTA}
noncomputable def Rq (C : Addr) (ns : List Str) (t : TA) : TE := fun σ H Q => t σ H fun vs H1 => vs.length = ns.length ∧ vs.length ≤ 1000 ∧ ∀ a dx, H1 a = none → H1 dx = none → dx ≠ a → Q (.ref a) (upd (upd (upd (upd H1 a (.ext (exN a C))) dx (.xd (ns.zip vs))) a (.ext (exF a C dx))) a (.ext (exO a C dx)))
theorem Mr {k : Nat} {c : Str} {ns ps : List Str} {fd : FuncData} (ht : ∀ {σ H Q Q'}, (∀ v H, Q v H → Q' v H) → t σ H Q → t σ H Q') (G : XR X.prog X.w X.K X.mg X.base k c ns C U fI fd ps) (hr : Ck (k + 1) X.A) (hg : Gl X c) (ha : PA X (e :: es) t)
    (hdb : (c == ("__debug__" : Str)) = false := by decide) (he : starEach (e :: es) X.env = (false, eval e X.env) :: starEach es X.env := by rfl) (hpl : (backTo pos (starEach es X.env)).any (·.1) = false := by rfl) :
    PE X (.Call (.Name c p) (e :: es) [] pos) (Rq C ns t) := by
  intro pins s σ H Q I h
  refine thn (JV G hr hg ha hdb he hpl pins s σ H (fun v H2 => ∃ a dx, v = .ref a ∧ H2 a = some (.ext (exF a C dx)) ∧ Q (.ref a) (upd H2 a (.ext (exO a C dx)))) I (ht (fun vs H1 ⟨h1, h2, q⟩ => ⟨h1, h2, fun a dx na nd ne => ⟨a, dx, rfl, Am, q a dx na nd ne⟩⟩) h)) fun u s1 ⟨v, H2, I2, rv, a, dx, e1, e2, q⟩ => ?_
  subst e1
  obtain ⟨x, _, _⟩ := I2.hok a _ e2
  exact ⟨.ref a, _, I2.again e2 x.ex Hy, rv, q⟩
noncomputable def PL (c : Str) (ns : List Str) (tl : DTA) : DTE := fun ρ Q => tl ρ fun ds => ds.length = ns.length ∧ ds.length ≤ 1000 ∧ Q (.exc c ns ds)
theorem CP {k : Nat} {c : Str} {ns ps : List Str} {fd : FuncData} (G : XR X.prog X.w X.K X.mg X.base k c ns C U fI fd ps) (hr : Ck (k + 1) X.A) (hg : Gl X c) (ha : DA X (e :: es) tl)
    (hdb : (c == ("__debug__" : Str)) = false := by decide) (he : starEach (e :: es) X.env = (false, eval e X.env) :: starEach es X.env := by rfl) (hpl : (backTo pos (starEach es X.env)).any (·.1) = false := by rfl) :
    DE X (.Call (.Name c p) (e :: es) [] pos) (PL c ns tl) where
  mono := fun hq h => ha.mono (fun ds ⟨h1, h2, h3⟩ => ⟨h1, h2, hq _ h3⟩) h
  pe := (Mr (fun {σ H Q Q'} hq ⟨B, F, O, ρ, R, z⟩ => ⟨B, F, O, ρ, R, ha.mono (fun ds z vs H1 s1 r1 => hq _ _ (z vs H1 s1 r1)) z⟩) G hr hg ha.pa hdb he hpl).imp fun σ H Q ⟨B, F, O, ρ, R, h⟩ => ⟨B, F, O, ρ, R, ha.mono (fun ds ⟨h1, h2, h3⟩ vs H1 s1 r1 => by
    refine ⟨by rw [r1.len]; exact h1, by rw [r1.len]; exact h2, fun a dx na nd ne => ?_⟩
    have R1 := R.same s1
    have oa : a ∉ F ++ O := fun z => R1.th a z na
    have od : dx ∉ F ++ O := fun z => R1.th dx z nd
    have s2 : Same H1 (upd (upd (upd (upd H1 a (.ext (exN a C))) dx (.xd (ns.zip vs))) a (.ext (exF a C dx))) a (.ext (exO a C dx))) := fun b o q => by
      rw [Ag (Ak q na), Ag (Ak q na), Ag (Ak q nd), Ag (Ak q na)]; exact q
    refine h3 (.ref a) _ (s1.trans s2) (Fe.mpr ⟨a, C, U, dx, vs, rfl, G.at_, G.xc, ?_, ?_, h1.symm, r1.mono s2.mask⟩)
    · rw [Bd oa]; exact Am
    · refine .inl ?_
      rw [Bd od, Ag ne, Ag ne]; exact Am) h⟩
end
end L2
namespace L2
open PySem PySem.Spec PyProof.Rows PySem.SeqAt
section
variable {P : Program} {w : World} {H : Hp} {h h' : Heap} {a : Addr} {o : HO}
theorem Cz.there (x : Cz P w H h a o) : ∃ u, h.get? a = some u := by
  cases o with
  | lst xs => obtain ⟨_, _, _, _, e⟩ := x; exact ⟨_, e⟩
  | tup xs => obtain ⟨_, _, _, _, e, _⟩ := x; exact ⟨_, e⟩
  | dK kvs => obtain ⟨_, _, _, _, o, _, _, e, _⟩ := x; exact ⟨_, e⟩
  | dT kvs => obtain ⟨_, _, _, _, o, _, _, e, _⟩ := x; exact ⟨_, e⟩
  | set S n => obtain ⟨o, _, _, _, e, _⟩ := x; exact ⟨_, e⟩
  | ins C dx fs => obtain ⟨_, _, _, e, _⟩ := x; exact ⟨_, e⟩
  | own y => obtain ⟨_, e⟩ := x; exact ⟨_, e⟩
  | xd fs => obtain ⟨_, ⟨_, _, _, e, _⟩, _⟩ := x; exact ⟨_, e⟩
  | rng lo hi => obtain ⟨_, _, _, e⟩ := x; exact ⟨_, e⟩
  | frz ob u => obtain ⟨e, _⟩ := x; exact ⟨_, e⟩
  | tbl ps => exact ⟨_, x⟩
  | met f y => exact ⟨_, x⟩
  | ext φ => obtain ⟨_, ⟨_, e⟩, _⟩ := x; exact ⟨_, e⟩
theorem HOk.none (x : HOk P w H h) (e : h.get? a = none) : H a = none := by
  cases q : H a with
  | none => rfl
  | some u => obtain ⟨u, z⟩ := (x a u q).there; rw [e] at z; cases z
end
theorem Inv.laidN {X : Cx} {pins : List (Addr × Obj)} {σ : St} {H : Hp} {s : Shared} {h' : Heap} {a : Addr} {o : HO} {t' : Nat} (I : Inv X pins σ H s) (k : ∀ b u, s.heap.get? b = some u → h'.get? b = some u) (hn : s.heap.get? a = none)
    (new : Cz X.prog X.w (upd H a o) h' a o) : Inv X pins σ (upd H a o) { s with heap := h', toks := t' } := by
  have n := I.hok.none hn
  refine I.un ⟨fun b u q _ _ _ => k b u q, fun b u q _ _ _ => ⟨u.slots, k b u q⟩, fun b u q z _ => ?_, fun b u q _ => ⟨u, k b u q⟩, fun b xs q => by rw [Ag (Ak q n)]; exact q, fun b u xs q => by rw [Ag (Ak q n)]; exact q, fun b ps q => ⟨#[], by rw [Ag (Ak q n), q]; simp⟩⟩ fun b u e => ?_
  · rw [Ag fun y => by rw [y, hn] at q; cases q]; exact z
  · by_cases hb : b = a
    · subst hb; rw [Am] at e; cases e; exact new
    · rw [Ag hb] at e
      exact (I.hok b u e).stay (fun c v _ q => k c v q) (fun c q => by rw [Ag (Ak q n)]; exact q) fun c xs q => by rw [Ag (Ak q n)]; exact q
structure XT (K : PySem.W.Frag) (mg : Str → Option Value) (c : Str) (C : Addr) (bm : List Value) : Prop where
  at_ : PySem.W.nsIn K mainGlobals c = some (some (.ref C))
  gl : mg c = some (.ref C)
  kp : PySem.W.keepIn K (.ref C) = true
  obj : ∃ nm q N bs hd sn sub ab col dd k0 k1 k2 k3 k5 oc od es ep sl, K.lookup C = some (excClassObj nm q C N bs bm hd sn sub ab col dd k0 k1 k2 k3 k5 "ValueError.__new__") ∧ K.lookup N = some ⟨oc, od, .dict es ep, sl⟩ ∧ Mf es = true ∧ nsFind es "__init__" = none
  own : ∀ h : Heap, K.In h → OwnTail h bmV bm
  xb : XB K C
section
variable {X : Cx} {C U : Addr} {e : Expr} {es : List Expr} {p pos : Pos} {t : TA} {tl : DTA} {c : Str} {bm : List Value}
noncomputable def W5 (C : Addr) (t : TA) : TE := fun σ H Q => t σ H fun vs H1 => vs.length ≤ 1000 ∧ ∀ a, H1 a = none → Q (.ref a) (upd H1 a (.ext (exN a C)))
theorem Kg (G : XT X.K X.mg c C bm) (hg : Gl X c) (ha : PA X (e :: es) t)
    (hdb : (c == ("__debug__" : Str)) = false := by decide) (he : starEach (e :: es) X.env = (false, eval e X.env) :: starEach es X.env := by rfl) (hpl : (backTo pos (starEach es X.env)).any (·.1) = false := by rfl) :
    PE X (.Call (.Name c p) (e :: es) [] pos) (W5 C t) := by
  intro pins s σ H Q I h
  refine wpAny_Call_Name_kw (Ft I hg G.gl ?_ hdb)
  refine PySem.W.callWith_K (h₀ := X.base) I.ok.mod.kin G.kp (thn (ha pos pins s σ H _ I h) fun us s1 ⟨vs, H1, I1, r, l2, q⟩ => ⟨I1.kIn, ?_⟩) he hpl
  have lu : us.length = vs.length := r.length.symm
  obtain ⟨nm, qq, N, bs, hd, sn, sub, ab, col, dd, k0, k1, k2, k3, k5, oc, od, es', ep, sl, lk, ln, sk, ni⟩ := G.obj
  obtain ⟨hp, g, d, tk, os⟩ := s1
  have hC := I1.kIn _ _ lk
  refine wpAny_call_exc_subT (mN := nsFind es') F.excBase_ValueError (G.own _ I1.kIn) hC ⟨_, es', ep, I1.kIn _ _ ln, rfl, LC sk, fun _ => rfl⟩ ni (fun h' x hm => ?_) (by rw [List.nil_append, lu]; exact Nat.le_of_lt (GK l2))
  obtain ⟨t', h1, _, _⟩ := hm.there
  exact ⟨.ref x, _, I1.laidN (t' := tk) (o := .ext (exN x C)) hm.keeps hm.new ⟨⟨_, _, h1, rfl⟩, ⟨_, h1⟩, J0⟩, rfl, q x (I1.hok.none hm.new)⟩
noncomputable def Oi (c : Str) (tl : DTA) : DTE := fun ρ Q => tl ρ fun ds => ds.length ≤ 1000 ∧ Q (.exc c [] [])
theorem Ke (G : XT X.K X.mg c C bm) (xc : XC X.K C U) (hg : Gl X c) (ha : DA X (e :: es) tl)
    (hdb : (c == ("__debug__" : Str)) = false := by decide) (he : starEach (e :: es) X.env = (false, eval e X.env) :: starEach es X.env := by rfl) (hpl : (backTo pos (starEach es X.env)).any (·.1) = false := by rfl) :
    DE X (.Call (.Name c p) (e :: es) [] pos) (Oi c tl) where
  mono := fun hq h => ha.mono (fun ds ⟨h2, h3⟩ => ⟨h2, hq _ h3⟩) h
  pe := by
    rintro pins s σ H Q I ⟨B, F, O, ρ, R, h⟩
    refine thn (Kg G hg ha.pa hdb he hpl pins s σ H (fun v H2 => ∃ a, v = .ref a ∧ H2 a = some (.ext (exN a C)) ∧ Q (.ref a) (upd H2 a (.ext (exO a C a)))) I ⟨B, F, O, ρ, R, ha.mono (fun ds ⟨h2, h3⟩ vs H1 s1 r1 => ⟨by rw [r1.len]; exact h2, fun a na => ⟨a, rfl, Am, ?_⟩⟩) h⟩) fun u s1 ⟨v, H2, I2, rv, a, e1, e2, q⟩ => ?_
    · subst e1
      obtain ⟨x, _, _⟩ := I2.hok a _ e2
      exact ⟨.ref a, _, I2.again e2 x.ex Hy, rv, q⟩
    · have R1 := R.same s1
      have oa : a ∉ F ++ O := fun z => R1.th a z na
      have s2 : Same H1 (upd (upd H1 a (.ext (exN a C))) a (.ext (exO a C a))) := fun b o q => by rw [Ag (Ak q na), Ag (Ak q na)]; exact q
      exact h3 (.ref a) _ (s1.trans s2) (Fe.mpr ⟨a, C, U, a, [], rfl, G.at_, xc, by rw [Bd oa]; exact Am, .inr ⟨rfl, rfl⟩, rfl, RpL.nil⟩)
theorem MN (xb : XB X.K C) (hv : PySem.W.mroIn X.K C (.type "ValueError") = some true) : GF X (.builtin "isinstance") (fun xs H Q => ∃ a, xs = [.ref a, .ty "ValueError"] ∧ H a = some (.ext (exN a C)) ∧ Q (.bl true) H) := by
  intro pins s σ H xs us Q I r ⟨a, e, ha, q⟩
  subst e
  obtain ⟨u, u2, rfl, r1, r2⟩ := vals2 r
  cases (show u2 = .type "ValueError" from r2)
  cases (show u = .ref a from r1)
  obtain ⟨⟨vs, sl, hx, h1⟩, _, _⟩ := I.hok a _ ha
  refine PySem.W.kia_one (Qs xb) I.kIn ⟨_, none, hx, rfl, rfl, trivial⟩ ?_ (fun z => nomatch z) fun tk => ⟨.bl true, H, I.tok tk, rfl, q⟩
  unfold PySem.W.kitOne
  rw [if_neg (by simp)]
  show (if PySem.W.kitMeta "ValueError" = true then PySem.W.mroIn X.K C (.type "ValueError") else none) = some true
  rw [if_pos (by decide +kernel), hv]
noncomputable def Um (tl : DTA) : DTE := fun ρ Q => tl ρ fun ds => ds.length ≤ 1000 ∧ Q (.bl true)
theorem RD {p1 p2 cp : Pos} (G : XT X.K X.mg c C bm) (hv1 : PySem.W.mroIn X.K C (.type "ValueError") = some true) (hm : X.mg "isinstance" = none) (hmT : X.mg "ValueError" = none) (hg0 : Gl X c) (ha : DA X (e :: es) tl) (hg : Gl X "isinstance" := by rfl) (hgT : Gl X "ValueError" := by rfl) (hv : bootBuiltins "isinstance" = some (.builtin "isinstance") := by rfl)
    (hvT : bootBuiltins "ValueError" = some (.type "ValueError") := by rfl) (hdb : (c == ("__debug__" : Str)) = false := by decide) (he : starEach (e :: es) X.env = (false, eval e X.env) :: starEach es X.env := by rfl) (hpl : (backTo cp (starEach es X.env)).any (·.1) = false := by rfl)
    (hs1 : starEach [.Call (.Name c p) (e :: es) [] cp, .Name "ValueError" p2] X.env = (false, eval (.Call (.Name c p) (e :: es) [] cp) X.env) :: starEach [.Name "ValueError" p2] X.env := by rfl) (hs2 : starEach [.Name "ValueError" p2] X.env = (false, eval (.Name "ValueError" p2) X.env) :: starEach [] X.env := by rfl)
    (hpl2 : (backTo pos (starEach [.Name "ValueError" p2] X.env)).any (·.1) = false := by rfl) : DE X (.Call (.Name "isinstance" p1) [.Call (.Name c p) (e :: es) [] cp, .Name "ValueError" p2] [] pos) (Um tl) where
  mono := fun hq h => ha.mono (fun _ h => ⟨h.1, hq _ h.2⟩) h
  pe := (Gn (MN G.xb hv1) hg hm hv (Ek (Kg G hg0 ha.pa hdb he hpl) (Ek (Jd (v := .ty "ValueError") hgT hmT hvT rfl (by decide) (by decide)) Js hs2) hs1) (he := hs1) (hpl := hpl2)).imp fun σ H Q ⟨B, F, O, ρ, R, h⟩ =>
    ⟨B, F, O, ρ, R, ha.mono (fun ds h vs H1 s1 r1 => ⟨by rw [r1.len]; exact h.1, fun a na => ⟨a, rfl, Am, h.2 _ _ (s1.trans (Same.upd na)) (BZ.mpr rfl)⟩⟩) h⟩
end
section
variable {K : PySem.W.Frag} {c : Str} {C U A : Addr} {cd : ClassData}
theorem Ay.yes (h : PySem.W.nsIn K mainGlobals c = some (some (.ref C))) (x : XC K C U) (z : PySem.W.clsIn K U = some cd) (t : PySem.W.typeIn K (.ref U) = some (.type "type")) : Ay K c U true := fun C' e => by
  rw [h] at e; cases e
  unfold PySem.W.kitOne
  by_cases q : C = U
  · rw [if_pos (by simp [q])]
  · rw [if_neg (by simp [q])]
    show (if ((PySem.W.clsIn K U).isSome && PySem.W.typeIn K (.ref U) == some (.type "type")) = true then PySem.W.mroIn K C (.ref U) else none) = some true
    rw [if_pos (by rw [z, t]; simp), x.sub]
    simp
end
section
variable {t1 t2 t3 t4 u : DTS} {D : Dy} {ρ : Bq}
theorem PX (S : Bq → Prop) (h1 : ∀ N : Bq → Prop, (∀ ρ', S ρ' → N ρ') → t1 { D with nx := N } ρ) (h2 : ∀ ρ', S ρ' → u D ρ') : HY t1 u D ρ := h1 (u D) h2
theorem Qm (S : Bq → Prop) (h1 : ∀ N : Bq → Prop, (∀ ρ', S ρ' → N ρ') → HY t1 t2 { D with nx := N } ρ) (h2 : ∀ ρ', S ρ' → u D ρ') : HY t1 (HY t2 u) D ρ := h1 (u D) h2
theorem JX (S : Bq → Prop) (h1 : ∀ N : Bq → Prop, (∀ ρ', S ρ' → N ρ') → HY t1 (HY t2 t3) { D with nx := N } ρ) (h2 : ∀ ρ', S ρ' → u D ρ') : HY t1 (HY t2 (HY t3 u)) D ρ := h1 (u D) h2
end
end L2
namespace My
open PySem L2
noncomputable abbrev JB : DSp := Uw
noncomputable abbrev I4 := Int × Int × Int × Int
noncomputable abbrev I2 := Int × Int
noncomputable abbrev t4 (p : I4) : Dt := T4 p.1 p.2.1 p.2.2.1 p.2.2.2
noncomputable abbrev t2 (p : I2) : Dt := T2 p.1 p.2
theorem Zm {s t : I4} : Dt.eq (t4 s) (t4 t) = decide (s = t) := by
  obtain ⟨a, b, c, d⟩ := s
  obtain ⟨e, f, g, h⟩ := t
  simp only [Lj, Jz, Jr, Ig, Prod.mk.injEq, Bool.and_true]
  simp only [Bool.decide_and]
theorem Zj {s t : I2} : Dt.eq (t2 s) (t2 t) = decide (s = t) := by
  obtain ⟨a, b⟩ := s
  obtain ⟨e, f⟩ := t
  simp only [Lj, Jz, Jr, Ig, Prod.mk.injEq, Bool.and_true]
  simp only [Bool.decide_and]
noncomputable abbrev I3 := Int × Int × Int
noncomputable abbrev t3 (p : I3) : Dt := T3 p.1 p.2.1 p.2.2
noncomputable def B3 (n : Nat) (p : I3) : Prop := Bt n p.1 ∧ Bt n p.2.1 ∧ Bt n p.2.2
theorem B3.le {n m : Nat} {t : I3} (h : B3 n t) (l : n ≤ m) : B3 m t := ⟨h.1.le l, h.2.1.le l, h.2.2.le l⟩
noncomputable def meas (f : I3) : Int := f.2.1 * f.2.1 - 4 * f.1 * f.2.2
noncomputable def val (f : I3) (p : I2) : Int := f.1 * p.1 * p.1 + f.2.1 * p.1 * p.2 + f.2.2 * p.2 * p.2
noncomputable def mid (f : I3) (l r : I2) : Int := 2 * f.1 * l.1 * r.1 + f.2.1 * (l.1 * r.2 + r.1 * l.2) + 2 * f.2.2 * l.2 * r.2
noncomputable def mov (f : I3) (t : I4) : I3 := (val f (t.1, t.2.2.1), mid f (t.1, t.2.2.1) (t.2.1, t.2.2.2), val f (t.2.1, t.2.2.2))
theorem Tq {s t : I3} : Dt.eq (t3 s) (t3 t) = decide (s = t) := by
  obtain ⟨a, b, c⟩ := s
  obtain ⟨e, f, g⟩ := t
  simp only [Lj, Jz, Jr, Ig, Prod.mk.injEq, Bool.and_true]
  simp only [Bool.decide_and]
noncomputable def Sq (n r : Int) : Prop := 0 ≤ r ∧ r * r ≤ n ∧ n < (r + 1) * (r + 1)
theorem Sq.uniq {n r s : Int} (a : Sq n r) (b : Sq n s) : r = s := by
  obtain ⟨a0, a1, a2⟩ := a
  obtain ⟨b0, b1, b2⟩ := b
  rcases Int.lt_trichotomy r s with h | h | h
  · have := Int.mul_le_mul (show r + 1 ≤ s by omega) (show r + 1 ≤ s by omega) (by omega) b0
    omega
  · exact h
  · have := Int.mul_le_mul (show s + 1 ≤ r by omega) (show s + 1 ≤ r by omega) (by omega) a0
    omega
theorem Iu {n g : Int} (hn : 0 ≤ n) (hg : 0 < g) : n < ((g + n / g) / 2 + 1) * ((g + n / g) / 2 + 1) := by
  have h1 : n < g * (n / g) + g := Int.lt_mul_ediv_self_add hg
  have h0 : 0 ≤ n / g := Int.ediv_nonneg hn (by omega)
  generalize n / g = q at *
  have hb : g + q ≤ 2 * ((g + q) / 2) + 1 := by omega
  have hb0 : 0 ≤ (g + q) / 2 := by omega
  generalize (g + q) / 2 = b at *
  have z1 : 0 ≤ (g - q - 1) * (g - q - 1) := by
    rcases Int.le_total 0 (g - q - 1) with h | h
    · exact Int.mul_nonneg h h
    · exact Int.mul_nonneg_of_nonpos_of_nonpos h h
  have z2 : (g + q + 1) * (g + q + 1) = (g - q - 1) * (g - q - 1) + 4 * (g * q + g) := by grind
  have z3 : (g + q + 1) * (g + q + 1) ≤ (2 * (b + 1)) * (2 * (b + 1)) := Int.mul_le_mul (by omega) (by omega) (by omega) (by omega)
  have z4 : (2 * (b + 1)) * (2 * (b + 1)) = 4 * ((b + 1) * (b + 1)) := by grind
  omega
theorem K5 {n g : Int} (hg : 0 < g) (h : g ≤ (g + n / g) / 2) : g * g ≤ n := by
  have h1 : g * (n / g) ≤ n := Int.mul_ediv_self_le (by omega)
  have h2 : g ≤ n / g := by omega
  have := Int.mul_le_mul_of_nonneg_left h2 (show 0 ≤ g by omega)
  omega
theorem J4 {n g : Int} (hg : 0 < g) (h : n < g * g) : (g + n / g) / 2 < g := by
  have h2 : n / g < g := Int.ediv_lt_of_lt_mul hg (by rw [Int.mul_comm] at h; exact h)
  omega
theorem KC {n g : Int} (hn : 1 ≤ n) (hg : 0 < g) : 0 < (g + n / g) / 2 := by
  have h0 : 0 ≤ n / g := Int.ediv_nonneg (by omega) (by omega)
  rcases Int.lt_or_le g 2 with h | h
  · have : g = 1 := by omega
    subst this
    rw [Int.ediv_one]; omega
  · omega
theorem Km {n : Int} (hn : 0 ≤ n) : n < (1 * 2 ^ ((((Builtin.Int.intBits n : Nat) : Int) + 1).fdiv 2).toNat + 1) * (1 * 2 ^ ((((Builtin.Int.intBits n : Nat) : Int) + 1).fdiv 2).toNat + 1) := by
  have h1 : n.natAbs < 2 ^ Builtin.Int.intBits n := intBits_le_iff.mp (Nat.le_refl _)
  generalize Builtin.Int.intBits n = b at *
  have e : ((((b : Nat) : Int) + 1).fdiv 2).toNat = (b + 1) / 2 := by
    rw [Int.fdiv_eq_ediv_of_nonneg _ (by decide)]; omega
  rw [e]
  generalize hk : (b + 1) / 2 = k
  have h2 : 2 ^ b ≤ 2 ^ k * 2 ^ k := by rw [← Nat.pow_add]; exact Nat.pow_le_pow_right (by decide) (by omega)
  have h3 : n < ((2 ^ k * 2 ^ k : Nat) : Int) := by omega
  have h4 : ((2 ^ k * 2 ^ k : Nat) : Int) = (2 ^ k : Int) * 2 ^ k := by push_cast; rfl
  rw [h4] at h3
  have h5 : (0 : Int) ≤ 2 ^ k := Int.pow_nonneg (by decide)
  generalize (2 ^ k : Int) = z at *
  have : (1 * z + 1) * (1 * z + 1) = z * z + 2 * z + 1 := by grind
  omega
theorem Hi {n : Int} (h : Bt 4000 n) : La 1 ((((Builtin.Int.intBits n : Nat) : Int) + 1).fdiv 2) ∧ Bt 2001 (1 * 2 ^ ((((Builtin.Int.intBits n : Nat) : Int) + 1).fdiv 2).toNat) ∧ 0 < (1 * 2 ^ ((((Builtin.Int.intBits n : Nat) : Int) + 1).fdiv 2).toNat : Int) := by
  have hb : Builtin.Int.intBits n ≤ 4000 := intBits_le_iff.mpr h
  generalize Builtin.Int.intBits n = b at *
  rw [Int.fdiv_eq_ediv_of_nonneg _ (by decide)]
  refine ⟨⟨by omega, by omega, by decide⟩, ?_, ?_⟩
  · have e : (((b : Int) + 1) / 2).toNat ≤ 2000 := by omega
    generalize (((b : Int) + 1) / 2).toNat = k at *
    unfold Bt
    rw [Int.one_mul, Int.natAbs_pow]
    exact Nat.pow_lt_pow_right (by decide) (by omega)
  · rw [Int.one_mul]
    exact Int.pow_pos (by decide)
theorem Jg {n g : Int} (hg : 0 < g) : (g + n.fdiv g).fdiv 2 = (g + n / g) / 2 := by
  rw [Int.fdiv_eq_ediv_of_nonneg _ (by decide), Int.fdiv_eq_ediv_of_nonneg _ (by omega)]
noncomputable def DN (n : Int) : Prop := ∃ r : Int, r * r = n
theorem Fl {n r : Int} (h : Sq n r) : DN n ↔ r * r = n := by
  refine ⟨fun ⟨s, e⟩ => ?_, fun e => ⟨r, e⟩⟩
  have hs : Sq n (s.natAbs : Int) := by
    have e2 : (s.natAbs : Int) * (s.natAbs : Int) = n := (Int.natAbs_mul_self' s).trans e
    refine ⟨by omega, by omega, ?_⟩
    have : ((s.natAbs : Int) + 1) * ((s.natAbs : Int) + 1) = (s.natAbs : Int) * (s.natAbs : Int) + 2 * (s.natAbs : Int) + 1 := by grind
    omega
  rw [h.uniq hs]
  exact (Int.natAbs_mul_self' s).trans e
theorem Qk {n : Int} (h : n < 0) : ¬ DN n := fun ⟨r, e⟩ => by
  have : 0 ≤ r * r := by
    rcases Int.le_total 0 r with h | h
    · exact Int.mul_nonneg h h
    · exact Int.mul_nonneg_of_nonpos_of_nonpos h h
  omega
noncomputable abbrev JK : DSp := spec (fun n : Int => [.int n]) (fun n => 0 ≤ n ∧ Bt 4000 n) fun n d => ∃ r, d = .int r ∧ Sq n r ∧ Bt 2001 r
noncomputable abbrev Gd : DSp := spec (fun n : Int => [.int n]) (fun n => Bt 4000 n) fun n d => ∃ b : Bool, d = .bl b ∧ (b = true ↔ DN n)
noncomputable def g3 (f : I3) : Nat := Int.gcd ((Int.gcd f.1 f.2.1 : Nat) : Int) f.2.2
inductive O7 (f : I3) : Dt → Prop
  | flat : DN (meas f) → O7 f (.str "flat")
  | saddle : ¬ DN (meas f) → 0 < meas f → O7 f (.str "saddle")
  | bowl : ¬ DN (meas f) → ¬ 0 < meas f → 0 < f.1 → O7 f (.str "bowl")
  | dome : ¬ DN (meas f) → ¬ 0 < meas f → ¬ 0 < f.1 → O7 f (.str "dome")
theorem Y5 (ns : List Int) (lo hi : Option Int) : ∃ cs : List Int, cutD (ns.map Dt.int) lo hi = cs.map Dt.int ∧ cs.length ≤ ns.length := by
  refine ⟨(ns.drop (HT.sIx (ns.map Dt.int).length 0 lo)).take (HT.sIx (ns.map Dt.int).length (ns.map Dt.int).length hi - HT.sIx (ns.map Dt.int).length 0 lo), by unfold cutD; rw [List.map_take, List.map_drop], ?_⟩
  rw [List.length_take, List.length_drop]; omega
theorem Di (x : Int) {m : Int} (h : 0 < m) : 0 ≤ x.fmod m ∧ x.fmod m < m := ⟨Int.fmod_nonneg_of_pos x h, Int.fmod_lt_of_pos x h⟩
theorem Rh (ns : List Int) (lo hi : Option Int) : ∃ cs : List Int, cutD (ns.map Dt.int) lo hi = cs.map Dt.int ∧ cs.length ≤ ns.length ∧ ∀ n ∈ cs, n ∈ ns := by
  refine ⟨(ns.drop (HT.sIx (ns.map Dt.int).length 0 lo)).take (HT.sIx (ns.map Dt.int).length (ns.map Dt.int).length hi - HT.sIx (ns.map Dt.int).length 0 lo), by unfold cutD; rw [List.map_take, List.map_drop], ?_, fun n h => List.mem_of_mem_drop (List.mem_of_mem_take h)⟩
  rw [List.length_take, List.length_drop]; omega
theorem M8 {n : Nat} {x : Int} (h : Bt n x) : Bt n (x.fdiv 4) := by
  rw [Int.fdiv_eq_ediv_of_nonneg _ (by decide)]
  unfold Bt at *; omega
end My
namespace My
open PySem L2
noncomputable def stands (f : I3) : Bool := decide (-f.1 ≤ f.2.1 ∧ f.2.1 ≤ f.1 ∧ f.1 ≤ f.2.2) && (decide (0 ≤ f.2.1) || (decide (f.2.1 ≠ -f.1) && decide (f.1 ≠ f.2.2)))
end My
namespace My
open PySem L2
structure Sad (f : I3) : Prop where
  no : ¬ DN (meas f)
  pos : 0 < meas f
  most : meas f ≤ 4000
noncomputable def Level (f : I3) (far : Int) : Prop := (0 < f.2.1 ∧ f.2.1 ≤ far) ∧ far - f.2.1 < 2 * (if f.1 < 0 then -f.1 else f.1) ∧ 2 * (if f.1 < 0 then -f.1 else f.1) ≤ far + f.2.1
instance {f : I3} {far : Int} : Decidable (Level f far) := by unfold Level; infer_instance
end My
namespace My
open PySem L2
noncomputable abbrev ab (x : Int) : Int := if x < 0 then -x else x
end My
namespace My
open PySem L2
noncomputable abbrev bl (x : Int) : Nat := Builtin.Int.intBits x
end My
namespace My
open PySem L2
noncomputable abbrev tR : I4 := (1, 1, 0, 1)
noncomputable abbrev tL : I4 := (1, 0, 1, 1)
noncomputable def sm (f : I3) : Int := f.1 + f.2.1 + f.2.2
noncomputable def stT (f : I3) : I4 := if sm f < 0 then tR else tL
noncomputable def nx (f : I3) : I3 := mov f (stT f)
noncomputable def sz (t : I4) : Nat := (t.1 + t.2.1 + t.2.2.1 + t.2.2.2).toNat
end My
namespace My
open PySem L2
end My
namespace My
open PySem L2
end My
namespace My
open PySem L2
noncomputable def tr (t : I4) : Int := t.1 + t.2.2.2
noncomputable def pl (f : I3) : I3 := (f.1 / (g3 f : Int), f.2.1 / (g3 f : Int), f.2.2 / (g3 f : Int))
end My
namespace My
open PySem L2
end My
namespace My
open PySem L2
local macro_rules | `(tactic| walk_at "sc") => `(tactic| (exact ⟨rfl, rfl, rfl, by decide +kernel, rfl, by decide +kernel, by decide +kernel⟩))
local macro_rules | `(tactic| walk_at "lE") => `(tactic| (exact fun ds Q ⟨p, e, _⟩ => by rw [e]; rfl))
local macro_rules | `(tactic| walk_at "b1") => `(tactic| (intro _ _ _ _ _ _ us hl; exact match us, hl with | [_], _ => rfl))
local macro_rules | `(tactic| walk_at "b2") => `(tactic| (intro _ _ _ _ _ _ us hl; exact match us, hl with | [_, _], _ => rfl))
local macro_rules | `(tactic| walk_at "b3") => `(tactic| (intro _ _ _ _ _ _ us hl; exact match us, hl with | [_, _, _], _ => rfl))
local macro_rules | `(tactic| walk_at "rd1") => `(tactic| dsimp only [Yi, YT, HY, Ua, dIf, Pn, Yx, AaR, K3, Aat, Yt, Aap, AaQ, Vt, AaP, ZF, Aaq, dIn, dOp, dUn, SQ, dC, dIx, AbZ, AcS, Acj, AcH, Acv, AbC, Acz, AcW, Zi, Aak, ZX, Ye, Z7, AaB, AaS, Abf, dI, dI0, dB0, dLt, dLe, dGt, dGe, dEq, dNe, dIs, Yo, ZC, dOr, QT, JH, U8, U4, X4, Abl, YM, UG, dTup, Y8, dCall, dCB, Qe, Nx, Abu, Aa9, Yg, AaF, WD, Sd, U6, Hw, Ry, X7, inner, Ub, Xy, Xd, Xg, Xm, Ue, dOf, Tw, LQ, Tv, W6, Ou, Nf, T6, Aax, Qd, TF, AaK, Qg, Od, AaT, GR, Nj, J2, Zu, Tp, TY, AbF, Ab0, AaN, Yy, Abp, AaC, ownAt, Yw, Wx, W9, V2, Vl, Wv, Um, PL, Oi,
  List.length_cons, List.length_nil, List.getElem?_cons_zero, List.getElem?_cons_succ, List.set_cons_zero, List.set_cons_succ, Nat.reduceAdd, List.map_cons, List.map_nil, Option.join_some])
local macro_rules | `(tactic| walk_at "rd2") => `(tactic| simp only [ZQ, Z5, ZV, Aay, Wk, Yu, AaG, Aad, ZJ, Yr, Aae, AbJ, AcG, AcM, AaW, Ab9, AcD, Wn, V3, Vj, Wd, V4, Xa, Vq, Xp, Vs, Wa, Ig, Aaw, Ko, AaD, Yn, Y0, X8, Lj, Aau, Jr, Jz, Xh, WK, Ec, Wc, Xi, Gk, Qv, Rf, Qy, R6, Gz, Gq, if_true, if_false, Bool.and_true, Bool.true_and, Bool.false_and, Bool.and_false, Bool.not_true, Bool.not_false, Bool.false_eq_true, true_and, and_true, ite_true, ite_false, List.length_map])
local macro_rules | `(tactic| walk_at "rd") => `(tactic| ((try walk_at "rd1"); (try walk_at "rd2")))
local macro_rules | `(tactic| walk_at "go") => `(tactic| ((try simp only [Nt, O8, N8]); walk_at "rd"))
local macro_rules | `(tactic| walk_at "bts") => `(tactic| first | assumption | (with_reducible apply Bt.mul <;> walk_at "bts") | (with_reducible apply Bt.add <;> walk_at "bts") | (with_reducible apply Bt.sub <;> walk_at "bts") | (with_reducible apply Bt.neg <;> walk_at "bts") | exact Bt.of_abs (n := 1) (by decide) | exact Bt.of_abs (n := 8) (by decide) | exact Bt.of_abs (n := 400) (by decide))
local macro_rules | `(tactic| walk_at "bt") => `(tactic| exact Bt.le (by walk_at "bts") (by decide))
local macro_rules | `(tactic| walk_at "mul") => `(tactic| exact Bt.mulOk (by walk_at "bts") (by walk_at "bts") (by decide) (by decide))
local macro_rules | `(tactic| walk_at "muls") => `(tactic| repeat (refine ⟨by first | walk_at "mul" | exact Bo (by decide) | decide | exact ⟨by decide, by decide⟩, ?_⟩))
noncomputable def top (i : Nat) : Stmt := PySem.Challenge.pw_formcycle_k29_no_saddle.main.body.getD i (.Pass ⟨0, 0, 0, 0⟩)
noncomputable abbrev FZ : Stmt := top 15
theorem Gv : Al ["number", "guess", "better"] ["number"] (Ac FZ) := by walk_at "sc"
noncomputable abbrev Cr : Stmt := top 16
theorem Gy : Al ["number", "side"] ["number"] (Ac Cr) := by walk_at "sc"
noncomputable abbrev Bu : Stmt := top 17
theorem GZ : Al ["number", "most"] ["number", "most"] (Ac Bu) := by walk_at "sc"
noncomputable abbrev Cu : Stmt := top 25
theorem Lb : Al ["form"] ["form"] (Ac Cu) := by walk_at "sc"
noncomputable abbrev Fw : Stmt := top 30
theorem Kd : Al ["form", "number"] ["form"] (Ac Fw) := by walk_at "sc"
noncomputable abbrev Ao : Stmt := top 33
theorem Hj : Al ["form"] ["form"] (Ac Ao) := by walk_at "sc"
noncomputable abbrev BR : Stmt := top 34
theorem JN : Al ["form"] ["form"] (Ac BR) := by walk_at "sc"
noncomputable abbrev BL : Stmt := top 35
theorem Ey : Al ["form", "far", "b"] ["form", "far"] (Ac BL) := by walk_at "sc"
noncomputable abbrev Fv : Stmt := top 36
theorem Ng : Al ["form", "far"] ["form"] (Ac Fv) := by walk_at "sc"
noncomputable abbrev Fy : Stmt := top 39
theorem PB : Al ["form", "far", "stop"] ["form"] (Ac Fy) := by walk_at "sc"
noncomputable abbrev Dc : Stmt := top 41
theorem JT : Al ["form", "forms", "place"] ["form"] (Ac Dc) := by walk_at "sc"
noncomputable abbrev Dn : Stmt := top 42
theorem KN : Al ["form", "common", "plain", "pair", "t", "u"] ["form"] (Ac Dn) := by walk_at "sc"
noncomputable abbrev Dg : Stmt := top 44
theorem J3 : Al ["form", "turn", "sign", "count"] ["form", "turn"] (Ac Dg) := by walk_at "sc"
noncomputable abbrev CK : Stmt := top 47
theorem Iz : Al ["_law_script", "_law_k"] ["_law_script", "_law_k"] (Ac CK) := by walk_at "sc"
noncomputable abbrev CZ : Stmt := top 48
theorem J6 : Al ["_law_form_here"] ["_law_form_here"] (Ac CZ) := by walk_at "sc"
noncomputable abbrev CJ : Stmt := top 49
theorem El : Al ["_law_number_here", "_law_near"] ["_law_number_here"] (Ac CJ) := by walk_at "sc"
noncomputable abbrev BW : Stmt := top 50
theorem Dz : Al ["_law_cell_here", "_law_kind"] ["_law_cell_here"] (Ac BW) := by walk_at "sc"
noncomputable abbrev Cy : Stmt := top 51
theorem CT : Al ["_law_cells", "_law_m", "_law_n", "_law_k", "_law_g"] ["_law_cells"] (Ac Cy) := by walk_at "sc"
noncomputable abbrev CW : Stmt := top 52
theorem Kf : Al ["_law_way", "_law_form_here"] ["_law_way", "_law_form_here"] (Ac CW) := by walk_at "sc"
noncomputable abbrev BX : Stmt := top 53
theorem Dm : Al ["_law_way", "_law_form_here", "_law_told_here", "e"] ["_law_way", "_law_form_here"] (Ac BX) := by walk_at "sc"
noncomputable abbrev BK : Stmt := top 54
theorem HJ : Al ["_law_told_here"] ["_law_told_here"] (Ac BK) := by walk_at "sc"
noncomputable abbrev Bs : Stmt := top 55
theorem Ed : Al ["_law_way", "_law_form_here", "_law_told_here"] ["_law_way", "_law_form_here"] (Ac Bs) := by walk_at "sc"
noncomputable abbrev Bk : Stmt := top 56
theorem DR : Al ["_law_way", "_law_form_here", "_law_most", "_law_told_here"] ["_law_way", "_law_form_here", "_law_most"] (Ac Bk) := by walk_at "sc"
noncomputable abbrev Cq : Stmt := top 57
theorem Dl : Al ["_law_number_here", "_law_made_here", "_law_form_here", "_law_turn"] ["_law_number_here"] (Ac Cq) := by walk_at "sc"
noncomputable abbrev Gf : Stmt := top 58
theorem Dk : Al ["_law_script", "_law_form_here", "_law_bar_here", "_law_saddle", "_law_b", "_law_wide", "_law_most", "_law_cell_here", "_law_found"] ["_law_script"] (Ac Gf) := by walk_at "sc"
noncomputable abbrev Df : Stmt := inClass (top 3) 0
theorem Kl : Al ["self", "form"] ["self", "form"] (Ac Df) := by walk_at "sc"
noncomputable abbrev Cm : Stmt := inClass (top 4) 0
theorem Jm : Al ["self", "number", "most"] ["self", "number", "most"] (Ac Cm) := by walk_at "sc"
noncomputable abbrev Dq : Stmt := inClass (top 5) 0
theorem KJ : Al ["self", "number"] ["self", "number"] (Ac Dq) := by walk_at "sc"
noncomputable abbrev Cp : Stmt := inClass (top 6) 0
theorem Jq : Al ["self", "form"] ["self", "form"] (Ac Cp) := by walk_at "sc"
noncomputable abbrev CG : Stmt := inClass (top 9) 0
theorem JM : Al ["self", "form"] ["self", "form"] (Ac CG) := by walk_at "sc"
noncomputable abbrev Dp : Stmt := inClass (top 2) 0
theorem KQ : Al ["self", "turn"] ["self", "turn"] (Ac Dp) := by walk_at "sc"
noncomputable abbrev Dr : Stmt := inClass (top 7) 0
theorem KZ : Al ["self", "turn"] ["self", "turn"] (Ac Dr) := by walk_at "sc"
noncomputable abbrev Cg : Stmt := inClass (top 10) 0
theorem Ia : Al ["self", "number"] ["self", "number"] (Ac Cg) := by walk_at "sc"
noncomputable abbrev Cw : Stmt := inClass (top 12) 0
theorem Jy : Al ["self", "point"] ["self", "point"] (Ac Cw) := by walk_at "sc"
structure Txt (K : PySem.W.Frag) (mg : Str → Option Value) : Prop where
  xt_Apart : ∃ C U, XT K mg "Apart" C (.ref U :: bmV) ∧ XC K C U
  xt_Nought : ∃ C U, XT K mg "Nought" C (.ref U :: bmV) ∧ XC K C U
  xf_FormError : ∃ U, XT K mg "FormError" U bmV ∧ PySem.W.mroIn K U (.type "ValueError") = some true
  x_NoShape : ∃ C U fI fd, XRT K mg "NoShape" ["form"] "NoShape.__init__" Df C U fI fd ["self", "form"]
  un_NoShape_FormError : Under K mg "NoShape" "FormError"
  nf_NoShape_form : CV K "NoShape" "form"
  x_TooGreat : ∃ C U fI fd, XRT K mg "TooGreat" ["number", "most"] "TooGreat.__init__" Cm C U fI fd ["self", "number", "most"]
  un_TooGreat_FormError : Under K mg "TooGreat" "FormError"
  nf_TooGreat_number : CV K "TooGreat" "number"
  nf_TooGreat_most : CV K "TooGreat" "most"
  x_NoRoot : ∃ C U fI fd, XRT K mg "NoRoot" ["number"] "NoRoot.__init__" Dq C U fI fd ["self", "number"]
  nf_NoRoot_number : CV K "NoRoot" "number"
  x_NotLevel : ∃ C U fI fd, XRT K mg "NotLevel" ["form"] "NotLevel.__init__" Cp C U fI fd ["self", "form"]
  nf_NotLevel_form : CV K "NotLevel" "form"
  x_NotPlain : ∃ C U fI fd, XRT K mg "NotPlain" ["form"] "NotPlain.__init__" CG C U fI fd ["self", "form"]
  nf_NotPlain_form : CV K "NotPlain" "form"
  x_NoTurn : ∃ C U fI fd, XRT K mg "NoTurn" ["turn"] "NoTurn.__init__" Dp C U fI fd ["self", "turn"]
  nf_NoTurn_turn : CV K "NoTurn" "turn"
  x_NotOwn : ∃ C U fI fd, XRT K mg "NotOwn" ["turn"] "NotOwn.__init__" Dr C U fI fd ["self", "turn"]
  nf_NotOwn_turn : CV K "NotOwn" "turn"
  x_NoMeasure : ∃ C U fI fd, XRT K mg "NoMeasure" ["number"] "NoMeasure.__init__" Cg C U fI fd ["self", "number"]
  nf_NoMeasure_number : CV K "NoMeasure" "number"
  x_NoAnswer : ∃ C U fI fd, XRT K mg "NoAnswer" ["point"] "NoAnswer.__init__" Cw C U fI fd ["self", "point"]
  nf_NoAnswer_point : CV K "NoAnswer" "point"
  u_FormError : ∃ U, XU K mg "FormError" U
  c_Apart : ∃ A, mg "Apart" = some (.ref A) ∧ Ay K "NoShape" A false ∧ Ay K "TooGreat" A false
  c_NoAnswer : ∃ A, mg "NoAnswer" = some (.ref A) ∧ Ay K "NoShape" A false ∧ Ay K "TooGreat" A false
  c_NoMeasure : ∃ A, mg "NoMeasure" = some (.ref A) ∧ Ay K "NoShape" A false ∧ Ay K "TooGreat" A false
  c_NoRoot : ∃ A, mg "NoRoot" = some (.ref A) ∧ Ay K "NoShape" A false ∧ Ay K "TooGreat" A false
  c_NoTurn : ∃ A, mg "NoTurn" = some (.ref A) ∧ Ay K "NoShape" A false ∧ Ay K "TooGreat" A false
  c_NotLevel : ∃ A, mg "NotLevel" = some (.ref A) ∧ Ay K "NoShape" A false ∧ Ay K "TooGreat" A false
  c_NotOwn : ∃ A, mg "NotOwn" = some (.ref A) ∧ Ay K "NoShape" A false ∧ Ay K "TooGreat" A false
  c_NotPlain : ∃ A, mg "NotPlain" = some (.ref A) ∧ Ay K "NoShape" A false ∧ Ay K "TooGreat" A false
  c_Nought : ∃ A, mg "Nought" = some (.ref A) ∧ Ay K "NoShape" A false ∧ Ay K "TooGreat" A false
  c_NoShape : ∃ A, mg "NoShape" = some (.ref A) ∧ Ay K "NoShape" A true ∧ Ay K "TooGreat" A false
  c_TooGreat : ∃ A, mg "TooGreat" = some (.ref A) ∧ Ay K "NoShape" A false ∧ Ay K "TooGreat" A true
  c_FormError : ∃ A, mg "FormError" = some (.ref A) ∧ Ay K "NoShape" A true ∧ Ay K "TooGreat" A true ∧ Ay K "Apart" A true ∧ Ay K "Nought" A true
  z_ValueError : mg "ValueError" = none
  t_root : ∃ f fd, FnT K mg "root" FZ ["number"] f fd
  t_is_square : ∃ f fd, FnT K mg "is_square" Cr ["number"] f fd
  t_check_at_most : ∃ f fd, FnT K mg "check_at_most" Bu ["number", "most"] f fd
  t_measure : ∃ f fd, FnT K mg "measure" Cu ["form"] f fd
  t_shape : ∃ f fd, FnT K mg "shape" Fw ["form"] f fd
  t_check_saddle : ∃ f fd, FnT K mg "check_saddle" Ao ["form"] f fd
  t_is_level : ∃ f fd, FnT K mg "is_level" BR ["form"] f fd
  t_stands_level : ∃ f fd, FnT K mg "stands_level" BL ["form", "far"] f fd
  t_after : ∃ f fd, FnT K mg "after" Fv ["form"] f fd
  t_eased : ∃ f fd, FnT K mg "eased" Fy ["form"] f fd
  t_round_of : ∃ f fd, FnT K mg "round_of" Dc ["form"] f fd
  t_step_of : ∃ f fd, FnT K mg "step_of" Dn ["form"] f fd
  t_power_of : ∃ f fd, FnT K mg "power_of" Dg ["form", "turn"] f fd
  t__law_cell : ∃ f fd, FnT K mg "_law_cell" CK ["_law_script", "_law_k"] f fd
  t__law_bar : ∃ f fd, FnT K mg "_law_bar" CZ ["_law_form_here"] f fd
  t__law_root : ∃ f fd, FnT K mg "_law_root" CJ ["_law_number_here"] f fd
  t__law_number : ∃ f fd, FnT K mg "_law_number" BW ["_law_cell_here"] f fd
  t__law_form : ∃ f fd, FnT K mg "_law_form" Cy ["_law_cells"] f fd
  t__law_ask : ∃ f fd, FnT K mg "_law_ask" CW ["_law_way", "_law_form_here"] f fd
  t__law_told : ∃ f fd, FnT K mg "_law_told" BX ["_law_way", "_law_form_here"] f fd
  t__law_others : ∃ f fd, FnT K mg "_law_others" BK ["_law_told_here"] f fd
  t__law_no_shape : ∃ f fd, FnT K mg "_law_no_shape" Bs ["_law_way", "_law_form_here"] f fd
  t__law_too_great : ∃ f fd, FnT K mg "_law_too_great" Bk ["_law_way", "_law_form_here", "_law_most"] f fd
  t__law_made : ∃ f fd, FnT K mg "_law_made" Cq ["_law_number_here"] f fd
  t_law : ∃ f fd, FnT K mg "law" Gf ["_law_script"] f fd
  m_MOST_MEASURE : ∃ t, mg "MOST_MEASURE" = some (.int (4000) t)
  z_abs : mg "abs" = none
  z_bool : mg "bool" = none
  z_isinstance : mg "isinstance" = none
  z_len : mg "len" = none
  z_max : mg "max" = none
  z_min : mg "min" = none
  k_SAME : ∃ a, mg "SAME" = some (.ref a) ∧ ∀ H, Rp K H (.tup [.int (1), .int (0), .int (0), .int (1)]) (.ref a)
theorem Ih {P : Program} {w : World} {K : PySem.W.Frag} {mg : Str → Option Value} {base : Heap} (T : Txt K mg) : ∃ C U fI fd, XR P w K mg base 1 "NoShape" ["form"] C U fI fd ["self", "form"] := by
  obtain ⟨C, U, fI, fd, R⟩ := T.x_NoShape
  refine ⟨C, U, fI, fd, XRT.mk1 R (R.fn.ok Kl (fun vs H Q E ⟨a, ys, e, l, _⟩ => by rw [e]; simpa using l) fun cdv A outer s H vs Q E hr ⟨a, ys, e, l, ha, q⟩ => ?_)⟩
  subst e
  obtain ⟨y, rfl⟩ : ∃ y, ys = [y] := List.length_eq_one_iff.mp l
  exact ⟨_, CN (Gp R.xc (R.tk _ (by simp)) (pv 0) (pv 1)), y, rfl, .ref a, rfl, a, rfl, ha, fun dx h1 h2 => q dx h1 h2⟩
theorem Hv {P : Program} {w : World} {K : PySem.W.Frag} {mg : Str → Option Value} {base : Heap} (T : Txt K mg) : ∃ C U fI fd, XR P w K mg base 1 "TooGreat" ["number", "most"] C U fI fd ["self", "number", "most"] := by
  obtain ⟨C, U, fI, fd, R⟩ := T.x_TooGreat
  refine ⟨C, U, fI, fd, XRT.mk1 R (R.fn.ok Jm (fun vs H Q E ⟨a, ys, e, l, _⟩ => by rw [e]; simpa using l) fun cdv A outer s H vs Q E hr ⟨a, ys, e, l, ha, q⟩ => ?_)⟩
  subst e
  match ys, l with
  | [y, z], _ => exact ⟨_, Ht (Gp R.xc (R.tk _ (by simp)) (pv 0) (pv 1)) (CN (Yk R.xc (R.tk _ (by simp)) (pv 0) (pv 2))), y, rfl, .ref a, rfl, a, rfl, ha, fun dx h1 h2 => ⟨z, rfl, .ref a, rfl, a, dx, _, rfl, Am, (by rw [Ag h2, Am]), (by show 1 ≤ 1000; decide), rfl, by rw [OJ h2]; exact q dx h1 h2⟩⟩
theorem Nu {P : Program} {w : World} {K : PySem.W.Frag} {mg : Str → Option Value} {base : Heap} (T : Txt K mg) : ∃ C U fI fd, XR P w K mg base 1 "NoRoot" ["number"] C U fI fd ["self", "number"] := by
  obtain ⟨C, U, fI, fd, R⟩ := T.x_NoRoot
  refine ⟨C, U, fI, fd, XRT.mk1 R (R.fn.ok KJ (fun vs H Q E ⟨a, ys, e, l, _⟩ => by rw [e]; simpa using l) fun cdv A outer s H vs Q E hr ⟨a, ys, e, l, ha, q⟩ => ?_)⟩
  subst e
  obtain ⟨y, rfl⟩ : ∃ y, ys = [y] := List.length_eq_one_iff.mp l
  exact ⟨_, CN (Gp R.xc (R.tk _ (by simp)) (pv 0) (pv 1)), y, rfl, .ref a, rfl, a, rfl, ha, fun dx h1 h2 => q dx h1 h2⟩
theorem KR {P : Program} {w : World} {K : PySem.W.Frag} {mg : Str → Option Value} {base : Heap} (T : Txt K mg) : ∃ C U fI fd, XR P w K mg base 1 "NotLevel" ["form"] C U fI fd ["self", "form"] := by
  obtain ⟨C, U, fI, fd, R⟩ := T.x_NotLevel
  refine ⟨C, U, fI, fd, XRT.mk1 R (R.fn.ok Jq (fun vs H Q E ⟨a, ys, e, l, _⟩ => by rw [e]; simpa using l) fun cdv A outer s H vs Q E hr ⟨a, ys, e, l, ha, q⟩ => ?_)⟩
  subst e
  obtain ⟨y, rfl⟩ : ∃ y, ys = [y] := List.length_eq_one_iff.mp l
  exact ⟨_, CN (Gp R.xc (R.tk _ (by simp)) (pv 0) (pv 1)), y, rfl, .ref a, rfl, a, rfl, ha, fun dx h1 h2 => q dx h1 h2⟩
theorem Kz {P : Program} {w : World} {K : PySem.W.Frag} {mg : Str → Option Value} {base : Heap} (T : Txt K mg) : ∃ C U fI fd, XR P w K mg base 1 "NotPlain" ["form"] C U fI fd ["self", "form"] := by
  obtain ⟨C, U, fI, fd, R⟩ := T.x_NotPlain
  refine ⟨C, U, fI, fd, XRT.mk1 R (R.fn.ok JM (fun vs H Q E ⟨a, ys, e, l, _⟩ => by rw [e]; simpa using l) fun cdv A outer s H vs Q E hr ⟨a, ys, e, l, ha, q⟩ => ?_)⟩
  subst e
  obtain ⟨y, rfl⟩ : ∃ y, ys = [y] := List.length_eq_one_iff.mp l
  exact ⟨_, CN (Gp R.xc (R.tk _ (by simp)) (pv 0) (pv 1)), y, rfl, .ref a, rfl, a, rfl, ha, fun dx h1 h2 => q dx h1 h2⟩
theorem Oc {P : Program} {w : World} {K : PySem.W.Frag} {mg : Str → Option Value} {base : Heap} (T : Txt K mg) : ∃ C U fI fd, XR P w K mg base 1 "NoTurn" ["turn"] C U fI fd ["self", "turn"] := by
  obtain ⟨C, U, fI, fd, R⟩ := T.x_NoTurn
  refine ⟨C, U, fI, fd, XRT.mk1 R (R.fn.ok KQ (fun vs H Q E ⟨a, ys, e, l, _⟩ => by rw [e]; simpa using l) fun cdv A outer s H vs Q E hr ⟨a, ys, e, l, ha, q⟩ => ?_)⟩
  subst e
  obtain ⟨y, rfl⟩ : ∃ y, ys = [y] := List.length_eq_one_iff.mp l
  exact ⟨_, CN (Gp R.xc (R.tk _ (by simp)) (pv 0) (pv 1)), y, rfl, .ref a, rfl, a, rfl, ha, fun dx h1 h2 => q dx h1 h2⟩
theorem O3 {P : Program} {w : World} {K : PySem.W.Frag} {mg : Str → Option Value} {base : Heap} (T : Txt K mg) : ∃ C U fI fd, XR P w K mg base 1 "NotOwn" ["turn"] C U fI fd ["self", "turn"] := by
  obtain ⟨C, U, fI, fd, R⟩ := T.x_NotOwn
  refine ⟨C, U, fI, fd, XRT.mk1 R (R.fn.ok KZ (fun vs H Q E ⟨a, ys, e, l, _⟩ => by rw [e]; simpa using l) fun cdv A outer s H vs Q E hr ⟨a, ys, e, l, ha, q⟩ => ?_)⟩
  subst e
  obtain ⟨y, rfl⟩ : ∃ y, ys = [y] := List.length_eq_one_iff.mp l
  exact ⟨_, CN (Gp R.xc (R.tk _ (by simp)) (pv 0) (pv 1)), y, rfl, .ref a, rfl, a, rfl, ha, fun dx h1 h2 => q dx h1 h2⟩
theorem JR {P : Program} {w : World} {K : PySem.W.Frag} {mg : Str → Option Value} {base : Heap} (T : Txt K mg) : ∃ C U fI fd, XR P w K mg base 1 "NoMeasure" ["number"] C U fI fd ["self", "number"] := by
  obtain ⟨C, U, fI, fd, R⟩ := T.x_NoMeasure
  refine ⟨C, U, fI, fd, XRT.mk1 R (R.fn.ok Ia (fun vs H Q E ⟨a, ys, e, l, _⟩ => by rw [e]; simpa using l) fun cdv A outer s H vs Q E hr ⟨a, ys, e, l, ha, q⟩ => ?_)⟩
  subst e
  obtain ⟨y, rfl⟩ : ∃ y, ys = [y] := List.length_eq_one_iff.mp l
  exact ⟨_, CN (Gp R.xc (R.tk _ (by simp)) (pv 0) (pv 1)), y, rfl, .ref a, rfl, a, rfl, ha, fun dx h1 h2 => q dx h1 h2⟩
theorem K9 {P : Program} {w : World} {K : PySem.W.Frag} {mg : Str → Option Value} {base : Heap} (T : Txt K mg) : ∃ C U fI fd, XR P w K mg base 1 "NoAnswer" ["point"] C U fI fd ["self", "point"] := by
  obtain ⟨C, U, fI, fd, R⟩ := T.x_NoAnswer
  refine ⟨C, U, fI, fd, XRT.mk1 R (R.fn.ok Jy (fun vs H Q E ⟨a, ys, e, l, _⟩ => by rw [e]; simpa using l) fun cdv A outer s H vs Q E hr ⟨a, ys, e, l, ha, q⟩ => ?_)⟩
  subst e
  obtain ⟨y, rfl⟩ : ∃ y, ys = [y] := List.length_eq_one_iff.mp l
  exact ⟨_, CN (Gp R.xc (R.tk _ (by simp)) (pv 0) (pv 1)), y, rfl, .ref a, rfl, a, rfl, ha, fun dx h1 h2 => q dx h1 h2⟩
section
variable (P : Program) (w : World) {K : PySem.W.Frag} {mg : Str → Option Value} (base : Heap)
theorem Rt (T : Txt K mg)
    : Pm P w K mg base 1 "root" FZ ["number"] JK := by
  obtain ⟨f, fd, F⟩ := T.t_root
  refine ⟨f, fd, F, F.fn.okD Gv (by walk_at "lE") fun cdv A outer s H E hr => ⟨_, (Ae (Cv (Lx (dv 0) Ab) (Ai Aq) Bh) (Ae (Cv (Gw hr.units (dv 0) Ab) (Ai (Ar Ab)) Bh) (Ae (Aw 1 Gv.nd (PN Ab (Dd (Eb (Ly (dv 0)) Ab) Ab))) (Ae (Aw 2 Gv.nd (Dd (Eb (dv 1) (Dd (dv 0) (dv 1))) Ab)) (Ae (Kq PassesOwn.never (Lx (dv 2) (dv 1)) (Ae (Aw 1 Gv.nd (dv 2)) (Ai (Aw 2 Gv.nd (Dd (Eb (dv 1) (Dd (dv 0) (dv 1))) Ab))))) (Ai (Ar (dv 1)))))))), fun ds Q h => ?_⟩⟩
  obtain ⟨n, rfl, ⟨h0, hb⟩, q⟩ := h
  walk_at "go"
  refine Cj (decide_eq_false (by omega)) ?_
  by_cases hz : n = 0
  · subst hz
    exact ift rfl (q _ ⟨0, rfl, ⟨by omega, by omega, by omega⟩, Bt.zero.le (by decide)⟩)
  refine Cj (decide_eq_false hz) ?_
  obtain ⟨c1, c2, c3⟩ := Hi hb
  have hu := Km h0
  refine ⟨⟨by decide, by decide⟩, c1, ?_⟩
  generalize (1 * 2 ^ ((((Builtin.Int.intBits n : Nat) : Int) + 1).fdiv 2).toNat : Int) = g at *
  refine ⟨Bt.divOk c2 (by omega), ⟨by decide, by decide⟩, ?_⟩
  rw [Jg c3]
  refine Kv (fun m ρ => ∃ g : Int, ρ = [some (.is (.int n)), some (.is (.int g)), some (.is (.int ((g + n / g) / 2)))] ∧ 0 < g ∧ Bt 2001 g ∧ n < (g + 1) * (g + 1) ∧ m = g.toNat) _ ⟨g, rfl, c3, c2, hu, rfl⟩ ?_
  rintro m _ ⟨g, rfl, hg, hgb, hgu, rfl⟩
  walk_at "rd"
  refine Hl (fun hw => ?_) (fun hw => ?_)
  · have hw := of_decide_eq_true hw
    have hp := KC (show 1 ≤ n by omega) hg
    have hu' := Iu h0 hg
    have hbb : Bt 2001 ((g + n / g) / 2) := by unfold Bt at *; omega
    generalize (g + n / g) / 2 = b at *
    refine ⟨Bt.divOk hbb (by omega), ⟨by decide, by decide⟩, ?_⟩
    rw [Jg hp]
    exact ⟨_, by omega, b, rfl, hp, hbb, hu', rfl⟩
  · have hw : ¬ (g + n / g) / 2 < g := fun z => hw (decide_eq_true z)
    exact q _ ⟨g, rfl, ⟨by omega, K5 hg (by omega), hgu⟩, hgb⟩
theorem JC (T : Txt K mg)
    (G_root : Pm P w K mg base 1 "root" FZ ["number"] JK)
    : Pm P w K mg base 2 "is_square" Cr ["number"] Gd := by
  obtain ⟨f, fd, F⟩ := T.t_is_square
  refine ⟨f, fd, F, F.fn.okD Gy (by walk_at "lE") fun cdv A outer s H E hr => ⟨_, (Ae (Cv (Lx (dv 0) Ab) (Ai (Ar Fo)) Bh) (Ae (Aw 1 Gy.nd (Aj Af G_root (hr.mono (by decide)) rfl (Aa (dv 0) Ad))) (Ai (Ar (Ka hr.units (BP (dv 1) (dv 1)) (dv 0)))))), fun ds Q h => ?_⟩⟩
  obtain ⟨n, rfl, hb, q⟩ := h
  walk_at "go"
  refine Hl (fun hw => ?_) (fun hw => ?_)
  · have hw := of_decide_eq_true hw
    exact q _ ⟨false, rfl, by simp [Qk hw]⟩
  · have hw : ¬ n < 0 := fun z => hw (decide_eq_true z)
    refine Ce n ⟨by omega, hb⟩ ?_
    rintro _ ⟨r, rfl, hs, hr'⟩
    walk_at "rd"
    refine ⟨by walk_at "mul", q _ ⟨_, rfl, ?_⟩⟩
    rw [Fl hs]; simp
noncomputable abbrev Ej : DSp := Ez (fun f : I3 => [t3 f]) (B3 20000) fun f => .int (meas f)
theorem KY (T : Txt K mg)
    : Pm P w K mg base 1 "measure" Cu ["form"] Ej := by
  obtain ⟨f, fd, F⟩ := T.t_measure
  refine ⟨f, fd, F, F.fn.okD Lb (by walk_at "lE") fun cdv A outer s H E hr => ⟨_, (Ai (Ar (DK (BP (Ba (dv 0) Ab) (Ba (dv 0) Ab)) (BP (BP Ab (Ba (dv 0) Ab)) (Ba (dv 0) Ab))))), fun ds Q h => ?_⟩⟩
  obtain ⟨⟨a, b, c⟩, rfl, ⟨ha, hb, hc⟩, q⟩ := h
  walk_at "go"
  have h2 : Bt 3 4 := Bt.of_abs (by decide)
  exact ⟨by walk_at "mul", by walk_at "mul", by walk_at "mul", q _ rfl⟩
noncomputable abbrev Kc : DSp := spec (fun f : I3 => [t3 f]) (fun f => B3 1500 f) O7
theorem Pj (T : Txt K mg)
    (G_measure : Pm P w K mg base 1 "measure" Cu ["form"] Ej)
    (G_is_square : Pm P w K mg base 2 "is_square" Cr ["number"] Gd)
    : Pm P w K mg base 3 "shape" Fw ["form"] Kc := by
  obtain ⟨f, fd, F⟩ := T.t_shape
  refine ⟨f, fd, F, F.fn.okD Kd (by walk_at "lE") fun cdv A outer s H E hr => ⟨_, (Ae (Aw 1 Kd.nd (Aj Af G_measure (hr.mono (by decide)) rfl (Aa (dv 0) Ad))) (Ae (Cv (DX (Aj Af G_is_square (hr.mono (by decide)) rfl (Aa (dv 1) Ad))) (Ai (Ar Fd)) Bh) (Ae (Cv (Kr (dv 1) Ab) (Ai (Ar Fd)) Bh) (Ae (Cv (Kr (Ba (dv 0) Ab) Ab) (Ai (Ar Fd)) Bh) (Ai (Ar Fd)))))), fun ds Q h => ?_⟩⟩
  obtain ⟨f, rfl, hf, q⟩ := h
  walk_at "go"
  refine Bv f (hf.le (by decide)) ?_
  have hm : Bt 4000 (meas f) := by
    obtain ⟨h1, h2, h3⟩ := hf
    have h4 : Bt 3 4 := Bt.of_abs (by decide)
    exact ((h2.mul h2).sub ((h4.mul h1).mul h3)).le (by decide)
  refine Ce (meas f) hm ?_
  rintro _ ⟨b, rfl, hb⟩
  walk_at "rd"
  refine Hl (fun h => q _ (.flat (hb.mp h))) (fun h => ?_)
  have hn : ¬ DN (meas f) := fun z => h (hb.mpr z)
  refine Hl (fun h => q _ (.saddle hn (of_decide_eq_true h))) (fun h => ?_)
  have hp : ¬ 0 < meas f := fun z => h (decide_eq_true z)
  refine Hl (fun h => q _ (.bowl hn hp (of_decide_eq_true h))) (fun h => q _ (.dome hn hp fun z => h (decide_eq_true z)))
noncomputable abbrev Jo (f : I3) : Dt := .exc "NoShape" ["form"] [t3 f]
noncomputable abbrev HF (n m : Int) : Dt := .exc "TooGreat" ["number", "most"] [.int n, .int m]
noncomputable def G3 (f : I3) : Dt := @ite _ (0 < meas f ∧ ¬ DN (meas f)) (Classical.propDecidable _) (HF (meas f) 4000) (Jo f)
theorem KD {f : I3} (h : 0 < meas f ∧ ¬ DN (meas f)) : G3 f = HF (meas f) 4000 := if_pos h
theorem Ld {f : I3} (h : ¬ (0 < meas f ∧ ¬ DN (meas f))) : G3 f = Jo f := if_neg h
noncomputable abbrev DP : Fp := Hg (fun p : I2 => [.int p.1, .int p.2]) (fun _ => True) (fun p => p.1 ≤ p.2) (fun _ d => d = .non) fun p => HF p.1 p.2
noncomputable abbrev Az : Fp := Hg (fun f : I3 => [t3 f]) (fun f => B3 1500 f) Sad (fun _ d => d = .non) G3
noncomputable abbrev Hr : DSp := Ez (fun f : I3 => [t3 f]) (fun f => B3 1500 f ∧ Sad f) fun _ => .non
theorem Gu (T : Txt K mg)
    : PmX P w K mg base 3 "check_at_most" Bu ["number", "most"] DP := by
  obtain ⟨f, fd, F⟩ := T.t_check_at_most
  obtain ⟨C_TooGreat, U_TooGreat, fI_TooGreat, fd_TooGreat, R_TooGreat⟩ := Hv (P := P) (w := w) (base := base) T
  refine ⟨f, fd, F, F.fn.okX GZ (fun ds Q E ⟨p, e, _⟩ => by rw [e]; rfl) fun cdv A outer s H E hr => ⟨_, (Bg (Gb (Kr (dv 0) (dv 1)) (Bg (Ir R_TooGreat (hr.mono (by decide)) rfl rfl (Aa (dv 0) (Aa (dv 1) Ad)))) Dv)), fun ds Q Ex h => ?_⟩⟩
  obtain ⟨⟨n, m⟩, rfl, _, q, x⟩ := h
  have q : n ≤ m → ∀ d, d = .non → Q d := q
  have x : ¬ n ≤ m → Ex (HF n m) := x
  walk_at "go"
  refine Hl (fun hw => ?_) (fun hw => ?_)
  · have hw := of_decide_eq_true hw
    exact ⟨by decide, x (by omega)⟩
  · have hw : ¬ m < n := fun z => hw (decide_eq_true z)
    exact q (by omega) _ rfl
theorem GX (T : Txt K mg)
    (GX_check_at_most : PmX P w K mg base 3 "check_at_most" Bu ["number", "most"] DP)
    (G_shape : Pm P w K mg base 3 "shape" Fw ["form"] Kc)
    (G_measure : Pm P w K mg base 1 "measure" Cu ["form"] Ej)
    : PmX P w K mg base 4 "check_saddle" Ao ["form"] Az := by
  obtain ⟨f, fd, F⟩ := T.t_check_saddle
  obtain ⟨t_MOST_MEASURE, m_MOST_MEASURE⟩ := T.m_MOST_MEASURE
  obtain ⟨C_NoShape, U_NoShape, fI_NoShape, fd_NoShape, R_NoShape⟩ := Ih (P := P) (w := w) (base := base) T
  refine ⟨f, fd, F, F.fn.okX Hj (fun ds Q E ⟨p, e, _⟩ => by rw [e]; rfl) fun cdv A outer s H E hr => ⟨_, (Ah (Gb (FJ hr.units (Aj Af G_shape (hr.mono (by decide)) rfl (Aa (dv 0) Ad)) Fd) (Bg (Ir R_NoShape (hr.mono (by decide)) rfl rfl (Aa (dv 0) Ad))) Dv) (Bg (Dh (Bx Av GX_check_at_most (hr.mono (by decide)) rfl (Aa (Aj Af G_measure (hr.mono (by decide)) rfl (Aa (dv 0) Ad)) (Aa (Lq (v := .int (4000)) (d := .int (4000)) rfl m_MOST_MEASURE ⟨_, rfl⟩ (fun _ => Bc.mpr rfl)) Ad)))))), fun ds Q Ex h => ?_⟩⟩
  obtain ⟨f, rfl, hb, q, x⟩ := h
  have nb : Dt.flat 8 (.str "saddle") = true := by rw [Ji]; decide +kernel
  have x1 : ¬ (0 < meas f ∧ ¬ DN (meas f)) → Ex (Jo f) := fun z => by
    have := x fun s => z ⟨s.pos, s.no⟩
    rw [Ld z] at this
    exact this
  walk_at "go"
  refine Ce f hb ?_
  rintro _ hw
  cases hw with
  | flat z => exact ⟨⟨by rw [Ji]; decide +kernel, nb⟩, ift (by rw [Ko]; decide) ⟨by decide, x1 fun h => h.2 z⟩⟩
  | bowl _ z _ => exact ⟨⟨by rw [Ji]; decide +kernel, nb⟩, ift (by rw [Ko]; decide) ⟨by decide, x1 fun h => z h.1⟩⟩
  | dome _ z _ => exact ⟨⟨by rw [Ji]; decide +kernel, nb⟩, ift (by rw [Ko]; decide) ⟨by decide, x1 fun h => z h.1⟩⟩
  | saddle n p =>
    refine ⟨⟨nb, nb⟩, ifn (by rw [Ko]; rfl) (Bv f (hb.le (by decide)) (Bw (meas f, 4000) trivial (fun h _ _ => q ⟨n, p, h⟩ _ rfl) fun h => ?_))⟩
    have := x fun s => h s.most
    rw [KD ⟨p, n⟩] at this
    exact this
theorem Ho {P : Program} {w : World} {K : PySem.W.Frag} {mg : Str → Option Value} {base : Heap} (G : PmX P w K mg base 4 "check_saddle" Ao ["form"] Az)
    : Pm P w K mg base 4 "check_saddle" Ao ["form"] Hr := by
  refine G.pm Av fun ds Q h => ?_
  obtain ⟨f, e, ⟨hb, hd⟩, q⟩ := h
  exact ⟨f, e, hb, fun _ d z => q d z, fun z => absurd hd z⟩
noncomputable abbrev Ew : DSp := Ez (fun p : I3 × Int => [t3 p.1, .int p.2]) (fun p => B3 20000 p.1) fun p => .bl (decide (Level p.1 p.2))
theorem Hs (T : Txt K mg)
    : Pm P w K mg base 1 "stands_level" BL ["form", "far"] Ew := by
  obtain ⟨f, fd, F⟩ := T.t_stands_level
  refine ⟨f, fd, F, F.fn.okD Ey (by walk_at "lE") fun cdv A outer s H E hr => ⟨_, (Ae (Aw 2 Ey.nd (Ba (dv 0) Ab)) (Ai (Ar (Eu (JZ Qh Ur FW FW Ab (dv 2) (dv 1)) (FN (JZ Qh Ur FW FW (DK (dv 1) (dv 2)) (BP Ab (Wh T.z_abs (Aa (Ba (dv 0) Ab) Ad))) (Eb (dv 1) (dv 2)))))))), fun ds Q h => ?_⟩⟩
  obtain ⟨⟨⟨a, b, c⟩, far⟩, rfl, hb, q⟩ := h
  have q' := q _ rfl
  obtain ⟨ha, _, _⟩ := (show B3 20000 (a, b, c) from hb)
  have ha : Bt 20000 a := ha
  have two : Bt 2 2 := Bt.of_abs (by decide)
  have ha' : Bt 20000 (if a < 0 then -a else a) := by split <;> first | exact ha.neg | exact ha
  have q' : Q (.bl (decide (Level (a, b, c) far))) := q'
  walk_at "go"
  have hL : Level (a, b, c) far ↔ (0 < b ∧ b ≤ far) ∧ far - b < 2 * (if a < 0 then -a else a) ∧ 2 * (if a < 0 then -a else a) ≤ far + b := Iff.rfl
  generalize (if a < 0 then -a else a) = A at *
  by_cases h1 : 0 < b
  · refine ift (decide_eq_true h1) ?_
    by_cases h2 : b ≤ far
    · refine ift (decide_eq_true h2) ⟨two.mulOk ha', ?_⟩
      by_cases h3 : far - b < 2 * A
      · refine ift (decide_eq_true h3) ?_
        have e : decide (Level (a, b, c) far) = decide (2 * A ≤ far + b) := decide_eq_decide.mpr (hL.trans ⟨fun z => z.2.2, fun z => ⟨⟨h1, h2⟩, h3, z⟩⟩)
        rw [e] at q'
        exact q'
      · refine Cj (decide_eq_false h3) ?_
        rw [decide_eq_false fun z => h3 (hL.mp z).2.1] at q'
        exact q'
    · refine Cj (decide_eq_false h2) ?_
      rw [decide_eq_false fun z => h2 (hL.mp z).1.2] at q'
      exact q'
  · refine Cj (decide_eq_false h1) ?_
    rw [decide_eq_false fun z => h1 (hL.mp z).1.1] at q'
    exact q'
noncomputable abbrev Em : Fp := Hg (fun f : I3 => [t3 f]) (fun f => B3 1500 f) Sad (fun f d => ∃ far, Sq (meas f) far ∧ d = .bl (decide (Level f far))) G3
noncomputable abbrev Ei : Fp := Hg (fun f : I3 => [t3 f]) (fun f => B3 1500 f ∧ ¬ Sad f) (fun _ => False) (fun _ _ => False) G3
noncomputable abbrev Io : Fp := Ei
noncomputable abbrev Gx : Fp := Ei
noncomputable abbrev G7 : Fp := Ei
noncomputable abbrev Gh : Fp := Hg (fun p : I3 × I4 => [t3 p.1, t4 p.2]) (fun p => B3 1500 p.1 ∧ ¬ Sad p.1) (fun _ => False) (fun _ _ => False) fun p => G3 p.1
theorem IW (T : Txt K mg)
    (GX_check_saddle : PmX P w K mg base 4 "check_saddle" Ao ["form"] Az)
    (G_stands_level : Pm P w K mg base 1 "stands_level" BL ["form", "far"] Ew)
    (G_root : Pm P w K mg base 1 "root" FZ ["number"] JK)
    (G_measure : Pm P w K mg base 1 "measure" Cu ["form"] Ej)
    : PmX P w K mg base 5 "is_level" BR ["form"] Em := by
  obtain ⟨f, fd, F⟩ := T.t_is_level
  refine ⟨f, fd, F, F.fn.okX JN (fun ds Q E ⟨p, e, _⟩ => by rw [e]; rfl) fun cdv A outer s H E hr => ⟨_, (Ah (Dh (Bx Av GX_check_saddle (hr.mono (by decide)) rfl (Aa (dv 0) Ad))) (Bg (Bm (Ar (Aj Af G_stands_level (hr.mono (by decide)) rfl (Aa (dv 0) (Aa (Aj Af G_root (hr.mono (by decide)) rfl (Aa (Aj Af G_measure (hr.mono (by decide)) rfl (Aa (dv 0) Ad)) Ad)) Ad))))))), fun ds Q Ex h => ?_⟩⟩
  obtain ⟨f, rfl, hb, q, x⟩ := h
  walk_at "go"
  refine Bw f hb (fun hS _ _ => ?_) x
  have hm : Bt 4000 (meas f) := by
    obtain ⟨h1, h2, h3⟩ := hb
    have h4 : Bt 3 4 := Bt.of_abs (by decide)
    exact ((h2.mul h2).sub ((h4.mul h1).mul h3)).le (by decide)
  refine Bv f (hb.le (by decide)) (Ce (meas f) ⟨by have := hS.pos; omega, hm⟩ ?_)
  rintro _ ⟨r, rfl, hr, _⟩
  exact Bv (f, r) (hb.le (by decide)) (q hS _ ⟨r, hr, rfl⟩)
noncomputable abbrev Hh : DSp := spec (fun f : I3 => [t3 f]) (fun f => B3 1500 f ∧ Sad f) fun f d => ∃ far, Sq (meas f) far ∧ d = .bl (decide (Level f far))
theorem J8 {P : Program} {w : World} {K : PySem.W.Frag} {mg : Str → Option Value} {base : Heap} (G : PmX P w K mg base 5 "is_level" BR ["form"] Em)
    : Pm P w K mg base 5 "is_level" BR ["form"] Hh := by
  refine G.pm Av fun ds Q h => ?_
  obtain ⟨f, e, ⟨hb, hd⟩, q⟩ := h
  exact ⟨f, e, hb, fun _ d z => q d z, fun z => absurd hd z⟩
theorem Mj (T : Txt K mg)
    (GX_check_saddle : PmX P w K mg base 4 "check_saddle" Ao ["form"] Az)
    : PmX P w K mg base 5 "after" Fv ["form"] Ei := by
  obtain ⟨f, fd, F⟩ := T.t_after
  refine ⟨f, fd, F, F.fn.okX Ng (fun ds Q E ⟨p, e, _⟩ => by rw [e]; rfl) fun cdv A outer s H E hr => ⟨_, (Ah (Dh (Bx Av GX_check_saddle (hr.mono (by decide)) rfl (Aa (dv 0) Ad))) (Ah (Bm Aq) (Ah (Bm Aq) (Bg (Bm Aq))))), fun ds Q Ex h => ?_⟩⟩
  obtain ⟨f, rfl, ⟨hb, hn⟩, q, ex⟩ := h
  walk_at "go"
  exact Bw f hb (fun z => absurd z hn) fun _ => ex id
theorem MJ (T : Txt K mg)
    (GX_check_saddle : PmX P w K mg base 4 "check_saddle" Ao ["form"] Az)
    : PmX P w K mg base 5 "eased" Fy ["form"] Io := by
  obtain ⟨f, fd, F⟩ := T.t_eased
  obtain ⟨a_SAME, m_SAME, q_SAME⟩ := T.k_SAME
  refine ⟨f, fd, F, F.fn.okX PB (fun ds Q E ⟨p, e, _⟩ => by rw [e]; rfl) fun cdv A outer s H E hr => ⟨_, (Ah (Dh (Bx Av GX_check_saddle (hr.mono (by decide)) rfl (Aa (dv 0) Ad))) (Ah (Bm Aq) (Ah (Bm Aq) (Ah (Bm Aq) (Bg (Bm Aq)))))), fun ds Q Ex h => ?_⟩⟩
  obtain ⟨f, rfl, ⟨hb, hn⟩, q, ex⟩ := h
  walk_at "go"
  exact Bw f hb (fun z => absurd z hn) fun _ => ex id
theorem Jl (T : Txt K mg)
    (GX_check_saddle : PmX P w K mg base 4 "check_saddle" Ao ["form"] Az)
    : PmX P w K mg base 5 "round_of" Dc ["form"] Gx := by
  obtain ⟨f, fd, F⟩ := T.t_round_of
  refine ⟨f, fd, F, F.fn.okX JT (fun ds Q E ⟨p, e, _⟩ => by rw [e]; rfl) fun cdv A outer s H E hr => ⟨_, (Ah (Dh (Bx Av GX_check_saddle (hr.mono (by decide)) rfl (Aa (dv 0) Ad))) (Ah (Bm Aq) (Ah (Bm Aq) (Bg (Bm Aq))))), fun ds Q Ex h => ?_⟩⟩
  obtain ⟨f, rfl, ⟨hb, hn⟩, q, ex⟩ := h
  walk_at "go"
  exact Bw f hb (fun z => absurd z hn) fun _ => ex id
theorem J7 (T : Txt K mg)
    (GX_check_saddle : PmX P w K mg base 4 "check_saddle" Ao ["form"] Az)
    : PmX P w K mg base 5 "step_of" Dn ["form"] G7 := by
  obtain ⟨f, fd, F⟩ := T.t_step_of
  refine ⟨f, fd, F, F.fn.okX KN (fun ds Q E ⟨p, e, _⟩ => by rw [e]; rfl) fun cdv A outer s H E hr => ⟨_, (Ah (Dh (Bx Av GX_check_saddle (hr.mono (by decide)) rfl (Aa (dv 0) Ad))) (Ah (Bm Aq) (Ah (Bm Aq) (Ah (Bm Aq) (Ah (Bm Aq) (Ah (Bm Aq) (Bg (Bm Aq)))))))), fun ds Q Ex h => ?_⟩⟩
  obtain ⟨f, rfl, ⟨hb, hn⟩, q, ex⟩ := h
  walk_at "go"
  exact Bw f hb (fun z => absurd z hn) fun _ => ex id
theorem Jj (T : Txt K mg)
    (GX_check_saddle : PmX P w K mg base 4 "check_saddle" Ao ["form"] Az)
    : PmX P w K mg base 6 "power_of" Dg ["form", "turn"] Gh := by
  obtain ⟨f, fd, F⟩ := T.t_power_of
  refine ⟨f, fd, F, F.fn.okX J3 (fun ds Q E ⟨p, e, _⟩ => by rw [e]; rfl) fun cdv A outer s H E hr => ⟨_, (Ah (Dh (Bx Av GX_check_saddle (hr.mono (by decide)) rfl (Aa (dv 0) Ad))) (Ah (Bm Aq) (Ah (Bm Aq) (Ah (Bm Aq) (Ah (Bm Aq) (Ah (Bm Aq) (Bg (Bm Aq)))))))), fun ds Q Ex h => ?_⟩⟩
  obtain ⟨⟨f, t⟩, rfl, ⟨hb, hn⟩, q, ex⟩ := h
  walk_at "go"
  exact Bw f hb (fun z => absurd z hn) fun _ => ex id
noncomputable abbrev Gs : Fp := Hg (fun p : Int × I3 => [.int p.1, t3 p.2]) (fun p => (0 ≤ p.1 ∧ p.1 < 6) ∧ B3 1500 p.2 ∧ ¬ Sad p.2) (fun _ => False) (fun _ _ => False) fun p => G3 p.2
theorem Je (T : Txt K mg)
    (GX_power_of : PmX P w K mg base 6 "power_of" Dg ["form", "turn"] Gh)
    (GX_is_level : PmX P w K mg base 5 "is_level" BR ["form"] Em)
    (GX_after : PmX P w K mg base 5 "after" Fv ["form"] Ei)
    (GX_eased : PmX P w K mg base 5 "eased" Fy ["form"] Io)
    (GX_round_of : PmX P w K mg base 5 "round_of" Dc ["form"] Gx)
    (GX_step_of : PmX P w K mg base 5 "step_of" Dn ["form"] G7)
    : PmX P w K mg base 7 "_law_ask" CW ["_law_way", "_law_form_here"] Gs := by
  obtain ⟨f, fd, F⟩ := T.t__law_ask
  refine ⟨f, fd, F, F.fn.okX Kf (fun ds Q E ⟨p, e, _⟩ => by rw [e]; rfl) fun cdv A outer s H E hr => ⟨_, (Ah (Gb (Gw hr.units (dv 0) Ab) (Bg (Fq (Bx Av GX_is_level (hr.mono (by decide)) rfl (Aa (dv 1) Ad)))) Dv) (Ah (Gb (Gw hr.units (dv 0) Ab) (Bg (Fq (Bx Av GX_after (hr.mono (by decide)) rfl (Aa (dv 1) Ad)))) Dv) (Ah (Gb (Gw hr.units (dv 0) Ab) (Bg (Fq (Bx Av GX_eased (hr.mono (by decide)) rfl (Aa (dv 1) Ad)))) Dv) (Ah (Gb (Gw hr.units (dv 0) Ab) (Bg (Fq (Bx Av GX_round_of (hr.mono (by decide)) rfl (Aa (dv 1) Ad)))) Dv) (Ah (Gb (Gw hr.units (dv 0) Ab) (Bg (Fq (Bx Av GX_step_of (hr.mono (by decide)) rfl (Aa (dv 1) Ad)))) Dv) (Bg (Fq (Bx Av GX_power_of (hr.mono (by decide)) rfl (Aa (dv 1) (Aa (Dj (Aa Ab (Aa Ab (Aa Ab (Aa Ab Ad))))) Ad)))))))))), fun ds Q Ex h => ?_⟩⟩
  obtain ⟨⟨way, f⟩, rfl, ⟨⟨w0, w9⟩, hb, hn⟩, q, ex⟩ := h
  have w0 : 0 ≤ way := w0
  have w9 : way < 6 := w9
  have hn : ¬ Sad f := hn
  have ex1 : Ex (G3 f) := ex id
  walk_at "go"
  obtain rfl | rfl | rfl | rfl | rfl | rfl : way = 0 ∨ way = 1 ∨ way = 2 ∨ way = 3 ∨ way = 4 ∨ way = 5 := by omega
  · exact ift rfl (Bw f hb (fun z => absurd z hn) fun _ => ex1)
  · exact Cj rfl (ift rfl (Bw f ⟨hb, hn⟩ (fun z => z.elim) fun _ => ex1))
  · exact Cj rfl (Cj rfl (ift rfl (Bw f ⟨hb, hn⟩ (fun z => z.elim) fun _ => ex1)))
  · exact Cj rfl (Cj rfl (Cj rfl (ift rfl (Bw f ⟨hb, hn⟩ (fun z => z.elim) fun _ => ex1))))
  · exact Cj rfl (Cj rfl (Cj rfl (Cj rfl (ift rfl (Bw f ⟨hb, hn⟩ (fun z => z.elim) fun _ => ex1)))))
  · exact Cj rfl (Cj rfl (Cj rfl (Cj rfl (Cj rfl ⟨Bo (by decide), Bw (f, (1, 1, 1, 1)) ⟨hb, hn⟩ (fun z => z.elim) fun _ => ex1⟩))))
theorem Lr (f : I3) : (G3 f = HF (meas f) 4000) ∨ G3 f = Jo f := by
  by_cases h : 0 < meas f ∧ ¬ DN (meas f)
  · exact .inl (KD h)
  · exact .inr (Ld h)
noncomputable abbrev Eo : DSp := Ez (fun p : Int × I3 => [.int p.1, t3 p.2]) (fun p => (0 ≤ p.1 ∧ p.1 < 6) ∧ B3 1500 p.2 ∧ ¬ Sad p.2) fun p => G3 p.2
theorem I8 (T : Txt K mg)
    (GX__law_ask : PmX P w K mg base 7 "_law_ask" CW ["_law_way", "_law_form_here"] Gs)
    : Pm P w K mg base 8 "_law_told" BX ["_law_way", "_law_form_here"] Eo := by
  obtain ⟨f, fd, F⟩ := T.t__law_told
  obtain ⟨U_FormError, u_FormError⟩ := T.u_FormError
  refine ⟨f, fd, F, F.fn.okD Dm (by walk_at "lE") fun cdv A outer s H E hr => ⟨_, (Ae (Aw 2 Dm.nd Vn) (Ae (Sw (Rr 3 u_FormError Dm.nd (fun W pn => (Bg (Dh (Bx Av GX__law_ask (hr.mono (by decide)) rfl (Aa (dv 0) (Aa (dv 1) Ad)))))) (fun a => (Ai (Aw 2 Dm.nd (dv 3)))))) (Ai (Ar (dv 2))))), fun ds Q h => ?_⟩⟩
  obtain ⟨⟨way, f⟩, rfl, hp, q⟩ := h
  have q' : Q (G3 f) := q _ rfl
  have un := T.un_NoShape_FormError
  have un2 := T.un_TooGreat_FormError
  walk_at "go"
  refine Bw (way, f) hp (fun z => z.elim) fun _ => ?_
  dsimp only
  rcases Lr f with e | e <;> rw [e] at q' ⊢
  · exact ⟨un2, q'⟩
  · exact ⟨un, q'⟩
noncomputable abbrev Ds : DSp := Ez (fun f : I3 => [G3 f]) (fun _ => True) fun _ => .bl false
theorem HW (T : Txt K mg)
    : Pm P w K mg base 1 "_law_others" BK ["_law_told_here"] Ds := by
  obtain ⟨f, fd, F⟩ := T.t__law_others
  obtain ⟨A_Apart, m_Apart, b_NoShape_Apart, b_TooGreat_Apart⟩ := T.c_Apart
  obtain ⟨A_NoAnswer, m_NoAnswer, b_NoShape_NoAnswer, b_TooGreat_NoAnswer⟩ := T.c_NoAnswer
  obtain ⟨A_NoMeasure, m_NoMeasure, b_NoShape_NoMeasure, b_TooGreat_NoMeasure⟩ := T.c_NoMeasure
  obtain ⟨A_NoRoot, m_NoRoot, b_NoShape_NoRoot, b_TooGreat_NoRoot⟩ := T.c_NoRoot
  obtain ⟨A_NoShape, m_NoShape, b_NoShape_NoShape, b_TooGreat_NoShape⟩ := T.c_NoShape
  obtain ⟨A_NoTurn, m_NoTurn, b_NoShape_NoTurn, b_TooGreat_NoTurn⟩ := T.c_NoTurn
  obtain ⟨A_NotLevel, m_NotLevel, b_NoShape_NotLevel, b_TooGreat_NotLevel⟩ := T.c_NotLevel
  obtain ⟨A_NotOwn, m_NotOwn, b_NoShape_NotOwn, b_TooGreat_NotOwn⟩ := T.c_NotOwn
  obtain ⟨A_NotPlain, m_NotPlain, b_NoShape_NotPlain, b_TooGreat_NotPlain⟩ := T.c_NotPlain
  obtain ⟨A_Nought, m_Nought, b_NoShape_Nought, b_TooGreat_Nought⟩ := T.c_Nought
  obtain ⟨A_TooGreat, m_TooGreat, b_NoShape_TooGreat, b_TooGreat_TooGreat⟩ := T.c_TooGreat
  refine ⟨f, fd, F, F.fn.okD HJ (by walk_at "lE") fun cdv A outer s H E hr => ⟨_, (Ae (Cv (DX (S5 T.z_isinstance (Aa (dv 0) (Aa (Dj (Aa (Bl m_Apart) (Aa (Bl m_NoAnswer) (Aa (Bl m_NoMeasure) (Aa (Bl m_NoRoot) (Aa (Bl m_NoTurn) (Aa (Bl m_NotLevel) (Aa (Bl m_NotOwn) (Aa (Bl m_NotPlain) (Aa (Bl m_Nought) Ad)))))))))) Ad)))) (Ai (Ar Fo)) Bh) (Ai (Ar (Zb (Eu (G5 T.z_isinstance (Aa (dv 0) (Aa (Bl m_NoShape) Ad))) (FN (G5 T.z_isinstance (Aa (dv 0) (Aa (Bl m_TooGreat) Ad))))) (FN (K6 (W3 T.z_isinstance T.z_ValueError (dv 0)))))))), fun ds Q h => ?_⟩⟩
  obtain ⟨f, rfl, _, q⟩ := h
  have q' : Q (.bl false) := q _ rfl
  walk_at "go"
  rcases Lr f with e | e <;> rw [e]
  · walk_at "rd"
    refine ⟨Bo (by decide), [A_Apart, A_NoAnswer, A_NoMeasure, A_NoRoot, A_NoTurn, A_NotLevel, A_NotOwn, A_NotPlain, A_Nought], false, rfl, ?_, Cj rfl ?_⟩
    · exact .cons b_TooGreat_Apart (.cons b_TooGreat_NoAnswer (.cons b_TooGreat_NoMeasure (.cons b_TooGreat_NoRoot (.cons b_TooGreat_NoTurn (.cons b_TooGreat_NotLevel (.cons b_TooGreat_NotOwn (.cons b_TooGreat_NotPlain (.cons b_TooGreat_Nought .nil))))))))
    · exact ⟨false, b_TooGreat_NoShape, Cj rfl q'⟩
  · walk_at "rd"
    refine ⟨Bo (by decide), [A_Apart, A_NoAnswer, A_NoMeasure, A_NoRoot, A_NoTurn, A_NotLevel, A_NotOwn, A_NotPlain, A_Nought], false, rfl, ?_, Cj rfl ?_⟩
    · exact .cons b_NoShape_Apart (.cons b_NoShape_NoAnswer (.cons b_NoShape_NoMeasure (.cons b_NoShape_NoRoot (.cons b_NoShape_NoTurn (.cons b_NoShape_NotLevel (.cons b_NoShape_NotOwn (.cons b_NoShape_NotPlain (.cons b_NoShape_Nought .nil))))))))
    · exact ⟨true, b_NoShape_NoShape, ift rfl ⟨false, b_NoShape_TooGreat, Cj rfl q'⟩⟩
noncomputable abbrev Eh : DSp := Ez (fun p : Int × I3 => [.int p.1, t3 p.2]) (fun p => (0 ≤ p.1 ∧ p.1 < 6) ∧ B3 1500 p.2 ∧ ¬ (0 < meas p.2 ∧ ¬ DN (meas p.2))) fun _ => .bl true
theorem G4 (T : Txt K mg)
    (G__law_told : Pm P w K mg base 8 "_law_told" BX ["_law_way", "_law_form_here"] Eo)
    (G__law_others : Pm P w K mg base 1 "_law_others" BK ["_law_told_here"] Ds)
    : Pm P w K mg base 9 "_law_no_shape" Bs ["_law_way", "_law_form_here"] Eh := by
  obtain ⟨f, fd, F⟩ := T.t__law_no_shape
  obtain ⟨A_NoShape, m_NoShape, b_NoShape_NoShape, b_TooGreat_NoShape⟩ := T.c_NoShape
  refine ⟨f, fd, F, F.fn.okD Ed (by walk_at "lE") fun cdv A outer s H E hr => ⟨_, (Ae (Aw 2 Ed.nd (Aj Af G__law_told (hr.mono (by decide)) rfl (Aa (dv 0) (Aa (dv 1) Ad)))) (Ai (Ar (Eu (G5 T.z_isinstance (Aa (dv 2) (Aa (Bl m_NoShape) Ad))) (Eu (K6 (Aj Af G__law_others (hr.mono (by decide)) rfl (Aa (dv 2) Ad))) (FN (Ka hr.units (Cd (dv 2)) (dv 1)))))))), fun ds Q h => ?_⟩⟩
  obtain ⟨⟨way, f⟩, rfl, ⟨hw, hb, hn⟩, q⟩ := h
  have q' := q _ rfl
  have hn : ¬ (0 < meas f ∧ ¬ DN (meas f)) := hn
  have na : CV K "NoShape" "form" := T.nf_NoShape_form
  walk_at "go"
  refine Bv (way, f) ⟨hw, hb, fun z => hn ⟨z.pos, z.no⟩⟩ ?_
  dsimp only
  have e := Ld hn
  rw [e]
  walk_at "rd"
  refine ⟨true, b_NoShape_NoShape, ift rfl ?_⟩
  rw [← e]
  refine Bv f trivial (ift rfl ⟨na, t3 f, rfl, by simp only [Gk, Gq, Gz, Ec, Bool.and_true], ?_⟩)
  rw [Tq, decide_eq_true rfl]
  exact q'
noncomputable abbrev DQ : DSp := Ez (fun p : Int × I3 => [.int p.1, t3 p.2, .int (meas p.2)]) (fun p => (0 ≤ p.1 ∧ p.1 < 6) ∧ B3 1500 p.2 ∧ 4000 < meas p.2 ∧ ¬ DN (meas p.2)) fun _ => .bl true
theorem GD (T : Txt K mg)
    (G__law_told : Pm P w K mg base 8 "_law_told" BX ["_law_way", "_law_form_here"] Eo)
    (G__law_others : Pm P w K mg base 1 "_law_others" BK ["_law_told_here"] Ds)
    : Pm P w K mg base 9 "_law_too_great" Bk ["_law_way", "_law_form_here", "_law_most"] DQ := by
  obtain ⟨f, fd, F⟩ := T.t__law_too_great
  obtain ⟨A_TooGreat, m_TooGreat, b_NoShape_TooGreat, b_TooGreat_TooGreat⟩ := T.c_TooGreat
  refine ⟨f, fd, F, F.fn.okD DR (by walk_at "lE") fun cdv A outer s H E hr => ⟨_, (Ae (Aw 3 DR.nd (Aj Af G__law_told (hr.mono (by decide)) rfl (Aa (dv 0) (Aa (dv 1) Ad)))) (Ai (Ar (Eu (G5 T.z_isinstance (Aa (dv 3) (Aa (Bl m_TooGreat) Ad))) (Eu (K6 (Aj Af G__law_others (hr.mono (by decide)) rfl (Aa (dv 3) Ad))) (Eu (Ka hr.units (Cd (dv 3)) (dv 2)) (FN (Ka hr.units (Cd (dv 3)) Ab)))))))), fun ds Q h => ?_⟩⟩
  obtain ⟨⟨way, f⟩, rfl, ⟨hw, hb, h4, hn⟩, q⟩ := h
  have q' := q _ rfl
  have h4 : 4000 < meas f := h4
  have hn : ¬ DN (meas f) := hn
  have na1 : CV K "TooGreat" "number" := T.nf_TooGreat_number
  have na2 : CV K "TooGreat" "most" := T.nf_TooGreat_most
  walk_at "go"
  refine Bv (way, f) ⟨hw, hb, fun z => by have := z.most; omega⟩ ?_
  dsimp only
  have e := KD ⟨by omega, hn⟩
  rw [e]
  walk_at "rd"
  refine ⟨true, b_TooGreat_TooGreat, ift rfl ?_⟩
  rw [← e]
  refine Bv f trivial (ift rfl ⟨na1, .int (meas f), rfl, Ec, ift (by rw [Ig]; exact decide_eq_true rfl) ⟨na2, .int 4000, rfl, ?_⟩⟩)
  walk_at "rd"
  simp only [decide_true]
  exact q'
noncomputable abbrev Es : DSp := Ez (fun p : List Int × Int => [.lst (p.1.map Dt.int), .int p.2]) (fun p => 0 ≤ p.2) fun p => .int (p.1.getD p.2.toNat 0)
theorem Ep {Q : Dt → Prop} (ns : List Int) (k : Int) (h : 0 ≤ k) (q : Q (.int (ns.getD k.toNat 0))) : Es [.lst (ns.map Dt.int), .int k] Q := Bv (ns, k) h q
theorem IK (T : Txt K mg)
    : Pm P w K mg base 1 "_law_cell" CK ["_law_script", "_law_k"] Es := by
  obtain ⟨f, fd, F⟩ := T.t__law_cell
  refine ⟨f, fd, F, F.fn.okD Iz (by walk_at "lE") fun cdv A outer s H E hr => ⟨_, (Ae (Cv (Lx (dv 1) (WW T.z_len (Aa (dv 0) Ad))) (Ai (Ar (Ba (dv 0) (dv 1)))) Bh) (Ai (Ar Ab))), fun ds Q h => ?_⟩⟩
  obtain ⟨⟨ns, k⟩, rfl, h0, q⟩ := h
  walk_at "go"
  by_cases hk : k < ns.length
  · simp only [decide_eq_true hk, Qx h0 hk, if_true]
    exact q _ rfl
  · simp only [decide_eq_false hk]
    have e : ns.getD k.toNat 0 = 0 := by
      have : ns.length ≤ k.toNat := by have h0' : 0 ≤ k := h0; omega
      simp [this]
    have q' := q _ rfl
    dsimp only at q'
    rw [e] at q'
    exact q'
noncomputable abbrev G8 : DSp := Ez (fun f : I3 => [t3 f]) (B3 2000) fun f => .int (meas f)
theorem Ku (T : Txt K mg)
    : Pm P w K mg base 1 "_law_bar" CZ ["_law_form_here"] G8 := by
  obtain ⟨f, fd, F⟩ := T.t__law_bar
  refine ⟨f, fd, F, F.fn.okD J6 (by walk_at "lE") fun cdv A outer s H E hr => ⟨_, (Ai (Ar (DK (BP (Ba (dv 0) Ab) (Ba (dv 0) Ab)) (BP (BP Ab (Ba (dv 0) Ab)) (Ba (dv 0) Ab))))), fun ds Q h => ?_⟩⟩
  obtain ⟨⟨a, b, c⟩, rfl, ⟨ha, hb, hc⟩, q⟩ := h
  walk_at "go"
  have h2 : Bt 3 4 := Bt.of_abs (by decide)
  exact ⟨by walk_at "mul", by walk_at "mul", by walk_at "mul", q _ rfl⟩
noncomputable abbrev Ge : DSp := spec (fun n : Int => [.int n]) (fun n => 0 ≤ n ∧ Bt 4000 n) fun n d => ∃ r, d = .int r ∧ Sq n r ∧ Bt 2001 r
theorem JG (T : Txt K mg)
    : Pm P w K mg base 1 "_law_root" CJ ["_law_number_here"] Ge := by
  obtain ⟨f, fd, F⟩ := T.t__law_root
  refine ⟨f, fd, F, F.fn.okD El (by walk_at "lE") fun cdv A outer s H E hr => ⟨_, (Ae (Aw 1 El.nd (PN Ab (Dd (Eb (Ly (dv 0)) Ab) Ab))) (Ae (Kq PassesOwn.never (Kr (BP (dv 1) (dv 1)) (dv 0)) (Ai (Aw 1 El.nd (Dd (Eb (dv 1) (Dd (dv 0) (dv 1))) Ab)))) (Ai (Ar (dv 1))))), fun ds Q h => ?_⟩⟩
  obtain ⟨n, rfl, ⟨h0, hb⟩, q⟩ := h
  walk_at "go"
  obtain ⟨c1, c2, c3⟩ := Hi hb
  have hu := Km h0
  refine ⟨⟨by decide, by decide⟩, c1, ?_⟩
  generalize (1 * 2 ^ ((((Builtin.Int.intBits n : Nat) : Int) + 1).fdiv 2).toNat : Int) = g at *
  refine Kv (fun m ρ => ∃ g : Int, ρ = [some (.is (.int n)), some (.is (.int g))] ∧ 0 ≤ g ∧ Bt 2001 g ∧ n < (g + 1) * (g + 1) ∧ m = g.toNat) _ ⟨g, rfl, by omega, c2, hu, rfl⟩ ?_
  rintro m _ ⟨g, rfl, hg, hgb, hgu, rfl⟩
  walk_at "rd"
  refine ⟨hgb.mulOk hgb, Hl (fun hw => ?_) (fun hw => ?_)⟩
  · have hw := of_decide_eq_true hw
    have hg0 : 0 < g := by
      rcases Int.lt_or_le 0 g with z | z
      · exact z
      · have : g = 0 := by omega
        subst this
        omega
    have hd := J4 hg0 hw
    have hu' := Iu h0 hg0
    have hp : 0 ≤ (g + n / g) / 2 := by
      have := Int.ediv_nonneg h0 (show 0 ≤ g by omega)
      omega
    have hbb : Bt 2001 ((g + n / g) / 2) := by unfold Bt at *; omega
    refine ⟨Bt.divOk hgb (by omega), ⟨by decide, by decide⟩, ?_⟩
    rw [Jg hg0]
    exact ⟨_, by omega, _, rfl, hp, hbb, hu', rfl⟩
  · have hw : ¬ n < g * g := fun z => hw (decide_eq_true z)
    exact q _ ⟨g, rfl, ⟨by omega, by omega, hgu⟩, hgb⟩
theorem Zt (x : Int) : Bt 205 (x.fmod (2 * 10 ^ Int.toNat 60 + 1) - 10 ^ Int.toNat 60) := by
  have h := Di x (m := 2 * 10 ^ Int.toNat 60 + 1) (by decide)
  have e : (10 ^ Int.toNat 60 : Int) < 2 ^ 200 := by decide
  exact Bt.of (by omega) (by omega)
noncomputable abbrev Fg : DSp := spec (fun n : Int => [.int n]) (fun _ => True) fun _ d => ∃ m, d = .int m ∧ Bt 205 m
theorem HX (T : Txt K mg)
    : Pm P w K mg base 1 "_law_number" BW ["_law_cell_here"] Fg := by
  obtain ⟨f, fd, F⟩ := T.t__law_number
  refine ⟨f, fd, F, F.fn.okD Dz (by walk_at "lE") fun cdv A outer s H E hr => ⟨_, (Ae (Aw 1 Dz.nd (Dw (dv 0) Ab)) (Ae (Aw 0 Dz.nd (Dd (dv 0) Ab)) (Ae (Cv (Gw hr.units (dv 1) Ab) (Ai (Ar (DK (Dw (dv 0) Ab) Ab))) Bh) (Ai (Ar (DK (Dw (dv 0) (Eb (BP Ab (Jx Ab Ab)) Ab)) (Jx Ab Ab))))))), fun ds Q h => ?_⟩⟩
  obtain ⟨n, rfl, _, q⟩ := h
  have c6 : La 10 60 := ⟨by decide, by decide, by decide⟩
  have two : IntMulOk 2 (10 ^ Int.toNat 60) := Bt.mulOk (n := 2) (m := 200) (by unfold Bt; decide) (by unfold Bt; decide)
  have r9 := Di (n.fdiv 3) (m := 25) (by decide)
  walk_at "go"
  exact ⟨by decide, ⟨by decide, by decide⟩, Hl (fun _ => ⟨by decide, q _ ⟨_, rfl, Bt.of (by omega) (by omega)⟩⟩) (fun _ => ⟨c6, two, by decide, c6, q _ ⟨_, rfl, Zt _⟩⟩)⟩
noncomputable abbrev GC : DSp := spec (fun p : I3 => [.lst [.int p.1, .int p.2.1, .int p.2.2]]) (fun _ => True) fun _ d => ∃ f : I3, d = t3 f ∧ B3 1500 f
theorem Ju (T : Txt K mg)
    (G__law_number : Pm P w K mg base 1 "_law_number" BW ["_law_cell_here"] Fg)
    : Pm P w K mg base 2 "_law_form" Cy ["_law_cells"] GC := by
  obtain ⟨f, fd, F⟩ := T.t__law_form
  refine ⟨f, fd, F, F.fn.okD CT (by walk_at "lE") fun cdv A outer s H E hr => ⟨_, (Ae (Aw 1 CT.nd (Aj Af G__law_number (hr.mono (by decide)) rfl (Aa (Dd (Ba (dv 0) Ab) Ab) Ad))) (Ae (Aw 2 CT.nd (Aj Af G__law_number (hr.mono (by decide)) rfl (Aa (Ba (dv 0) Ab) Ad))) (Ae (Aw 3 CT.nd (Aj Af G__law_number (hr.mono (by decide)) rfl (Aa (Ba (dv 0) Ab) Ad))) (Ae (Cv (Gw hr.units (Dw (Ba (dv 0) Ab) Ab) Ab) (Ae (Aw 4 CT.nd (DK (Dw (Ba (dv 0) Ab) Ab) Ab)) (Ai (Ar (Dj (Aa (BP (dv 4) (dv 1)) (Aa (BP (dv 4) (Eb (BP (dv 1) (dv 3)) (dv 2))) (Aa (BP (BP (dv 4) (dv 2)) (dv 3)) Ad))))))) Bh) (Ai (Ar (Dj (Aa (dv 1) (Aa (dv 2) (Aa (dv 3) Ad)))))))))), fun ds Q h => ?_⟩⟩
  obtain ⟨⟨c0, c1, c2⟩, rfl, _, q⟩ := h
  walk_at "go"
  refine ⟨⟨by decide, by decide⟩, Ce _ trivial ?_⟩
  rintro _ ⟨m, rfl, hm⟩
  refine Ce _ trivial ?_
  rintro _ ⟨n, rfl, hn⟩
  refine Ce _ trivial ?_
  rintro _ ⟨k, rfl, hk⟩
  have r7 := Di c1 (m := 7) (by decide)
  have hg : Bt 3 (c1.fmod 7 - 3) := Bt.of (by omega) (by omega)
  walk_at "rd"
  generalize c1.fmod 7 - 3 = g at *
  refine ⟨by decide, Hl (fun _ => ?_) (fun _ => ⟨Bo (by decide), q _ ⟨(m, n, k), rfl, hm.le (by decide), hn.le (by decide), hk.le (by decide)⟩⟩)⟩
  exact ⟨by decide, hg.mulOk hm, hm.mulOk hk, hg.mulOk ((hm.mul hk).add hn), hg.mulOk hn, (hg.mul hn).mulOk hk, Bo (by decide), q _ ⟨(_, _, _), rfl, (hg.mul hm).le (by decide), (hg.mul ((hm.mul hk).add hn)).le (by decide), ((hg.mul hn).mul hk).le (by decide)⟩⟩
noncomputable abbrev Gj : DSp := Ez (fun n : Int => [.int n]) (fun n => Bt 2000 n) fun _ => .bl true
theorem Gi {K : PySem.W.Frag} {c f : Str} {ns : List Str} {ds : List Dt} {v : Dt} {A B : Prop} (h1 : CV K c f) (h2 : List.lookup f (ns.zip ds) = some v) (h3 : Dt.flat 8 v = true) (h4 : v.eq v = true) (h5 : B) :
    CV K c f ∧ ∃ x, List.lookup f (ns.zip ds) = some x ∧ Dt.flat 8 x = true ∧ if (!x.eq v) = true then A else B := ⟨h1, v, h2, h3, by rw [h4]; exact h5⟩
theorem N5 (f : I3) : Dt.flat 8 (t3 f) = true := by simp only [Gk, Gq, Gz, Ec, Bool.and_true]
theorem Ui (f : I4) : Dt.flat 8 (t4 f) = true := by simp only [Gk, Gq, Gz, Ec, Bool.and_true]
theorem Zc (f : I2) : Dt.flat 8 (t2 f) = true := by simp only [Gk, Gq, Gz, Ec, Bool.and_true]
theorem LK (i : Int) : (Dt.int i).eq (.int i) = true := by rw [Ig]; exact decide_eq_true rfl
theorem AaM (i : I2) : (t2 i).eq (t2 i) = true := by rw [Zj]; exact decide_eq_true rfl
theorem Nm (i : I3) : (t3 i).eq (t3 i) = true := by rw [Tq]; exact decide_eq_true rfl
theorem Ux (i : I4) : (t4 i).eq (t4 i) = true := by rw [Zm]; exact decide_eq_true rfl
theorem Jk (T : Txt K mg)
    : Pm P w K mg base 3 "_law_made" Cq ["_law_number_here"] Gj := by
  obtain ⟨f, fd, F⟩ := T.t__law_made
  obtain ⟨A_FormError, m_FormError, b_NoShape_FormError, b_TooGreat_FormError, b_Apart_FormError, b_Nought_FormError⟩ := T.c_FormError
  obtain ⟨C_Apart, U_Apart, XT_Apart, XX_Apart⟩ := T.xt_Apart
  obtain ⟨C_Nought, U_Nought, XT_Nought, XX_Nought⟩ := T.xt_Nought
  obtain ⟨U_FormError, XF_FormError, XV_FormError⟩ := T.xf_FormError
  obtain ⟨C_NoAnswer, U_NoAnswer, fI_NoAnswer, fd_NoAnswer, R_NoAnswer⟩ := K9 (P := P) (w := w) (base := base) T
  obtain ⟨C_NoMeasure, U_NoMeasure, fI_NoMeasure, fd_NoMeasure, R_NoMeasure⟩ := JR (P := P) (w := w) (base := base) T
  obtain ⟨C_NoRoot, U_NoRoot, fI_NoRoot, fd_NoRoot, R_NoRoot⟩ := Nu (P := P) (w := w) (base := base) T
  obtain ⟨C_NoShape, U_NoShape, fI_NoShape, fd_NoShape, R_NoShape⟩ := Ih (P := P) (w := w) (base := base) T
  obtain ⟨C_NoTurn, U_NoTurn, fI_NoTurn, fd_NoTurn, R_NoTurn⟩ := Oc (P := P) (w := w) (base := base) T
  obtain ⟨C_NotLevel, U_NotLevel, fI_NotLevel, fd_NotLevel, R_NotLevel⟩ := KR (P := P) (w := w) (base := base) T
  obtain ⟨C_NotOwn, U_NotOwn, fI_NotOwn, fd_NotOwn, R_NotOwn⟩ := O3 (P := P) (w := w) (base := base) T
  obtain ⟨C_NotPlain, U_NotPlain, fI_NotPlain, fd_NotPlain, R_NotPlain⟩ := Kz (P := P) (w := w) (base := base) T
  obtain ⟨C_TooGreat, U_TooGreat, fI_TooGreat, fd_TooGreat, R_TooGreat⟩ := Hv (P := P) (w := w) (base := base) T
  refine ⟨f, fd, F, F.fn.okD Dl (by walk_at "lE") fun cdv A outer s H E hr => ⟨_, (Ae (Aw 1 Dl.nd (CP R_TooGreat (hr.mono (by decide)) rfl (Aa (dv 0) (Aa (DK Ab (dv 0)) Ad)))) (Ae (Cv (DW.dt (G9 (FJ hr.units (Cd (dv 1)) (dv 0)) (G9 (FJ hr.units (Cd (dv 1)) (DK Ab (dv 0))) (Hx (FJ hr.units (Cd (CP R_NoRoot (hr.mono (by decide)) rfl (Aa (dv 0) Ad))) (dv 0)))))) (Ai (Ar Fo)) Bh) (Ae (Aw 2 Dl.nd (Dj (Aa Ab (Aa Ab (Aa (dv 0) Ad))))) (Ae (Cv (DW.dt (G9 (FJ hr.units (Cd (CP R_NoShape (hr.mono (by decide)) rfl (Aa (dv 2) Ad))) (dv 2)) (G9 (FJ hr.units (Cd (CP R_NotLevel (hr.mono (by decide)) rfl (Aa (dv 2) Ad))) (dv 2)) (Hx (FJ hr.units (Cd (CP R_NotPlain (hr.mono (by decide)) rfl (Aa (dv 2) Ad))) (dv 2)))))) (Ai (Ar Fo)) Bh) (Ae (Aw 3 Dl.nd (Dj (Aa Ab (Aa (dv 0) (Aa Ab (Aa Ab Ad)))))) (Ae (Cv (DW.dt (G9 (FJ hr.units (Cd (CP R_NoTurn (hr.mono (by decide)) rfl (Aa (dv 3) Ad))) (dv 3)) (G9 (FJ hr.units (Cd (CP R_NotOwn (hr.mono (by decide)) rfl (Aa (dv 3) Ad))) (dv 3)) (Hx (FJ hr.units (Cd (CP R_NoMeasure (hr.mono (by decide)) rfl (Aa (dv 0) Ad))) (dv 0)))))) (Ai (Ar Fo)) Bh) (Ae (Cv (DW.dt (G9 (Fi (DX (G5 T.z_isinstance (Aa (Ke XT_Apart XX_Apart rfl (Aa Fd Ad)) (Aa (Bl m_FormError) Ad))))) (Hx (Fi (DX (G5 T.z_isinstance (Aa (Ke XT_Nought XX_Nought rfl (Aa Fd Ad)) (Aa (Bl m_FormError) Ad)))))))) (Ai (Ar Fo)) Bh) (Ai (Ar (Eu (Ka hr.units (Cd (CP R_NoAnswer (hr.mono (by decide)) rfl (Aa (Dj (Aa Ab (Aa (dv 0) Ad))) Ad))) (Dj (Aa Ab (Aa (dv 0) Ad)))) (FN (RD XF_FormError XV_FormError T.z_isinstance T.z_ValueError rfl (Aa Fd Ad))))))))))))), fun ds Q h => ?_⟩⟩
  obtain ⟨n, rfl, hn, q⟩ := h
  have q' := q _ rfl
  walk_at "go"
  refine ⟨by decide, Gi T.nf_TooGreat_number rfl Ec (LK _) (Gi T.nf_TooGreat_most rfl Ec (LK _) ⟨by decide, Gi T.nf_NoRoot_number rfl Ec (LK _) ⟨Bo (by decide), by decide, Gi T.nf_NoShape_form rfl (N5 (1, 0, n)) (Nm (1, 0, n)) ?_⟩⟩)⟩
  refine ⟨by decide, Gi T.nf_NotLevel_form rfl (N5 (1, 0, n)) (Nm (1, 0, n)) ⟨by decide, Gi T.nf_NotPlain_form rfl (N5 (1, 0, n)) (Nm (1, 0, n)) ?_⟩⟩
  refine ⟨Bo (by decide), by decide, Gi T.nf_NoTurn_turn rfl (Ui (1, n, 0, 1)) (Ux (1, n, 0, 1)) ⟨by decide, Gi T.nf_NotOwn_turn rfl (Ui (1, n, 0, 1)) (Ux (1, n, 0, 1)) ⟨by decide, Gi T.nf_NoMeasure_number rfl Ec (LK _) ?_⟩⟩⟩
  refine ⟨by decide, true, b_Apart_FormError, Cj rfl ⟨by decide, true, b_Nought_FormError, Cj rfl ⟨Bo (by decide), by decide, T.nf_NoAnswer_point, _, rfl, Bo (by decide), Zc (1, n), ift (AaM (1, n)) ⟨by decide, q'⟩⟩⟩⟩
noncomputable def Wide (f : I3) : Prop := B3 600 f ∧ 4000 < meas f ∧ ¬ DN (meas f)
theorem Xc : ¬ DN 4001 := by
  rw [Fl (r := 63) ⟨by decide, by decide, by decide⟩]; decide
theorem AcQ {far : Int} (h : Sq (meas (1, 1, -1)) far) : decide (Level (1, 1, -1) far) = true := by
  have e : far = 2 := h.uniq ⟨by decide, by decide, by decide⟩
  rw [e]; decide
theorem Aba : Sad (1, 1, -1) := ⟨by rw [show meas (1, 1, -1) = 5 from rfl, Fl (r := 2) ⟨by decide, by decide, by decide⟩]; decide, by decide, by decide⟩
theorem ZK {b : Int} (h : b.fmod 2 = 1) : meas (1, b, (b * b - 4001).fdiv 4) = 4001 := by
  obtain ⟨k, rfl⟩ : ∃ k, b = 2 * k + 1 := ⟨b / 2, by rw [Int.fmod_eq_emod_of_nonneg _ (by decide)] at h; omega⟩
  have e : (2 * k + 1) * (2 * k + 1) - 4001 = 4 * (k * k + k - 1000) := by grind
  rw [e, Int.fdiv_eq_ediv_of_nonneg _ (by decide), Int.mul_ediv_cancel_left _ (by decide)]
  unfold meas
  grind
theorem Aab {a b c : Int} (h1 : 0 ≤ a) (h2 : 0 ≤ c) : 4000 < meas (1 + a, b, 0 - 1001 - c) := by
  have e : meas (1 + a, b, 0 - 1001 - c) = b * b + 4 * (a * c) + 4004 * a + 4 * c + 4004 := by unfold meas; grind
  have := Int.mul_nonneg h1 h2
  have : 0 ≤ b * b := by rcases Int.le_total 0 b with h | h; · exact Int.mul_nonneg h h
                         · exact Int.mul_nonneg_of_nonpos_of_nonpos h h
  rw [e]; omega
theorem V5 (T : Txt K mg)
    (G__law_form : Pm P w K mg base 2 "_law_form" Cy ["_law_cells"] GC)
    (G__law_bar : Pm P w K mg base 1 "_law_bar" CZ ["_law_form_here"] G8)
    (G__law_made : Pm P w K mg base 3 "_law_made" Cq ["_law_number_here"] Gj)
    (G_is_level : Pm P w K mg base 5 "is_level" BR ["form"] Hh)
    (G__law_cell : Pm P w K mg base 1 "_law_cell" CK ["_law_script", "_law_k"] Es)
    (G__law_root : Pm P w K mg base 1 "_law_root" CJ ["_law_number_here"] Ge)
    (G__law_too_great : Pm P w K mg base 9 "_law_too_great" Bk ["_law_way", "_law_form_here", "_law_most"] DQ)
    (G__law_no_shape : Pm P w K mg base 9 "_law_no_shape" Bs ["_law_way", "_law_form_here"] Eh)
    : Pm P w K mg base 10 "law" Gf ["_law_script"] JB := by
  obtain ⟨f, fd, F⟩ := T.t_law
  refine ⟨f, fd, F, F.fn.okD Dk (by walk_at "lE") fun cdv A outer s H E hr => ⟨_, (Ae (Aw 1 Dk.nd (Aj Af G__law_form (hr.mono (by decide)) rfl (Aa (WY (Aa (Aj Af G__law_cell (hr.mono (by decide)) rfl (Aa (dv 0) (Aa Ab Ad))) (Aa (Aj Af G__law_cell (hr.mono (by decide)) rfl (Aa (dv 0) (Aa Ab Ad))) (Aa (Aj Af G__law_cell (hr.mono (by decide)) rfl (Aa (dv 0) (Aa Ab Ad))) Ad)))) Ad))) (Ae (Aw 2 Dk.nd (Aj Af G__law_bar (hr.mono (by decide)) rfl (Aa (dv 1) Ad))) (Ae (Aw 3 Dk.nd (Eu (Aai (dv 2) Ab) (FN (XH hr.units (BP (Aj Af G__law_root (hr.mono (by decide)) rfl (Aa (dv 2) Ad)) (Aj Af G__law_root (hr.mono (by decide)) rfl (Aa (dv 2) Ad))) (dv 2))))) (Ae (Aw 4 Dk.nd (Eb (BP Ab (Dw (Aj Af G__law_cell (hr.mono (by decide)) rfl (Aa (dv 0) (Aa Ab Ad))) Ab)) Ab)) (Ae (Aw 5 Dk.nd (Dj (Aa Ab (Aa (dv 4) (Aa (Dd (DK (BP (dv 4) (dv 4)) Ab) Ab) Ad))))) (Ae (Cv (Kr (Dw (Aj Af G__law_cell (hr.mono (by decide)) rfl (Aa (dv 0) (Aa Ab Ad))) Ab) Ab) (Ai (Aw 5 Dk.nd (Dj (Aa (Eb Ab (Dw (Dd (Aj Af G__law_cell (hr.mono (by decide)) rfl (Aa (dv 0) (Aa Ab Ad))) Ab) (Jx Ab Ab))) (Aa (dv 4) (Aa (DK (DK Ab Ab) (Dw (Aj Af G__law_cell (hr.mono (by decide)) rfl (Aa (dv 0) (Aa Ab Ad))) (Jx Ab Ab))) Ad)))))) Bh) (Ae (Aw 6 Dk.nd (Aj Af G__law_bar (hr.mono (by decide)) rfl (Aa (dv 5) Ad))) (Ae (Cv (Gw hr.units (BP (Aj Af G__law_root (hr.mono (by decide)) rfl (Aa (dv 6) Ad)) (Aj Af G__law_root (hr.mono (by decide)) rfl (Aa (dv 6) Ad))) (dv 6)) (Ae (Aw 5 Dk.nd (Dj (Aa Ab (Aa Ab (Aa (PK Ab) Ad))))) (Ai (Aw 6 Dk.nd Ab))) Bh) (Ae (Cv (Fi (DX (Aj Af G__law_made (hr.mono (by decide)) rfl (Aa (dv 6) Ad)))) (Ai (Ar Fo)) Bh) (Ae (Vu PassesOwn.never rfl (W2 (DF.de (Vr (W4 (Aa Ab (Aa Ab (Aa Ab (Aa Ab (Aa Ab (Aa Ab Ad))))))) (Px (dv 0) (Lw Ab) (Lw Ab))))) (RL 7 Dk.nd) (Ae (Cv (DW.dt (Wt (Fi (DX (dv 3))) (Ri (Fi (DX (Aj Af G__law_no_shape (hr.mono (by decide)) rfl (Aa (Dw (dv 7) Ab) (Aa (dv 1) Ad)))))))) (Ai (Ar Fo)) Bh) (Ae (Cv (Fi (DX (Aj Af G__law_too_great (hr.mono (by decide)) rfl (Aa (Dw (Dd (dv 7) Ab) Ab) (Aa (dv 5) (Aa (dv 6) Ad)))))) (Ai (Ar Fo)) Bh) (Ae (Aw 8 Dk.nd (Aj Af G_is_level (hr.mono (by decide)) rfl (Aa (Dj (Aa Ab (Aa Ab (Aa (PK Ab) Ad)))) Ad))) (Ai (Cv (DW.dt (G9 (Fi (DX (Xn T.z_isinstance T.z_bool M6 (dv 8)))) (Hx (Fi (DX (dv 8)))))) (Ai (Ar Fo)) Bh)))))) (Ai (Ar Fo)))))))))))), fun ds Q h => ?_⟩⟩
  obtain ⟨ns, rfl, hl, q⟩ := h
  have q' := q _ rfl
  have hl : ns.length ≤ 63 := hl
  refine JX (fun ρ => ∃ (f : I3) (b : Bool), B3 1500 f ∧ (b = false → ¬ (0 < meas f ∧ ¬ DN (meas f))) ∧ ρ = [some (.is (.lst (ns.map Dt.int))), some (.is (t3 f)), some (.is (.int (meas f))), some (.is (.bl b)), none, none, none, none, none]) (fun N hN => ?_) ?_
  · walk_at "go"
    refine Ep ns 0 (by decide) (Ep ns 1 (by decide) (Ep ns 2 (by decide) ⟨Bo (by decide), Ce (_, _, _) trivial ?_⟩))
    rintro _ ⟨f, rfl, hf⟩
    have hm : Bt 4000 (meas f) := by
      obtain ⟨h1, h2, h3⟩ := hf
      have h4 : Bt 3 4 := Bt.of_abs (by decide)
      exact ((h2.mul h2).sub ((h4.mul h1).mul h3)).le (by decide)
    refine Bv f (hf.le (by decide)) ?_
    walk_at "rd"
    refine Hl (fun h => ?_) (fun h => hN _ ⟨f, _, hf, fun _ z => h (decide_eq_true z.1), rfl⟩)
    have h0 := of_decide_eq_true h
    refine Ce (meas f) ⟨by omega, hm⟩ ?_
    rintro _ ⟨r, rfl, hr, hb1⟩
    refine Ce (meas f) ⟨by omega, hm⟩ ?_
    rintro _ ⟨r2, rfl, hr2, hb2⟩
    have e := hr2.uniq hr
    subst e
    walk_at "rd"
    refine ⟨hb1.mulOk hb2, hN _ ⟨f, _, hf, fun z y => y.2 ((Fl hr).mpr ?_), rfl⟩⟩
    simpa using z
  rintro _ ⟨f, b, hf, hb, rfl⟩
  refine JX (fun ρ => ∃ (w : I3) (x : Option En), (B3 600 w ∧ 4000 < meas w) ∧ ρ = [some (.is (.lst (ns.map Dt.int))), some (.is (t3 f)), some (.is (.int (meas f))), some (.is (.bl b)), x, some (.is (t3 w)), none, none, none]) (fun N hN => ?_) ?_
  · walk_at "rd"
    refine Ep ns 3 (by decide) ?_
    generalize ns.getD (Int.toNat 3) 0 = c3
    have r30 := Di c3 (m := 30) (by decide)
    walk_at "rd"
    have hbb : Bt 8 (2 * c3.fmod 30 + 1) := Bt.of (by omega) (by omega)
    have od : (2 * c3.fmod 30 + 1).fmod 2 = 1 := by rw [Int.fmod_eq_emod_of_nonneg _ (by decide)]; omega
    have m2 : IntMulOk 2 (c3.fmod 30) := Bt.mulOk (n := 2) (m := 8) (by unfold Bt; decide) (Bt.of (by omega) (by omega))
    generalize 2 * c3.fmod 30 + 1 = b1 at *
    refine ⟨by decide, m2, hbb.mulOk hbb, ⟨by decide, by decide⟩, Bo (by decide), Ep ns 4 (by decide) ?_⟩
    generalize ns.getD (Int.toNat 4) 0 = c4
    walk_at "rd"
    refine ⟨by decide, Hl (fun _ => Ep ns 4 (by decide) ?_) (fun _ => hN _ ⟨(1, b1, (b1 * b1 - 4001).fdiv 4), _, ⟨⟨show Bt 600 1 from Bt.of_abs (by decide), hbb.le (by decide), (M8 ((hbb.mul hbb).sub (Bt.of_abs (n := 20) (by decide)))).le (by decide)⟩, by rw [ZK od]; decide⟩, rfl⟩)⟩
    generalize ns.getD (Int.toNat 4) 0 = c4
    walk_at "rd"
    refine ⟨⟨by decide, by decide⟩, ⟨by decide, by decide, by decide⟩, by decide, Ep ns 5 (by decide) ?_⟩
    generalize ns.getD (Int.toNat 5) 0 = c5
    walk_at "rd"
    have c6 : La 10 60 := ⟨by decide, by decide, by decide⟩
    have r1 := Di (c4.fdiv 3) (m := 10 ^ Int.toNat 30) (by decide)
    have r2 := Di c5 (m := 10 ^ Int.toNat 60) (by decide)
    have e1 : (10 ^ Int.toNat 30 : Int) < 2 ^ 150 := by decide
    have e2 : (10 ^ Int.toNat 60 : Int) < 2 ^ 250 := by decide
    have d1 : Bt 600 (1 + (c4.fdiv 3).fmod (10 ^ Int.toNat 30)) := Bt.le (n := 151) (Bt.of (by omega) (by omega)) (by decide)
    have d2 : Bt 600 (0 - 1001 - c5.fmod (10 ^ Int.toNat 60)) := Bt.le (n := 251) (Bt.of (by omega) (by omega)) (by decide)
    exact ⟨c6, by decide, Bo (by decide), hN _ ⟨(_, b1, _), _, ⟨⟨d1, hbb.le (by decide), d2⟩, Aab r1.1 r2.1⟩, rfl⟩⟩
  rintro _ ⟨w, x, ⟨hw, h4⟩, rfl⟩
  have bw : ∀ w : I3, B3 600 w → Bt 2000 (meas w) := fun w hw => by
    obtain ⟨h1, h2, h3⟩ := hw
    have h4 : Bt 3 4 := Bt.of_abs (by decide)
    exact ((h2.mul h2).sub ((h4.mul h1).mul h3)).le (by decide)
  refine Qm (fun ρ => ∃ (w : I3), Wide w ∧ ρ = [some (.is (.lst (ns.map Dt.int))), some (.is (t3 f)), some (.is (.int (meas f))), some (.is (.bl b)), x, some (.is (t3 w)), some (.is (.int (meas w))), none, none]) (fun N hN => ?_) ?_
  · walk_at "rd"
    refine Bv w (hw.le (by decide)) ?_
    have hm := bw w hw
    walk_at "rd"
    refine Ce (meas w) ⟨by omega, hm.le (by decide)⟩ ?_
    rintro _ ⟨r, rfl, hr, hb1⟩
    refine Ce (meas w) ⟨by omega, hm.le (by decide)⟩ ?_
    rintro _ ⟨r2, rfl, hr2, hb2⟩
    have e := hr2.uniq hr
    subst e
    walk_at "rd"
    refine ⟨hb1.mulOk hb2, Hl (fun _ => ⟨Bo (by decide), hN _ ⟨(1, 1, -1000), ⟨⟨show Bt 600 1 from Bt.of_abs (by decide), show Bt 600 1 from Bt.of_abs (by decide), show Bt 600 (-1000) from Bt.of_abs (by decide)⟩, by decide, show ¬ DN 4001 from Xc⟩, rfl⟩⟩) (fun z => hN _ ⟨w, ⟨hw, h4, fun y => z (decide_eq_true ((Fl hr).mp y))⟩, rfl⟩)⟩
  rintro _ ⟨w, ⟨hw, h4, hs⟩, rfl⟩
  walk_at "rd"
  refine Bv (meas w) ((bw w hw).le (by decide)) (Cj rfl ?_)
  obtain ⟨cs, e, hcs, hme⟩ := Rh ns (some 6) (some 40)
  have ew : [Dt.int 0, Dt.int 7, Dt.int 14, Dt.int 21, Dt.int 28, Dt.int 35] ++ cs.map Dt.int = ([0, 7, 14, 21, 28, 35] ++ cs : List Int).map Dt.int := by simp
  refine QC (([0, 7, 14, 21, 28, 35] ++ cs : List Int).map Dt.int) (fun R hR => ?_) (fun i ρ => ∃ y z, ρ = [some (.is (.lst (ns.map Dt.int))), some (.is (t3 f)), some (.is (.int (meas f))), some (.is (.bl b)), x, some (.is (t3 w)), some (.is (.int (meas w))), y, z]) ⟨_, _, rfl⟩ ?_ ?_
  · walk_at "rd"
    rw [e, ew]
    exact ⟨Bo (by decide), Bo (by rw [List.length_map]; omega), hR⟩
  · rintro i d _ hi ⟨y, z, rfl⟩
    obtain ⟨c, _, rfl⟩ : ∃ c, c ∈ ([0, 7, 14, 21, 28, 35] ++ cs : List Int) ∧ Dt.int c = d := List.mem_map.mp (List.mem_of_getElem? hi)
    have r6 := Di c (m := 6) (by decide)
    have r7 := Di (c.fdiv 6) (m := 6) (by decide)
    refine PX (fun ρ => ρ = [some (.is (.lst (ns.map Dt.int))), some (.is (t3 f)), some (.is (.int (meas f))), some (.is (.bl b)), x, some (.is (t3 w)), some (.is (.int (meas w))), some (.is (.int c)), z]) (fun N hN => ?_) ?_
    · walk_at "rd"
      cases b with
      | true => exact Cj rfl (hN _ rfl)
      | false => exact ift rfl ⟨by decide, Bv (_, f) ⟨r6, hf, hb rfl⟩ (Cj rfl (hN _ rfl))⟩
    rintro _ rfl
    walk_at "rd"
    refine ⟨⟨by decide, by decide⟩, by decide, Bv (_, w) ⟨r7, hw.le (by decide), h4, hs⟩ (Cj rfl ⟨Bo (by decide), Ce (1, 1, -1) ⟨⟨show Bt 1500 1 from Bt.of_abs (by decide), show Bt 1500 1 from Bt.of_abs (by decide), show Bt 1500 (-1) from Bt.of_abs (by decide)⟩, Aba⟩ ?_⟩)⟩
    rintro _ ⟨far, hfar, rfl⟩
    rw [AcQ hfar]
    exact ⟨rfl, Cj rfl (Cj rfl ⟨_, _, rfl⟩)⟩
  · rintro _ ⟨y, z, rfl⟩
    exact q'
end
noncomputable abbrev nF (K : PySem.W.Frag) (n : Str) (s : Stmt) : Prop := ∃ (f : Addr) (oc : Value) (od : Option Addr) (kV dc pm : Value) (an : Option Addr) (cd ct : Value) (sl : Array (Option Value)), PySem.W.nsIn K mainGlobals n = some (some (.ref f)) ∧ K.lookup f = some ⟨oc, od, .func (PySem.W.fnOf n n (Bp s) (Bf s) (Ac s) .none kV dc pm an cd ct), sl⟩ ∧ PySem.W.codeIn K cd n = true ∧ PySem.W.keepIn K (.ref f) = true
theorem U3 {K : PySem.W.Frag} {n : Str} {s : Stmt} {f : Addr} {od an : Option Addr} {sl : Array (Option Value)} {oc kV dc pm cd ct : Value} (a : PySem.W.nsIn K mainGlobals n = some (some (.ref f))) (l : K.lookup f = some ⟨oc, od, .func (PySem.W.fnOf n n (Bp s) (Bf s) (Ac s) .none kV dc pm an cd ct), sl⟩) (c : PySem.W.codeIn K cd n = true) (k : PySem.W.keepIn K (.ref f) = true) : nF K n s := ⟨f, oc, od, kV, dc, pm, an, cd, ct, sl, a, l, c, k⟩
theorem tM {K : PySem.W.Frag} {h : Heap} {mg : Str → Option Value} {n : Str} {s : Stmt} {ps : List Str} (X : K.In h) (G : h.Ns mainGlobals mg) (H : nF K n s)
    (hb : ∀ (kV doc pm : Value) (an : Option Addr) (cdv ct : Value) (us : List Value), us.length = ps.length → bindArgs (PySem.W.fnOf n n (Bp s) (Bf s) (Ac s) .none kV doc pm an cdv ct) ⟨us, []⟩ = pure (ps.zip us)) : ∃ f fd, FnT K mg n s ps f fd := by
  obtain ⟨f, oc, od, kV, dc, pm, an, cd, ct, sl, a, l, c, k⟩ := H
  have F := Du (st := s) l c k
  exact ⟨_, _, F, PySem.W.mg_of X G a, F.binds hb⟩
set_option maxHeartbeats 8000000 in
theorem all_mk {l : PySem.W.OpenLaw} {w : World} {K : PySem.W.Frag} {h : Heap} {mg : Str → Option Value} {fa : Addr} (X : K.In h) (G : h.Ns mainGlobals mg) (hfa : mg "law" = some (.ref fa))
    (h0 : nF K "root" FZ)
    (h1 : nF K "is_square" Cr)
    (h2 : nF K "check_at_most" Bu)
    (h3 : nF K "measure" Cu)
    (h4 : nF K "shape" Fw)
    (h5 : nF K "check_saddle" Ao)
    (h6 : nF K "is_level" BR)
    (h7 : nF K "stands_level" BL)
    (h8 : nF K "after" Fv)
    (h9 : nF K "eased" Fy)
    (h10 : nF K "round_of" Dc)
    (h11 : nF K "step_of" Dn)
    (h12 : nF K "power_of" Dg)
    (h13 : nF K "_law_cell" CK)
    (h14 : nF K "_law_bar" CZ)
    (h15 : nF K "_law_root" CJ)
    (h16 : nF K "_law_number" BW)
    (h17 : nF K "_law_form" Cy)
    (h18 : nF K "_law_ask" CW)
    (h19 : nF K "_law_told" BX)
    (h20 : nF K "_law_others" BK)
    (h21 : nF K "_law_no_shape" Bs)
    (h22 : nF K "_law_too_great" Bk)
    (h23 : nF K "_law_made" Cq)
    (h24 : nF K "law" Gf)
    (z_abs : PySem.W.nsIn K mainGlobals "abs" = some none)
    (z_bool : PySem.W.nsIn K mainGlobals "bool" = some none)
    (z_isinstance : PySem.W.nsIn K mainGlobals "isinstance" = some none)
    (z_len : PySem.W.nsIn K mainGlobals "len" = some none)
    (z_max : PySem.W.nsIn K mainGlobals "max" = some none)
    (z_min : PySem.W.nsIn K mainGlobals "min" = some none)
    (z_ValueError : PySem.W.nsIn K mainGlobals "ValueError" = some none)
    {U_FormError NU_FormError : Addr} {nmU_FormError qU_FormError : Str} {bsU_FormError subU_FormError : List Value} {hdU_FormError abU_FormError : Bool} {snU_FormError : List Str} {colU_FormError : Option Bool} {ddU_FormError odU_FormError : Option Addr} {ka_FormError kb_FormError kc_FormError kd_FormError kf_FormError : Option Value} {idU_FormError : String} {ocU_FormError : Value} {es_FormError : Array DictEntry} {ep_FormError : Nat} {sl_FormError : Array (Option Value)}
    (aU_FormError : PySem.W.nsIn K mainGlobals "FormError" = some (some (.ref U_FormError)))
    (lU_FormError : K.lookup U_FormError = some (PySem.excClassObj nmU_FormError qU_FormError U_FormError NU_FormError bsU_FormError bmV hdU_FormError snU_FormError subU_FormError abU_FormError colU_FormError ddU_FormError ka_FormError kb_FormError kc_FormError kd_FormError kf_FormError idU_FormError))
    (lN_FormError : K.lookup NU_FormError = some ⟨ocU_FormError, odU_FormError, .dict es_FormError ep_FormError, sl_FormError⟩) (sk_FormError : Mf es_FormError = true) (ni_FormError : nsFind es_FormError "__init__" = none)
    {C_Apart N_Apart : Addr} {nm_Apart q_Apart : Str} {bs_Apart sub_Apart : List Value} {ab_Apart : Bool} {sn_Apart : List Str} {col_Apart : Option Bool} {dd_Apart odN_Apart : Option Addr} {xa_Apart xb_Apart xc_Apart xd_Apart xf_Apart : Option Value} {ocN_Apart : Value} {esN_Apart : Array DictEntry} {epN_Apart : Nat} {slN_Apart : Array (Option Value)}
    (aC_Apart : PySem.W.nsIn K mainGlobals "Apart" = some (some (.ref C_Apart)))
    (lC_Apart : K.lookup C_Apart = some (PySem.excClassObj nm_Apart q_Apart C_Apart N_Apart bs_Apart (.ref U_FormError :: bmV) true sn_Apart sub_Apart ab_Apart col_Apart dd_Apart xa_Apart xb_Apart xc_Apart xd_Apart xf_Apart "ValueError.__new__"))
    (lN_Apart : K.lookup N_Apart = some ⟨ocN_Apart, odN_Apart, .dict esN_Apart epN_Apart, slN_Apart⟩) (sk_Apart : Mf esN_Apart = true) (ni_Apart : nsFind esN_Apart "__init__" = none)
    (kC_Apart : PySem.W.keepIn K (.ref C_Apart) = true) (sa_Apart : PySem.W.findIn K (.ref C_Apart) "__setattr__" = some (some (.builtin "object.__setattr__"))) (ga_Apart : PySem.W.findIn K (.ref C_Apart) "__getattribute__" = some (some (.builtin "BaseException.__getattribute__"))) (gh_Apart : PySem.W.findIn K (.ref C_Apart) "__getattr__" = some none)
    (cl_Apart : PySem.W.findIn K (.ref C_Apart) "__class__" = some (some (.builtin "object.__class__"))) (gg_Apart : PySem.W.specialIn K (.builtin "object.__class__") "__get__" = some (some (.builtin "getset_descriptor.__get__"))) (gt_Apart : PySem.W.takesIn K (.builtin "object.__class__") = some true)
    {C_Nought N_Nought : Addr} {nm_Nought q_Nought : Str} {bs_Nought sub_Nought : List Value} {ab_Nought : Bool} {sn_Nought : List Str} {col_Nought : Option Bool} {dd_Nought odN_Nought : Option Addr} {xa_Nought xb_Nought xc_Nought xd_Nought xf_Nought : Option Value} {ocN_Nought : Value} {esN_Nought : Array DictEntry} {epN_Nought : Nat} {slN_Nought : Array (Option Value)}
    (aC_Nought : PySem.W.nsIn K mainGlobals "Nought" = some (some (.ref C_Nought)))
    (lC_Nought : K.lookup C_Nought = some (PySem.excClassObj nm_Nought q_Nought C_Nought N_Nought bs_Nought (.ref U_FormError :: bmV) true sn_Nought sub_Nought ab_Nought col_Nought dd_Nought xa_Nought xb_Nought xc_Nought xd_Nought xf_Nought "ValueError.__new__"))
    (lN_Nought : K.lookup N_Nought = some ⟨ocN_Nought, odN_Nought, .dict esN_Nought epN_Nought, slN_Nought⟩) (sk_Nought : Mf esN_Nought = true) (ni_Nought : nsFind esN_Nought "__init__" = none)
    (kC_Nought : PySem.W.keepIn K (.ref C_Nought) = true) (sa_Nought : PySem.W.findIn K (.ref C_Nought) "__setattr__" = some (some (.builtin "object.__setattr__"))) (ga_Nought : PySem.W.findIn K (.ref C_Nought) "__getattribute__" = some (some (.builtin "BaseException.__getattribute__"))) (gh_Nought : PySem.W.findIn K (.ref C_Nought) "__getattr__" = some none)
    (cl_Nought : PySem.W.findIn K (.ref C_Nought) "__class__" = some (some (.builtin "object.__class__"))) (gg_Nought : PySem.W.specialIn K (.builtin "object.__class__") "__get__" = some (some (.builtin "getset_descriptor.__get__"))) (gt_Nought : PySem.W.takesIn K (.builtin "object.__class__") = some true)
    (ni_id_FormError : idU_FormError = "ValueError.__new__") (kC_FormError : PySem.W.keepIn K (.ref U_FormError) = true) (ga_FormError : PySem.W.findIn K (.ref U_FormError) "__getattribute__" = some (some (.builtin "BaseException.__getattribute__"))) (gh_FormError : PySem.W.findIn K (.ref U_FormError) "__getattr__" = some none)
    (cl_FormError : PySem.W.findIn K (.ref U_FormError) "__class__" = some (some (.builtin "object.__class__"))) (gg_FormError : PySem.W.specialIn K (.builtin "object.__class__") "__get__" = some (some (.builtin "getset_descriptor.__get__"))) (gt_FormError : PySem.W.takesIn K (.builtin "object.__class__") = some true)
    (mv_FormError : PySem.W.mroIn K U_FormError (.type "ValueError") = some true) (mb_FormError : PySem.W.mroIn K U_FormError (.type "BaseException") = some true) (mo_FormError : PySem.W.mroIn K U_FormError (.type "object") = some true)
    {C_NoShape N_NoShape fI_NoShape : Addr} {nm_NoShape q_NoShape : Str} {bs_NoShape sub_NoShape : List Value} {ab_NoShape : Bool} {sn_NoShape : List Str} {col_NoShape : Option Bool} {dd_NoShape odi_NoShape ani_NoShape : Option Addr} {xa_NoShape xb_NoShape xc_NoShape xd_NoShape xf_NoShape : Option Value} {oci_NoShape kVi_NoShape dci_NoShape pmi_NoShape cdi_NoShape cti_NoShape : Value} {sli_NoShape : Array (Option Value)}
    (aC_NoShape : PySem.W.nsIn K mainGlobals "NoShape" = some (some (.ref C_NoShape)))
    (lC_NoShape : K.lookup C_NoShape = some (PySem.excClassObj nm_NoShape q_NoShape C_NoShape N_NoShape bs_NoShape (.ref U_FormError :: bmV) true sn_NoShape sub_NoShape ab_NoShape col_NoShape dd_NoShape xa_NoShape xb_NoShape xc_NoShape xd_NoShape xf_NoShape "ValueError.__new__"))
    (kC_NoShape : PySem.W.keepIn K (.ref C_NoShape) = true) (sa_NoShape : PySem.W.findIn K (.ref C_NoShape) "__setattr__" = some (some (.builtin "object.__setattr__"))) (ga_NoShape : PySem.W.findIn K (.ref C_NoShape) "__getattribute__" = some (some (.builtin "BaseException.__getattribute__"))) (gh_NoShape : PySem.W.findIn K (.ref C_NoShape) "__getattr__" = some none)
    (cl_NoShape : PySem.W.findIn K (.ref C_NoShape) "__class__" = some (some (.builtin "object.__class__"))) (gg_NoShape : PySem.W.specialIn K (.builtin "object.__class__") "__get__" = some (some (.builtin "getset_descriptor.__get__"))) (gt_NoShape : PySem.W.takesIn K (.builtin "object.__class__") = some true)
    (hi_NoShape : PySem.W.findIn K (.ref C_NoShape) "__init__" = some (some (.ref fI_NoShape))) (hf_NoShape : PySem.W.typeIn K (.ref fI_NoShape) = some (.type "function"))
    (lI_NoShape : K.lookup fI_NoShape = some ⟨oci_NoShape, odi_NoShape, .func (PySem.W.fnOf "__init__" "NoShape.__init__" (Bp Df) (Bf Df) (Ac Df) .none kVi_NoShape dci_NoShape pmi_NoShape ani_NoShape cdi_NoShape cti_NoShape), sli_NoShape⟩) (cI_NoShape : PySem.W.codeIn K cdi_NoShape "NoShape.__init__" = true) (kI_NoShape : PySem.W.keepIn K (.ref fI_NoShape) = true)
    (tk_NoShape_form : PySem.W.takerIn K C_NoShape "form" = some none) (nf_NoShape_form : PySem.W.findIn K (.ref C_NoShape) "form" = some none)
    {C_TooGreat N_TooGreat fI_TooGreat : Addr} {nm_TooGreat q_TooGreat : Str} {bs_TooGreat sub_TooGreat : List Value} {ab_TooGreat : Bool} {sn_TooGreat : List Str} {col_TooGreat : Option Bool} {dd_TooGreat odi_TooGreat ani_TooGreat : Option Addr} {xa_TooGreat xb_TooGreat xc_TooGreat xd_TooGreat xf_TooGreat : Option Value} {oci_TooGreat kVi_TooGreat dci_TooGreat pmi_TooGreat cdi_TooGreat cti_TooGreat : Value} {sli_TooGreat : Array (Option Value)}
    (aC_TooGreat : PySem.W.nsIn K mainGlobals "TooGreat" = some (some (.ref C_TooGreat)))
    (lC_TooGreat : K.lookup C_TooGreat = some (PySem.excClassObj nm_TooGreat q_TooGreat C_TooGreat N_TooGreat bs_TooGreat (.ref U_FormError :: bmV) true sn_TooGreat sub_TooGreat ab_TooGreat col_TooGreat dd_TooGreat xa_TooGreat xb_TooGreat xc_TooGreat xd_TooGreat xf_TooGreat "ValueError.__new__"))
    (kC_TooGreat : PySem.W.keepIn K (.ref C_TooGreat) = true) (sa_TooGreat : PySem.W.findIn K (.ref C_TooGreat) "__setattr__" = some (some (.builtin "object.__setattr__"))) (ga_TooGreat : PySem.W.findIn K (.ref C_TooGreat) "__getattribute__" = some (some (.builtin "BaseException.__getattribute__"))) (gh_TooGreat : PySem.W.findIn K (.ref C_TooGreat) "__getattr__" = some none)
    (cl_TooGreat : PySem.W.findIn K (.ref C_TooGreat) "__class__" = some (some (.builtin "object.__class__"))) (gg_TooGreat : PySem.W.specialIn K (.builtin "object.__class__") "__get__" = some (some (.builtin "getset_descriptor.__get__"))) (gt_TooGreat : PySem.W.takesIn K (.builtin "object.__class__") = some true)
    (hi_TooGreat : PySem.W.findIn K (.ref C_TooGreat) "__init__" = some (some (.ref fI_TooGreat))) (hf_TooGreat : PySem.W.typeIn K (.ref fI_TooGreat) = some (.type "function"))
    (lI_TooGreat : K.lookup fI_TooGreat = some ⟨oci_TooGreat, odi_TooGreat, .func (PySem.W.fnOf "__init__" "TooGreat.__init__" (Bp Cm) (Bf Cm) (Ac Cm) .none kVi_TooGreat dci_TooGreat pmi_TooGreat ani_TooGreat cdi_TooGreat cti_TooGreat), sli_TooGreat⟩) (cI_TooGreat : PySem.W.codeIn K cdi_TooGreat "TooGreat.__init__" = true) (kI_TooGreat : PySem.W.keepIn K (.ref fI_TooGreat) = true)
    (tk_TooGreat_number : PySem.W.takerIn K C_TooGreat "number" = some none) (nf_TooGreat_number : PySem.W.findIn K (.ref C_TooGreat) "number" = some none)
    (tk_TooGreat_most : PySem.W.takerIn K C_TooGreat "most" = some none) (nf_TooGreat_most : PySem.W.findIn K (.ref C_TooGreat) "most" = some none)
    {C_NoRoot N_NoRoot fI_NoRoot : Addr} {nm_NoRoot q_NoRoot : Str} {bs_NoRoot sub_NoRoot : List Value} {ab_NoRoot : Bool} {sn_NoRoot : List Str} {col_NoRoot : Option Bool} {dd_NoRoot odi_NoRoot ani_NoRoot : Option Addr} {xa_NoRoot xb_NoRoot xc_NoRoot xd_NoRoot xf_NoRoot : Option Value} {oci_NoRoot kVi_NoRoot dci_NoRoot pmi_NoRoot cdi_NoRoot cti_NoRoot : Value} {sli_NoRoot : Array (Option Value)}
    (aC_NoRoot : PySem.W.nsIn K mainGlobals "NoRoot" = some (some (.ref C_NoRoot)))
    (lC_NoRoot : K.lookup C_NoRoot = some (PySem.excClassObj nm_NoRoot q_NoRoot C_NoRoot N_NoRoot bs_NoRoot (.ref U_FormError :: bmV) true sn_NoRoot sub_NoRoot ab_NoRoot col_NoRoot dd_NoRoot xa_NoRoot xb_NoRoot xc_NoRoot xd_NoRoot xf_NoRoot "ValueError.__new__"))
    (kC_NoRoot : PySem.W.keepIn K (.ref C_NoRoot) = true) (sa_NoRoot : PySem.W.findIn K (.ref C_NoRoot) "__setattr__" = some (some (.builtin "object.__setattr__"))) (ga_NoRoot : PySem.W.findIn K (.ref C_NoRoot) "__getattribute__" = some (some (.builtin "BaseException.__getattribute__"))) (gh_NoRoot : PySem.W.findIn K (.ref C_NoRoot) "__getattr__" = some none)
    (cl_NoRoot : PySem.W.findIn K (.ref C_NoRoot) "__class__" = some (some (.builtin "object.__class__"))) (gg_NoRoot : PySem.W.specialIn K (.builtin "object.__class__") "__get__" = some (some (.builtin "getset_descriptor.__get__"))) (gt_NoRoot : PySem.W.takesIn K (.builtin "object.__class__") = some true)
    (hi_NoRoot : PySem.W.findIn K (.ref C_NoRoot) "__init__" = some (some (.ref fI_NoRoot))) (hf_NoRoot : PySem.W.typeIn K (.ref fI_NoRoot) = some (.type "function"))
    (lI_NoRoot : K.lookup fI_NoRoot = some ⟨oci_NoRoot, odi_NoRoot, .func (PySem.W.fnOf "__init__" "NoRoot.__init__" (Bp Dq) (Bf Dq) (Ac Dq) .none kVi_NoRoot dci_NoRoot pmi_NoRoot ani_NoRoot cdi_NoRoot cti_NoRoot), sli_NoRoot⟩) (cI_NoRoot : PySem.W.codeIn K cdi_NoRoot "NoRoot.__init__" = true) (kI_NoRoot : PySem.W.keepIn K (.ref fI_NoRoot) = true)
    (tk_NoRoot_number : PySem.W.takerIn K C_NoRoot "number" = some none) (nf_NoRoot_number : PySem.W.findIn K (.ref C_NoRoot) "number" = some none)
    {C_NotLevel N_NotLevel fI_NotLevel : Addr} {nm_NotLevel q_NotLevel : Str} {bs_NotLevel sub_NotLevel : List Value} {ab_NotLevel : Bool} {sn_NotLevel : List Str} {col_NotLevel : Option Bool} {dd_NotLevel odi_NotLevel ani_NotLevel : Option Addr} {xa_NotLevel xb_NotLevel xc_NotLevel xd_NotLevel xf_NotLevel : Option Value} {oci_NotLevel kVi_NotLevel dci_NotLevel pmi_NotLevel cdi_NotLevel cti_NotLevel : Value} {sli_NotLevel : Array (Option Value)}
    (aC_NotLevel : PySem.W.nsIn K mainGlobals "NotLevel" = some (some (.ref C_NotLevel)))
    (lC_NotLevel : K.lookup C_NotLevel = some (PySem.excClassObj nm_NotLevel q_NotLevel C_NotLevel N_NotLevel bs_NotLevel (.ref U_FormError :: bmV) true sn_NotLevel sub_NotLevel ab_NotLevel col_NotLevel dd_NotLevel xa_NotLevel xb_NotLevel xc_NotLevel xd_NotLevel xf_NotLevel "ValueError.__new__"))
    (kC_NotLevel : PySem.W.keepIn K (.ref C_NotLevel) = true) (sa_NotLevel : PySem.W.findIn K (.ref C_NotLevel) "__setattr__" = some (some (.builtin "object.__setattr__"))) (ga_NotLevel : PySem.W.findIn K (.ref C_NotLevel) "__getattribute__" = some (some (.builtin "BaseException.__getattribute__"))) (gh_NotLevel : PySem.W.findIn K (.ref C_NotLevel) "__getattr__" = some none)
    (cl_NotLevel : PySem.W.findIn K (.ref C_NotLevel) "__class__" = some (some (.builtin "object.__class__"))) (gg_NotLevel : PySem.W.specialIn K (.builtin "object.__class__") "__get__" = some (some (.builtin "getset_descriptor.__get__"))) (gt_NotLevel : PySem.W.takesIn K (.builtin "object.__class__") = some true)
    (hi_NotLevel : PySem.W.findIn K (.ref C_NotLevel) "__init__" = some (some (.ref fI_NotLevel))) (hf_NotLevel : PySem.W.typeIn K (.ref fI_NotLevel) = some (.type "function"))
    (lI_NotLevel : K.lookup fI_NotLevel = some ⟨oci_NotLevel, odi_NotLevel, .func (PySem.W.fnOf "__init__" "NotLevel.__init__" (Bp Cp) (Bf Cp) (Ac Cp) .none kVi_NotLevel dci_NotLevel pmi_NotLevel ani_NotLevel cdi_NotLevel cti_NotLevel), sli_NotLevel⟩) (cI_NotLevel : PySem.W.codeIn K cdi_NotLevel "NotLevel.__init__" = true) (kI_NotLevel : PySem.W.keepIn K (.ref fI_NotLevel) = true)
    (tk_NotLevel_form : PySem.W.takerIn K C_NotLevel "form" = some none) (nf_NotLevel_form : PySem.W.findIn K (.ref C_NotLevel) "form" = some none)
    {C_NotPlain N_NotPlain fI_NotPlain : Addr} {nm_NotPlain q_NotPlain : Str} {bs_NotPlain sub_NotPlain : List Value} {ab_NotPlain : Bool} {sn_NotPlain : List Str} {col_NotPlain : Option Bool} {dd_NotPlain odi_NotPlain ani_NotPlain : Option Addr} {xa_NotPlain xb_NotPlain xc_NotPlain xd_NotPlain xf_NotPlain : Option Value} {oci_NotPlain kVi_NotPlain dci_NotPlain pmi_NotPlain cdi_NotPlain cti_NotPlain : Value} {sli_NotPlain : Array (Option Value)}
    (aC_NotPlain : PySem.W.nsIn K mainGlobals "NotPlain" = some (some (.ref C_NotPlain)))
    (lC_NotPlain : K.lookup C_NotPlain = some (PySem.excClassObj nm_NotPlain q_NotPlain C_NotPlain N_NotPlain bs_NotPlain (.ref U_FormError :: bmV) true sn_NotPlain sub_NotPlain ab_NotPlain col_NotPlain dd_NotPlain xa_NotPlain xb_NotPlain xc_NotPlain xd_NotPlain xf_NotPlain "ValueError.__new__"))
    (kC_NotPlain : PySem.W.keepIn K (.ref C_NotPlain) = true) (sa_NotPlain : PySem.W.findIn K (.ref C_NotPlain) "__setattr__" = some (some (.builtin "object.__setattr__"))) (ga_NotPlain : PySem.W.findIn K (.ref C_NotPlain) "__getattribute__" = some (some (.builtin "BaseException.__getattribute__"))) (gh_NotPlain : PySem.W.findIn K (.ref C_NotPlain) "__getattr__" = some none)
    (cl_NotPlain : PySem.W.findIn K (.ref C_NotPlain) "__class__" = some (some (.builtin "object.__class__"))) (gg_NotPlain : PySem.W.specialIn K (.builtin "object.__class__") "__get__" = some (some (.builtin "getset_descriptor.__get__"))) (gt_NotPlain : PySem.W.takesIn K (.builtin "object.__class__") = some true)
    (hi_NotPlain : PySem.W.findIn K (.ref C_NotPlain) "__init__" = some (some (.ref fI_NotPlain))) (hf_NotPlain : PySem.W.typeIn K (.ref fI_NotPlain) = some (.type "function"))
    (lI_NotPlain : K.lookup fI_NotPlain = some ⟨oci_NotPlain, odi_NotPlain, .func (PySem.W.fnOf "__init__" "NotPlain.__init__" (Bp CG) (Bf CG) (Ac CG) .none kVi_NotPlain dci_NotPlain pmi_NotPlain ani_NotPlain cdi_NotPlain cti_NotPlain), sli_NotPlain⟩) (cI_NotPlain : PySem.W.codeIn K cdi_NotPlain "NotPlain.__init__" = true) (kI_NotPlain : PySem.W.keepIn K (.ref fI_NotPlain) = true)
    (tk_NotPlain_form : PySem.W.takerIn K C_NotPlain "form" = some none) (nf_NotPlain_form : PySem.W.findIn K (.ref C_NotPlain) "form" = some none)
    {C_NoTurn N_NoTurn fI_NoTurn : Addr} {nm_NoTurn q_NoTurn : Str} {bs_NoTurn sub_NoTurn : List Value} {ab_NoTurn : Bool} {sn_NoTurn : List Str} {col_NoTurn : Option Bool} {dd_NoTurn odi_NoTurn ani_NoTurn : Option Addr} {xa_NoTurn xb_NoTurn xc_NoTurn xd_NoTurn xf_NoTurn : Option Value} {oci_NoTurn kVi_NoTurn dci_NoTurn pmi_NoTurn cdi_NoTurn cti_NoTurn : Value} {sli_NoTurn : Array (Option Value)}
    (aC_NoTurn : PySem.W.nsIn K mainGlobals "NoTurn" = some (some (.ref C_NoTurn)))
    (lC_NoTurn : K.lookup C_NoTurn = some (PySem.excClassObj nm_NoTurn q_NoTurn C_NoTurn N_NoTurn bs_NoTurn (.ref U_FormError :: bmV) true sn_NoTurn sub_NoTurn ab_NoTurn col_NoTurn dd_NoTurn xa_NoTurn xb_NoTurn xc_NoTurn xd_NoTurn xf_NoTurn "ValueError.__new__"))
    (kC_NoTurn : PySem.W.keepIn K (.ref C_NoTurn) = true) (sa_NoTurn : PySem.W.findIn K (.ref C_NoTurn) "__setattr__" = some (some (.builtin "object.__setattr__"))) (ga_NoTurn : PySem.W.findIn K (.ref C_NoTurn) "__getattribute__" = some (some (.builtin "BaseException.__getattribute__"))) (gh_NoTurn : PySem.W.findIn K (.ref C_NoTurn) "__getattr__" = some none)
    (cl_NoTurn : PySem.W.findIn K (.ref C_NoTurn) "__class__" = some (some (.builtin "object.__class__"))) (gg_NoTurn : PySem.W.specialIn K (.builtin "object.__class__") "__get__" = some (some (.builtin "getset_descriptor.__get__"))) (gt_NoTurn : PySem.W.takesIn K (.builtin "object.__class__") = some true)
    (hi_NoTurn : PySem.W.findIn K (.ref C_NoTurn) "__init__" = some (some (.ref fI_NoTurn))) (hf_NoTurn : PySem.W.typeIn K (.ref fI_NoTurn) = some (.type "function"))
    (lI_NoTurn : K.lookup fI_NoTurn = some ⟨oci_NoTurn, odi_NoTurn, .func (PySem.W.fnOf "__init__" "NoTurn.__init__" (Bp Dp) (Bf Dp) (Ac Dp) .none kVi_NoTurn dci_NoTurn pmi_NoTurn ani_NoTurn cdi_NoTurn cti_NoTurn), sli_NoTurn⟩) (cI_NoTurn : PySem.W.codeIn K cdi_NoTurn "NoTurn.__init__" = true) (kI_NoTurn : PySem.W.keepIn K (.ref fI_NoTurn) = true)
    (tk_NoTurn_turn : PySem.W.takerIn K C_NoTurn "turn" = some none) (nf_NoTurn_turn : PySem.W.findIn K (.ref C_NoTurn) "turn" = some none)
    {C_NotOwn N_NotOwn fI_NotOwn : Addr} {nm_NotOwn q_NotOwn : Str} {bs_NotOwn sub_NotOwn : List Value} {ab_NotOwn : Bool} {sn_NotOwn : List Str} {col_NotOwn : Option Bool} {dd_NotOwn odi_NotOwn ani_NotOwn : Option Addr} {xa_NotOwn xb_NotOwn xc_NotOwn xd_NotOwn xf_NotOwn : Option Value} {oci_NotOwn kVi_NotOwn dci_NotOwn pmi_NotOwn cdi_NotOwn cti_NotOwn : Value} {sli_NotOwn : Array (Option Value)}
    (aC_NotOwn : PySem.W.nsIn K mainGlobals "NotOwn" = some (some (.ref C_NotOwn)))
    (lC_NotOwn : K.lookup C_NotOwn = some (PySem.excClassObj nm_NotOwn q_NotOwn C_NotOwn N_NotOwn bs_NotOwn (.ref U_FormError :: bmV) true sn_NotOwn sub_NotOwn ab_NotOwn col_NotOwn dd_NotOwn xa_NotOwn xb_NotOwn xc_NotOwn xd_NotOwn xf_NotOwn "ValueError.__new__"))
    (kC_NotOwn : PySem.W.keepIn K (.ref C_NotOwn) = true) (sa_NotOwn : PySem.W.findIn K (.ref C_NotOwn) "__setattr__" = some (some (.builtin "object.__setattr__"))) (ga_NotOwn : PySem.W.findIn K (.ref C_NotOwn) "__getattribute__" = some (some (.builtin "BaseException.__getattribute__"))) (gh_NotOwn : PySem.W.findIn K (.ref C_NotOwn) "__getattr__" = some none)
    (cl_NotOwn : PySem.W.findIn K (.ref C_NotOwn) "__class__" = some (some (.builtin "object.__class__"))) (gg_NotOwn : PySem.W.specialIn K (.builtin "object.__class__") "__get__" = some (some (.builtin "getset_descriptor.__get__"))) (gt_NotOwn : PySem.W.takesIn K (.builtin "object.__class__") = some true)
    (hi_NotOwn : PySem.W.findIn K (.ref C_NotOwn) "__init__" = some (some (.ref fI_NotOwn))) (hf_NotOwn : PySem.W.typeIn K (.ref fI_NotOwn) = some (.type "function"))
    (lI_NotOwn : K.lookup fI_NotOwn = some ⟨oci_NotOwn, odi_NotOwn, .func (PySem.W.fnOf "__init__" "NotOwn.__init__" (Bp Dr) (Bf Dr) (Ac Dr) .none kVi_NotOwn dci_NotOwn pmi_NotOwn ani_NotOwn cdi_NotOwn cti_NotOwn), sli_NotOwn⟩) (cI_NotOwn : PySem.W.codeIn K cdi_NotOwn "NotOwn.__init__" = true) (kI_NotOwn : PySem.W.keepIn K (.ref fI_NotOwn) = true)
    (tk_NotOwn_turn : PySem.W.takerIn K C_NotOwn "turn" = some none) (nf_NotOwn_turn : PySem.W.findIn K (.ref C_NotOwn) "turn" = some none)
    {C_NoMeasure N_NoMeasure fI_NoMeasure : Addr} {nm_NoMeasure q_NoMeasure : Str} {bs_NoMeasure sub_NoMeasure : List Value} {ab_NoMeasure : Bool} {sn_NoMeasure : List Str} {col_NoMeasure : Option Bool} {dd_NoMeasure odi_NoMeasure ani_NoMeasure : Option Addr} {xa_NoMeasure xb_NoMeasure xc_NoMeasure xd_NoMeasure xf_NoMeasure : Option Value} {oci_NoMeasure kVi_NoMeasure dci_NoMeasure pmi_NoMeasure cdi_NoMeasure cti_NoMeasure : Value} {sli_NoMeasure : Array (Option Value)}
    (aC_NoMeasure : PySem.W.nsIn K mainGlobals "NoMeasure" = some (some (.ref C_NoMeasure)))
    (lC_NoMeasure : K.lookup C_NoMeasure = some (PySem.excClassObj nm_NoMeasure q_NoMeasure C_NoMeasure N_NoMeasure bs_NoMeasure (.ref U_FormError :: bmV) true sn_NoMeasure sub_NoMeasure ab_NoMeasure col_NoMeasure dd_NoMeasure xa_NoMeasure xb_NoMeasure xc_NoMeasure xd_NoMeasure xf_NoMeasure "ValueError.__new__"))
    (kC_NoMeasure : PySem.W.keepIn K (.ref C_NoMeasure) = true) (sa_NoMeasure : PySem.W.findIn K (.ref C_NoMeasure) "__setattr__" = some (some (.builtin "object.__setattr__"))) (ga_NoMeasure : PySem.W.findIn K (.ref C_NoMeasure) "__getattribute__" = some (some (.builtin "BaseException.__getattribute__"))) (gh_NoMeasure : PySem.W.findIn K (.ref C_NoMeasure) "__getattr__" = some none)
    (cl_NoMeasure : PySem.W.findIn K (.ref C_NoMeasure) "__class__" = some (some (.builtin "object.__class__"))) (gg_NoMeasure : PySem.W.specialIn K (.builtin "object.__class__") "__get__" = some (some (.builtin "getset_descriptor.__get__"))) (gt_NoMeasure : PySem.W.takesIn K (.builtin "object.__class__") = some true)
    (hi_NoMeasure : PySem.W.findIn K (.ref C_NoMeasure) "__init__" = some (some (.ref fI_NoMeasure))) (hf_NoMeasure : PySem.W.typeIn K (.ref fI_NoMeasure) = some (.type "function"))
    (lI_NoMeasure : K.lookup fI_NoMeasure = some ⟨oci_NoMeasure, odi_NoMeasure, .func (PySem.W.fnOf "__init__" "NoMeasure.__init__" (Bp Cg) (Bf Cg) (Ac Cg) .none kVi_NoMeasure dci_NoMeasure pmi_NoMeasure ani_NoMeasure cdi_NoMeasure cti_NoMeasure), sli_NoMeasure⟩) (cI_NoMeasure : PySem.W.codeIn K cdi_NoMeasure "NoMeasure.__init__" = true) (kI_NoMeasure : PySem.W.keepIn K (.ref fI_NoMeasure) = true)
    (tk_NoMeasure_number : PySem.W.takerIn K C_NoMeasure "number" = some none) (nf_NoMeasure_number : PySem.W.findIn K (.ref C_NoMeasure) "number" = some none)
    {C_NoAnswer N_NoAnswer fI_NoAnswer : Addr} {nm_NoAnswer q_NoAnswer : Str} {bs_NoAnswer sub_NoAnswer : List Value} {ab_NoAnswer : Bool} {sn_NoAnswer : List Str} {col_NoAnswer : Option Bool} {dd_NoAnswer odi_NoAnswer ani_NoAnswer : Option Addr} {xa_NoAnswer xb_NoAnswer xc_NoAnswer xd_NoAnswer xf_NoAnswer : Option Value} {oci_NoAnswer kVi_NoAnswer dci_NoAnswer pmi_NoAnswer cdi_NoAnswer cti_NoAnswer : Value} {sli_NoAnswer : Array (Option Value)}
    (aC_NoAnswer : PySem.W.nsIn K mainGlobals "NoAnswer" = some (some (.ref C_NoAnswer)))
    (lC_NoAnswer : K.lookup C_NoAnswer = some (PySem.excClassObj nm_NoAnswer q_NoAnswer C_NoAnswer N_NoAnswer bs_NoAnswer (.ref U_FormError :: bmV) true sn_NoAnswer sub_NoAnswer ab_NoAnswer col_NoAnswer dd_NoAnswer xa_NoAnswer xb_NoAnswer xc_NoAnswer xd_NoAnswer xf_NoAnswer "ValueError.__new__"))
    (kC_NoAnswer : PySem.W.keepIn K (.ref C_NoAnswer) = true) (sa_NoAnswer : PySem.W.findIn K (.ref C_NoAnswer) "__setattr__" = some (some (.builtin "object.__setattr__"))) (ga_NoAnswer : PySem.W.findIn K (.ref C_NoAnswer) "__getattribute__" = some (some (.builtin "BaseException.__getattribute__"))) (gh_NoAnswer : PySem.W.findIn K (.ref C_NoAnswer) "__getattr__" = some none)
    (cl_NoAnswer : PySem.W.findIn K (.ref C_NoAnswer) "__class__" = some (some (.builtin "object.__class__"))) (gg_NoAnswer : PySem.W.specialIn K (.builtin "object.__class__") "__get__" = some (some (.builtin "getset_descriptor.__get__"))) (gt_NoAnswer : PySem.W.takesIn K (.builtin "object.__class__") = some true)
    (hi_NoAnswer : PySem.W.findIn K (.ref C_NoAnswer) "__init__" = some (some (.ref fI_NoAnswer))) (hf_NoAnswer : PySem.W.typeIn K (.ref fI_NoAnswer) = some (.type "function"))
    (lI_NoAnswer : K.lookup fI_NoAnswer = some ⟨oci_NoAnswer, odi_NoAnswer, .func (PySem.W.fnOf "__init__" "NoAnswer.__init__" (Bp Cw) (Bf Cw) (Ac Cw) .none kVi_NoAnswer dci_NoAnswer pmi_NoAnswer ani_NoAnswer cdi_NoAnswer cti_NoAnswer), sli_NoAnswer⟩) (cI_NoAnswer : PySem.W.codeIn K cdi_NoAnswer "NoAnswer.__init__" = true) (kI_NoAnswer : PySem.W.keepIn K (.ref fI_NoAnswer) = true)
    (tk_NoAnswer_point : PySem.W.takerIn K C_NoAnswer "point" = some none) (nf_NoAnswer_point : PySem.W.findIn K (.ref C_NoAnswer) "point" = some none)
    {cd_Apart : ClassData} (zA_Apart : PySem.W.clsIn K C_Apart = some cd_Apart) (tA_Apart : PySem.W.typeIn K (.ref C_Apart) = some (.type "type"))
    (m_NoShape_Apart : PySem.W.mroIn K C_NoShape (.ref C_Apart) = some false)
    (m_TooGreat_Apart : PySem.W.mroIn K C_TooGreat (.ref C_Apart) = some false)
    {cd_NoAnswer : ClassData} (zA_NoAnswer : PySem.W.clsIn K C_NoAnswer = some cd_NoAnswer) (tA_NoAnswer : PySem.W.typeIn K (.ref C_NoAnswer) = some (.type "type"))
    (m_NoShape_NoAnswer : PySem.W.mroIn K C_NoShape (.ref C_NoAnswer) = some false)
    (m_TooGreat_NoAnswer : PySem.W.mroIn K C_TooGreat (.ref C_NoAnswer) = some false)
    {cd_NoMeasure : ClassData} (zA_NoMeasure : PySem.W.clsIn K C_NoMeasure = some cd_NoMeasure) (tA_NoMeasure : PySem.W.typeIn K (.ref C_NoMeasure) = some (.type "type"))
    (m_NoShape_NoMeasure : PySem.W.mroIn K C_NoShape (.ref C_NoMeasure) = some false)
    (m_TooGreat_NoMeasure : PySem.W.mroIn K C_TooGreat (.ref C_NoMeasure) = some false)
    {cd_NoRoot : ClassData} (zA_NoRoot : PySem.W.clsIn K C_NoRoot = some cd_NoRoot) (tA_NoRoot : PySem.W.typeIn K (.ref C_NoRoot) = some (.type "type"))
    (m_NoShape_NoRoot : PySem.W.mroIn K C_NoShape (.ref C_NoRoot) = some false)
    (m_TooGreat_NoRoot : PySem.W.mroIn K C_TooGreat (.ref C_NoRoot) = some false)
    {cd_NoTurn : ClassData} (zA_NoTurn : PySem.W.clsIn K C_NoTurn = some cd_NoTurn) (tA_NoTurn : PySem.W.typeIn K (.ref C_NoTurn) = some (.type "type"))
    (m_NoShape_NoTurn : PySem.W.mroIn K C_NoShape (.ref C_NoTurn) = some false)
    (m_TooGreat_NoTurn : PySem.W.mroIn K C_TooGreat (.ref C_NoTurn) = some false)
    {cd_NotLevel : ClassData} (zA_NotLevel : PySem.W.clsIn K C_NotLevel = some cd_NotLevel) (tA_NotLevel : PySem.W.typeIn K (.ref C_NotLevel) = some (.type "type"))
    (m_NoShape_NotLevel : PySem.W.mroIn K C_NoShape (.ref C_NotLevel) = some false)
    (m_TooGreat_NotLevel : PySem.W.mroIn K C_TooGreat (.ref C_NotLevel) = some false)
    {cd_NotOwn : ClassData} (zA_NotOwn : PySem.W.clsIn K C_NotOwn = some cd_NotOwn) (tA_NotOwn : PySem.W.typeIn K (.ref C_NotOwn) = some (.type "type"))
    (m_NoShape_NotOwn : PySem.W.mroIn K C_NoShape (.ref C_NotOwn) = some false)
    (m_TooGreat_NotOwn : PySem.W.mroIn K C_TooGreat (.ref C_NotOwn) = some false)
    {cd_NotPlain : ClassData} (zA_NotPlain : PySem.W.clsIn K C_NotPlain = some cd_NotPlain) (tA_NotPlain : PySem.W.typeIn K (.ref C_NotPlain) = some (.type "type"))
    (m_NoShape_NotPlain : PySem.W.mroIn K C_NoShape (.ref C_NotPlain) = some false)
    (m_TooGreat_NotPlain : PySem.W.mroIn K C_TooGreat (.ref C_NotPlain) = some false)
    {cd_Nought : ClassData} (zA_Nought : PySem.W.clsIn K C_Nought = some cd_Nought) (tA_Nought : PySem.W.typeIn K (.ref C_Nought) = some (.type "type"))
    (m_NoShape_Nought : PySem.W.mroIn K C_NoShape (.ref C_Nought) = some false)
    (m_TooGreat_Nought : PySem.W.mroIn K C_TooGreat (.ref C_Nought) = some false)
    {cd_NoShape : ClassData} (zA_NoShape : PySem.W.clsIn K C_NoShape = some cd_NoShape) (tA_NoShape : PySem.W.typeIn K (.ref C_NoShape) = some (.type "type"))
    (m_TooGreat_NoShape : PySem.W.mroIn K C_TooGreat (.ref C_NoShape) = some false)
    {cd_TooGreat : ClassData} (zA_TooGreat : PySem.W.clsIn K C_TooGreat = some cd_TooGreat) (tA_TooGreat : PySem.W.typeIn K (.ref C_TooGreat) = some (.type "type"))
    (m_NoShape_TooGreat : PySem.W.mroIn K C_NoShape (.ref C_TooGreat) = some false)
    {cd_FormError : ClassData} (zA_FormError : PySem.W.clsIn K U_FormError = some cd_FormError) (tA_FormError : PySem.W.typeIn K (.ref U_FormError) = some (.type "type"))
    {C_SAME : Addr} {od_SAME : Option Addr} {sl_SAME : Array (Option Value)} {n_SAME : Nat} {t_SAME_0 : Tok} {t_SAME_1 : Tok} {t_SAME_2 : Tok} {t_SAME_3 : Tok}
    (a_SAME : PySem.W.nsIn K mainGlobals "SAME" = some (some (.ref C_SAME))) (l_SAME : K.lookup C_SAME = some ⟨.type "tuple", od_SAME, .seq #[.int (1) t_SAME_0, .int (0) t_SAME_1, .int (0) t_SAME_2, .int (1) t_SAME_3] n_SAME, sl_SAME⟩)
    {t_MOST_MEASURE : Tok} (a_MOST_MEASURE : PySem.W.nsIn K mainGlobals "MOST_MEASURE" = some (some (.int (4000) t_MOST_MEASURE)))
    : ∃ fd : FuncData, (∀ (s : Shared) (v : Value), BindsTo s fd ⟨[v], []⟩ [("_law_script", v)]) ∧ ∀ base : Heap, K.In base → base.Ns mainGlobals mg → DY l.prog w K mg base CX0 10 fa fd ["_law_script"] (lSp K JB) := by
  obtain ⟨f24, oc24, od24, kV24, dc24, pm24, an24, cd24, ct24, sl24, a24, l24, c24, k24⟩ := h24
  have e := hfa.symm.trans (PySem.W.mg_of X G a24)
  cases e
  have F24 := Du (st := Gf) l24 c24 k24
  have X_Apart : XC K C_Apart U_FormError := ⟨⟨_, _, _, _, _, _, _, _, _, _, _, _, _, _, lC_Apart⟩, ⟨_, _, _, _, _, _, _, _, _, lU_FormError, lN_FormError, sk_FormError, ni_FormError⟩, sa_Apart, ga_Apart, gh_Apart, cl_Apart, gg_Apart, gt_Apart⟩
  have X_Nought : XC K C_Nought U_FormError := ⟨⟨_, _, _, _, _, _, _, _, _, _, _, _, _, _, lC_Nought⟩, ⟨_, _, _, _, _, _, _, _, _, lU_FormError, lN_FormError, sk_FormError, ni_FormError⟩, sa_Nought, ga_Nought, gh_Nought, cl_Nought, gg_Nought, gt_Nought⟩
  have X_NoShape : XC K C_NoShape U_FormError := ⟨⟨_, _, _, _, _, _, _, _, _, _, _, _, _, _, lC_NoShape⟩, ⟨_, _, _, _, _, _, _, _, _, lU_FormError, lN_FormError, sk_FormError, ni_FormError⟩, sa_NoShape, ga_NoShape, gh_NoShape, cl_NoShape, gg_NoShape, gt_NoShape⟩
  have FI_NoShape := Du (st := Df) lI_NoShape cI_NoShape kI_NoShape
  have X_TooGreat : XC K C_TooGreat U_FormError := ⟨⟨_, _, _, _, _, _, _, _, _, _, _, _, _, _, lC_TooGreat⟩, ⟨_, _, _, _, _, _, _, _, _, lU_FormError, lN_FormError, sk_FormError, ni_FormError⟩, sa_TooGreat, ga_TooGreat, gh_TooGreat, cl_TooGreat, gg_TooGreat, gt_TooGreat⟩
  have FI_TooGreat := Du (st := Cm) lI_TooGreat cI_TooGreat kI_TooGreat
  have X_NoRoot : XC K C_NoRoot U_FormError := ⟨⟨_, _, _, _, _, _, _, _, _, _, _, _, _, _, lC_NoRoot⟩, ⟨_, _, _, _, _, _, _, _, _, lU_FormError, lN_FormError, sk_FormError, ni_FormError⟩, sa_NoRoot, ga_NoRoot, gh_NoRoot, cl_NoRoot, gg_NoRoot, gt_NoRoot⟩
  have FI_NoRoot := Du (st := Dq) lI_NoRoot cI_NoRoot kI_NoRoot
  have X_NotLevel : XC K C_NotLevel U_FormError := ⟨⟨_, _, _, _, _, _, _, _, _, _, _, _, _, _, lC_NotLevel⟩, ⟨_, _, _, _, _, _, _, _, _, lU_FormError, lN_FormError, sk_FormError, ni_FormError⟩, sa_NotLevel, ga_NotLevel, gh_NotLevel, cl_NotLevel, gg_NotLevel, gt_NotLevel⟩
  have FI_NotLevel := Du (st := Cp) lI_NotLevel cI_NotLevel kI_NotLevel
  have X_NotPlain : XC K C_NotPlain U_FormError := ⟨⟨_, _, _, _, _, _, _, _, _, _, _, _, _, _, lC_NotPlain⟩, ⟨_, _, _, _, _, _, _, _, _, lU_FormError, lN_FormError, sk_FormError, ni_FormError⟩, sa_NotPlain, ga_NotPlain, gh_NotPlain, cl_NotPlain, gg_NotPlain, gt_NotPlain⟩
  have FI_NotPlain := Du (st := CG) lI_NotPlain cI_NotPlain kI_NotPlain
  have X_NoTurn : XC K C_NoTurn U_FormError := ⟨⟨_, _, _, _, _, _, _, _, _, _, _, _, _, _, lC_NoTurn⟩, ⟨_, _, _, _, _, _, _, _, _, lU_FormError, lN_FormError, sk_FormError, ni_FormError⟩, sa_NoTurn, ga_NoTurn, gh_NoTurn, cl_NoTurn, gg_NoTurn, gt_NoTurn⟩
  have FI_NoTurn := Du (st := Dp) lI_NoTurn cI_NoTurn kI_NoTurn
  have X_NotOwn : XC K C_NotOwn U_FormError := ⟨⟨_, _, _, _, _, _, _, _, _, _, _, _, _, _, lC_NotOwn⟩, ⟨_, _, _, _, _, _, _, _, _, lU_FormError, lN_FormError, sk_FormError, ni_FormError⟩, sa_NotOwn, ga_NotOwn, gh_NotOwn, cl_NotOwn, gg_NotOwn, gt_NotOwn⟩
  have FI_NotOwn := Du (st := Dr) lI_NotOwn cI_NotOwn kI_NotOwn
  have X_NoMeasure : XC K C_NoMeasure U_FormError := ⟨⟨_, _, _, _, _, _, _, _, _, _, _, _, _, _, lC_NoMeasure⟩, ⟨_, _, _, _, _, _, _, _, _, lU_FormError, lN_FormError, sk_FormError, ni_FormError⟩, sa_NoMeasure, ga_NoMeasure, gh_NoMeasure, cl_NoMeasure, gg_NoMeasure, gt_NoMeasure⟩
  have FI_NoMeasure := Du (st := Cg) lI_NoMeasure cI_NoMeasure kI_NoMeasure
  have X_NoAnswer : XC K C_NoAnswer U_FormError := ⟨⟨_, _, _, _, _, _, _, _, _, _, _, _, _, _, lC_NoAnswer⟩, ⟨_, _, _, _, _, _, _, _, _, lU_FormError, lN_FormError, sk_FormError, ni_FormError⟩, sa_NoAnswer, ga_NoAnswer, gh_NoAnswer, cl_NoAnswer, gg_NoAnswer, gt_NoAnswer⟩
  have FI_NoAnswer := Du (st := Cw) lI_NoAnswer cI_NoAnswer kI_NoAnswer
  have T : Txt K mg := {
    xt_Apart := ⟨_, _, ⟨aC_Apart, PySem.W.mg_of X G aC_Apart, kC_Apart, ⟨_, _, _, _, _, _, _, _, _, _, _, _, _, _, _, _, _, _, _, _, lC_Apart, lN_Apart, sk_Apart, ni_Apart⟩, fun h Y => X_Apart.own Y, X_Apart.xb⟩, X_Apart⟩
    xt_Nought := ⟨_, _, ⟨aC_Nought, PySem.W.mg_of X G aC_Nought, kC_Nought, ⟨_, _, _, _, _, _, _, _, _, _, _, _, _, _, _, _, _, _, _, _, lC_Nought, lN_Nought, sk_Nought, ni_Nought⟩, fun h Y => X_Nought.own Y, X_Nought.xb⟩, X_Nought⟩
    xf_FormError := ⟨_, ⟨aU_FormError, PySem.W.mg_of X G aU_FormError, kC_FormError, ⟨_, _, _, _, _, _, _, _, _, _, _, _, _, _, _, _, _, _, _, _, ni_id_FormError ▸ lU_FormError, lN_FormError, sk_FormError, ni_FormError⟩, fun _ _ => .base, ⟨⟨_, _, _, _, _, _, _, _, _, _, _, _, _, _, _, _, ni_id_FormError ▸ lU_FormError⟩, mb_FormError, mo_FormError, ga_FormError, gh_FormError, cl_FormError, gg_FormError, gt_FormError⟩⟩, mv_FormError⟩
    x_NoShape := ⟨_, _, _, _, aC_NoShape, PySem.W.mg_of X G aC_NoShape, kC_NoShape, X_NoShape, hi_NoShape, hf_NoShape, FI_NoShape.binds (ps := ["self", "form"]) fun _ _ _ _ _ _ us hl => match us, hl with | [_, _], _ => rfl, rfl, FI_NoShape, fun f hf => by simp only [List.mem_cons, List.not_mem_nil, or_false] at hf; subst hf; exact tk_NoShape_form⟩
    un_NoShape_FormError := Under.mk aC_NoShape X_NoShape (PySem.W.mg_of X G aU_FormError)
    nf_NoShape_form := CV.mk aC_NoShape nf_NoShape_form
    x_TooGreat := ⟨_, _, _, _, aC_TooGreat, PySem.W.mg_of X G aC_TooGreat, kC_TooGreat, X_TooGreat, hi_TooGreat, hf_TooGreat, FI_TooGreat.binds (ps := ["self", "number", "most"]) fun _ _ _ _ _ _ us hl => match us, hl with | [_, _, _], _ => rfl, rfl, FI_TooGreat, fun f hf => by simp only [List.mem_cons, List.not_mem_nil, or_false] at hf; rcases hf with hf | hf <;> (subst hf; first | exact tk_TooGreat_number | exact tk_TooGreat_most)⟩
    un_TooGreat_FormError := Under.mk aC_TooGreat X_TooGreat (PySem.W.mg_of X G aU_FormError)
    nf_TooGreat_number := CV.mk aC_TooGreat nf_TooGreat_number
    nf_TooGreat_most := CV.mk aC_TooGreat nf_TooGreat_most
    x_NoRoot := ⟨_, _, _, _, aC_NoRoot, PySem.W.mg_of X G aC_NoRoot, kC_NoRoot, X_NoRoot, hi_NoRoot, hf_NoRoot, FI_NoRoot.binds (ps := ["self", "number"]) fun _ _ _ _ _ _ us hl => match us, hl with | [_, _], _ => rfl, rfl, FI_NoRoot, fun f hf => by simp only [List.mem_cons, List.not_mem_nil, or_false] at hf; subst hf; exact tk_NoRoot_number⟩
    nf_NoRoot_number := CV.mk aC_NoRoot nf_NoRoot_number
    x_NotLevel := ⟨_, _, _, _, aC_NotLevel, PySem.W.mg_of X G aC_NotLevel, kC_NotLevel, X_NotLevel, hi_NotLevel, hf_NotLevel, FI_NotLevel.binds (ps := ["self", "form"]) fun _ _ _ _ _ _ us hl => match us, hl with | [_, _], _ => rfl, rfl, FI_NotLevel, fun f hf => by simp only [List.mem_cons, List.not_mem_nil, or_false] at hf; subst hf; exact tk_NotLevel_form⟩
    nf_NotLevel_form := CV.mk aC_NotLevel nf_NotLevel_form
    x_NotPlain := ⟨_, _, _, _, aC_NotPlain, PySem.W.mg_of X G aC_NotPlain, kC_NotPlain, X_NotPlain, hi_NotPlain, hf_NotPlain, FI_NotPlain.binds (ps := ["self", "form"]) fun _ _ _ _ _ _ us hl => match us, hl with | [_, _], _ => rfl, rfl, FI_NotPlain, fun f hf => by simp only [List.mem_cons, List.not_mem_nil, or_false] at hf; subst hf; exact tk_NotPlain_form⟩
    nf_NotPlain_form := CV.mk aC_NotPlain nf_NotPlain_form
    x_NoTurn := ⟨_, _, _, _, aC_NoTurn, PySem.W.mg_of X G aC_NoTurn, kC_NoTurn, X_NoTurn, hi_NoTurn, hf_NoTurn, FI_NoTurn.binds (ps := ["self", "turn"]) fun _ _ _ _ _ _ us hl => match us, hl with | [_, _], _ => rfl, rfl, FI_NoTurn, fun f hf => by simp only [List.mem_cons, List.not_mem_nil, or_false] at hf; subst hf; exact tk_NoTurn_turn⟩
    nf_NoTurn_turn := CV.mk aC_NoTurn nf_NoTurn_turn
    x_NotOwn := ⟨_, _, _, _, aC_NotOwn, PySem.W.mg_of X G aC_NotOwn, kC_NotOwn, X_NotOwn, hi_NotOwn, hf_NotOwn, FI_NotOwn.binds (ps := ["self", "turn"]) fun _ _ _ _ _ _ us hl => match us, hl with | [_, _], _ => rfl, rfl, FI_NotOwn, fun f hf => by simp only [List.mem_cons, List.not_mem_nil, or_false] at hf; subst hf; exact tk_NotOwn_turn⟩
    nf_NotOwn_turn := CV.mk aC_NotOwn nf_NotOwn_turn
    x_NoMeasure := ⟨_, _, _, _, aC_NoMeasure, PySem.W.mg_of X G aC_NoMeasure, kC_NoMeasure, X_NoMeasure, hi_NoMeasure, hf_NoMeasure, FI_NoMeasure.binds (ps := ["self", "number"]) fun _ _ _ _ _ _ us hl => match us, hl with | [_, _], _ => rfl, rfl, FI_NoMeasure, fun f hf => by simp only [List.mem_cons, List.not_mem_nil, or_false] at hf; subst hf; exact tk_NoMeasure_number⟩
    nf_NoMeasure_number := CV.mk aC_NoMeasure nf_NoMeasure_number
    x_NoAnswer := ⟨_, _, _, _, aC_NoAnswer, PySem.W.mg_of X G aC_NoAnswer, kC_NoAnswer, X_NoAnswer, hi_NoAnswer, hf_NoAnswer, FI_NoAnswer.binds (ps := ["self", "point"]) fun _ _ _ _ _ _ us hl => match us, hl with | [_, _], _ => rfl, rfl, FI_NoAnswer, fun f hf => by simp only [List.mem_cons, List.not_mem_nil, or_false] at hf; subst hf; exact tk_NoAnswer_point⟩
    nf_NoAnswer_point := CV.mk aC_NoAnswer nf_NoAnswer_point
    u_FormError := ⟨_, PySem.W.mg_of X G aU_FormError, _, _, _, _, _, _, _, _, _, _, _, _, _, _, _, _, lU_FormError⟩
    c_Apart := ⟨_, PySem.W.mg_of X G aC_Apart, Ay.no aC_NoShape X_NoShape zA_Apart tA_Apart m_NoShape_Apart, Ay.no aC_TooGreat X_TooGreat zA_Apart tA_Apart m_TooGreat_Apart⟩
    c_NoAnswer := ⟨_, PySem.W.mg_of X G aC_NoAnswer, Ay.no aC_NoShape X_NoShape zA_NoAnswer tA_NoAnswer m_NoShape_NoAnswer, Ay.no aC_TooGreat X_TooGreat zA_NoAnswer tA_NoAnswer m_TooGreat_NoAnswer⟩
    c_NoMeasure := ⟨_, PySem.W.mg_of X G aC_NoMeasure, Ay.no aC_NoShape X_NoShape zA_NoMeasure tA_NoMeasure m_NoShape_NoMeasure, Ay.no aC_TooGreat X_TooGreat zA_NoMeasure tA_NoMeasure m_TooGreat_NoMeasure⟩
    c_NoRoot := ⟨_, PySem.W.mg_of X G aC_NoRoot, Ay.no aC_NoShape X_NoShape zA_NoRoot tA_NoRoot m_NoShape_NoRoot, Ay.no aC_TooGreat X_TooGreat zA_NoRoot tA_NoRoot m_TooGreat_NoRoot⟩
    c_NoTurn := ⟨_, PySem.W.mg_of X G aC_NoTurn, Ay.no aC_NoShape X_NoShape zA_NoTurn tA_NoTurn m_NoShape_NoTurn, Ay.no aC_TooGreat X_TooGreat zA_NoTurn tA_NoTurn m_TooGreat_NoTurn⟩
    c_NotLevel := ⟨_, PySem.W.mg_of X G aC_NotLevel, Ay.no aC_NoShape X_NoShape zA_NotLevel tA_NotLevel m_NoShape_NotLevel, Ay.no aC_TooGreat X_TooGreat zA_NotLevel tA_NotLevel m_TooGreat_NotLevel⟩
    c_NotOwn := ⟨_, PySem.W.mg_of X G aC_NotOwn, Ay.no aC_NoShape X_NoShape zA_NotOwn tA_NotOwn m_NoShape_NotOwn, Ay.no aC_TooGreat X_TooGreat zA_NotOwn tA_NotOwn m_TooGreat_NotOwn⟩
    c_NotPlain := ⟨_, PySem.W.mg_of X G aC_NotPlain, Ay.no aC_NoShape X_NoShape zA_NotPlain tA_NotPlain m_NoShape_NotPlain, Ay.no aC_TooGreat X_TooGreat zA_NotPlain tA_NotPlain m_TooGreat_NotPlain⟩
    c_Nought := ⟨_, PySem.W.mg_of X G aC_Nought, Ay.no aC_NoShape X_NoShape zA_Nought tA_Nought m_NoShape_Nought, Ay.no aC_TooGreat X_TooGreat zA_Nought tA_Nought m_TooGreat_Nought⟩
    c_NoShape := ⟨_, PySem.W.mg_of X G aC_NoShape, Ay.self aC_NoShape, Ay.no aC_TooGreat X_TooGreat zA_NoShape tA_NoShape m_TooGreat_NoShape⟩
    c_TooGreat := ⟨_, PySem.W.mg_of X G aC_TooGreat, Ay.no aC_NoShape X_NoShape zA_TooGreat tA_TooGreat m_NoShape_TooGreat, Ay.self aC_TooGreat⟩
    c_FormError := ⟨_, PySem.W.mg_of X G aU_FormError, Ay.yes aC_NoShape X_NoShape zA_FormError tA_FormError, Ay.yes aC_TooGreat X_TooGreat zA_FormError tA_FormError, Ay.yes aC_Apart X_Apart zA_FormError tA_FormError, Ay.yes aC_Nought X_Nought zA_FormError tA_FormError⟩
    z_ValueError := PySem.W.mg_none_of X G z_ValueError
    t_root := tM X G h0 (by walk_at "b1")
    t_is_square := tM X G h1 (by walk_at "b1")
    t_check_at_most := tM X G h2 (by walk_at "b2")
    t_measure := tM X G h3 (by walk_at "b1")
    t_shape := tM X G h4 (by walk_at "b1")
    t_check_saddle := tM X G h5 (by walk_at "b1")
    t_is_level := tM X G h6 (by walk_at "b1")
    t_stands_level := tM X G h7 (by walk_at "b2")
    t_after := tM X G h8 (by walk_at "b1")
    t_eased := tM X G h9 (by walk_at "b1")
    t_round_of := tM X G h10 (by walk_at "b1")
    t_step_of := tM X G h11 (by walk_at "b1")
    t_power_of := tM X G h12 (by walk_at "b2")
    t__law_cell := tM X G h13 (by walk_at "b2")
    t__law_bar := tM X G h14 (by walk_at "b1")
    t__law_root := tM X G h15 (by walk_at "b1")
    t__law_number := tM X G h16 (by walk_at "b1")
    t__law_form := tM X G h17 (by walk_at "b1")
    t__law_ask := tM X G h18 (by walk_at "b2")
    t__law_told := tM X G h19 (by walk_at "b2")
    t__law_others := tM X G h20 (by walk_at "b1")
    t__law_no_shape := tM X G h21 (by walk_at "b2")
    t__law_too_great := tM X G h22 (by walk_at "b3")
    t__law_made := tM X G h23 (by walk_at "b1")
    t_law := ⟨_, _, F24, PySem.W.mg_of X G a24, F24.binds (ps := ["_law_script"]) fun _ _ _ _ _ _ us hl => match us, hl with | [_], _ => rfl⟩
    z_abs := PySem.W.mg_none_of X G z_abs
    z_bool := PySem.W.mg_none_of X G z_bool
    z_isinstance := PySem.W.mg_none_of X G z_isinstance
    z_len := PySem.W.mg_none_of X G z_len
    z_max := PySem.W.mg_none_of X G z_max
    z_min := PySem.W.mg_none_of X G z_min
    k_SAME := ⟨_, PySem.W.mg_of X G a_SAME, fun H => Er.mpr ⟨_, [.int (1), .int (0), .int (0), .int (1)], rfl, .inr ⟨_, _, _, l_SAME, rfl, rfl, Bo (by show 4 ≤ 1000; decide), .cons ⟨_, rfl⟩ (.cons ⟨_, rfl⟩ (.cons ⟨_, rfl⟩ (.cons ⟨_, rfl⟩ (.nil))))⟩, RpL.cons (Bc.mpr rfl) (RpL.cons (Bc.mpr rfl) (RpL.cons (Bc.mpr rfl) (RpL.cons (Bc.mpr rfl) (RpL.nil))))⟩⟩
    m_MOST_MEASURE := ⟨_, PySem.W.mg_of X G a_MOST_MEASURE⟩
  }
  refine ⟨PySem.W.fnOf "law" "law" (Bp Gf) (Bf Gf) (Ac Gf) .none kV24 dc24 pm24 an24 cd24 ct24, fun s v => .of_eq rfl, fun base kb nb => ?_⟩
  have g_root := Rt l.prog w base T 
  have g_measure := KY l.prog w base T 
  have g_stands_level := Hs l.prog w base T 
  have g__law_cell := IK l.prog w base T 
  have g__law_bar := Ku l.prog w base T 
  have g__law_root := JG l.prog w base T 
  have g__law_number := HX l.prog w base T 
  have g__law_others := HW l.prog w base T 
  have g_is_square := JC l.prog w base T g_root
  have g__law_form := Ju l.prog w base T g__law_number
  have gx_check_at_most := Gu l.prog w base T 
  have g_shape := Pj l.prog w base T g_measure g_is_square
  have g__law_made := Jk l.prog w base T 
  have gx_check_saddle := GX l.prog w base T gx_check_at_most g_shape g_measure
  have g_check_saddle := Ho gx_check_saddle
  have gx_is_level := IW l.prog w base T gx_check_saddle g_stands_level g_root g_measure
  have g_is_level := J8 gx_is_level
  have gx_after := Mj l.prog w base T gx_check_saddle
  have gx_eased := MJ l.prog w base T gx_check_saddle
  have gx_round_of := Jl l.prog w base T gx_check_saddle
  have gx_step_of := J7 l.prog w base T gx_check_saddle
  have gx_power_of := Jj l.prog w base T gx_check_saddle
  have gx__law_ask := Je l.prog w base T gx_power_of gx_is_level gx_after gx_eased gx_round_of gx_step_of
  have g__law_told := I8 l.prog w base T gx__law_ask
  have g__law_no_shape := G4 l.prog w base T g__law_told g__law_others
  have g__law_too_great := GD l.prog w base T g__law_told g__law_others
  have g_law := V5 l.prog w base T g__law_form g__law_bar g__law_made g_is_level g__law_cell g__law_root g__law_too_great g__law_no_shape
  obtain ⟨f, fd, FT, GG⟩ := g_law
  have e1 := FT.mg.symm.trans (PySem.W.mg_of X G a24)
  cases e1
  have e2 := FT.fn.uniq F24
  subst e2
  exact GG
theorem walk {l : PySem.W.OpenLaw} {q : Program} {loose : List Str} {XP : (Str → Option Value) → Heap → Prop} {YP : World → Heap → Prop} {d : DefRec} {K : Params → PySem.W.Frag} (hn : l.most = some 63) (hdf : d.params.defaults = [])
    (hY : ∀ (w : World) (h : Heap), YP w h → (K w.params).In h)
    (F : ∀ (w : World) (mg : Str → Option Value) (fa : Addr) (h : Heap), (K w.params).In h → h.Ns mainGlobals mg → mg d.name = some (.ref fa) →
      ∃ fd : FuncData, (∀ (s : Shared) (u : Value), BindsTo s fd ⟨[u], []⟩ [("_law_script", u)]) ∧ ∀ base : Heap, (K w.params).In base → base.Ns mainGlobals mg → DY l.prog w (K w.params) mg base CX0 10 fa fd ["_law_script"] (lSp (K w.params) JB)) :
    PySem.W.WalkO q loose XP YP l.row.toRowW d [] (fun f vs => PySem.call f vs) :=
  L2.Q8 (n := 63) (k := 10) (x := "_law_script") (CX := fun _ => CX0) (sp := fun w => lSp (K w.params) JB) hn (by decide) hdf ⟨rfl, by decide, by decide⟩ hY F (fun w H a ns hl _ hS => Mt hl hS) fun _ _ _ _ _ z => z
end My
open PySem PySem.W PyProof.Rows
local macro_rules | `(tactic| walk_at "nF") => `(tactic| (refine' My.U3 ?qa ?ql ?qc ?qk; (case qa => k_is); (case ql => k_is); (case qc => k_is); (case qk => k_is)))
theorem My.hFk {K : PySem.W.Frag} {n : PySem.Str} {s : PySem.Stmt} (f : PySem.Addr) (m : String) (t c : Nat) (a : PySem.W.nsIn K PySem.mainGlobals n = some (some (.ref f)) := by kernel_rfl) (l : K.lookup f = some ⟨.type "function", none, .func (PySem.W.fnOf n n (L2.Bp s) (L2.Bf s) (L2.Ac s) .none .none .none (.str (.ofString m) t) none (.ref c) .none), #[]⟩ := by kernel_rfl) (d : PySem.W.codeIn K (.ref c) n = true := by kernel_rfl) (k : PySem.W.keepIn K (.ref f) = true := by kernel_rfl) : My.nF K n s := My.U3 a l d k
theorem My.hF0 (P : PySem.Params) : My.nF (My.KK P) "root" My.FZ := My.hFk 236 "formcycle.wholes" 466 235
theorem My.hF1 (P : PySem.Params) : My.nF (My.KK P) "is_square" My.Cr := My.hFk 243 "formcycle.wholes" 466 242
theorem My.hF2 (P : PySem.Params) : My.nF (My.KK P) "check_at_most" My.Bu := My.hFk 250 "formcycle.wholes" 466 249
theorem My.hF3 (P : PySem.Params) : My.nF (My.KK P) "measure" My.Cu := My.hFk 286 "formcycle.forms" 538 285
theorem My.hF4 (P : PySem.Params) : My.nF (My.KK P) "shape" My.Fw := My.hFk 321 "formcycle.forms" 538 320
theorem My.hF5 (P : PySem.Params) : My.nF (My.KK P) "check_saddle" My.Ao := My.hFk 328 "formcycle.saddles" 592 327
theorem My.hF6 (P : PySem.Params) : My.nF (My.KK P) "is_level" My.BR := My.hFk 335 "formcycle.saddles" 592 334
theorem My.hF7 (P : PySem.Params) : My.nF (My.KK P) "stands_level" My.BL := My.hFk 342 "formcycle.saddles" 592 341
theorem My.hF8 (P : PySem.Params) : My.nF (My.KK P) "after" My.Fv := My.hFk 349 "formcycle.saddles" 592 348
theorem My.hF9 (P : PySem.Params) : My.nF (My.KK P) "eased" My.Fy := My.hFk 370 "formcycle.saddles" 592 369
theorem My.hF10 (P : PySem.Params) : My.nF (My.KK P) "round_of" My.Dc := My.hFk 382 "formcycle.saddles" 592 381
theorem My.hF11 (P : PySem.Params) : My.nF (My.KK P) "step_of" My.Dn := My.hFk 389 "formcycle.saddles" 592 388
theorem My.hF12 (P : PySem.Params) : My.nF (My.KK P) "power_of" My.Dg := My.hFk 403 "formcycle.saddles" 592 402
theorem My.hF13 (P : PySem.Params) : My.nF (My.KK P) "_law_cell" My.CK := My.hFk 417 "law_formcycle_k29_no_saddle" 718 416
theorem My.hF14 (P : PySem.Params) : My.nF (My.KK P) "_law_bar" My.CZ := My.hFk 424 "law_formcycle_k29_no_saddle" 718 423
theorem My.hF15 (P : PySem.Params) : My.nF (My.KK P) "_law_root" My.CJ := My.hFk 431 "law_formcycle_k29_no_saddle" 718 430
theorem My.hF16 (P : PySem.Params) : My.nF (My.KK P) "_law_number" My.BW := My.hFk 438 "law_formcycle_k29_no_saddle" 718 437
theorem My.hF17 (P : PySem.Params) : My.nF (My.KK P) "_law_form" My.Cy := My.hFk 445 "law_formcycle_k29_no_saddle" 718 444
theorem My.hF18 (P : PySem.Params) : My.nF (My.KK P) "_law_ask" My.CW := My.hFk 452 "law_formcycle_k29_no_saddle" 718 451
theorem My.hF19 (P : PySem.Params) : My.nF (My.KK P) "_law_told" My.BX := My.hFk 459 "law_formcycle_k29_no_saddle" 718 458
theorem My.hF20 (P : PySem.Params) : My.nF (My.KK P) "_law_others" My.BK := My.hFk 466 "law_formcycle_k29_no_saddle" 718 465
theorem My.hF21 (P : PySem.Params) : My.nF (My.KK P) "_law_no_shape" My.Bs := My.hFk 473 "law_formcycle_k29_no_saddle" 718 472
theorem My.hF22 (P : PySem.Params) : My.nF (My.KK P) "_law_too_great" My.Bk := My.hFk 480 "law_formcycle_k29_no_saddle" 718 479
theorem My.hF23 (P : PySem.Params) : My.nF (My.KK P) "_law_made" My.Cq := My.hFk 487 "law_formcycle_k29_no_saddle" 718 486
theorem My.hF24 (P : PySem.Params) : My.nF (My.KK P) "law" My.Gf := My.hFk 494 "law_formcycle_k29_no_saddle" 718 493
set_option maxRecDepth 100000 in
set_option maxHeartbeats 0 in
theorem PySem.Challenge.cw_formcycle_k29_no_saddle_holds : PySem.Challenge.rw_formcycle_k29_no_saddle.Holds := by
  w_on
  refine holds_law My.said0 fun said => ?_
  refine holds_open (r := PySem.Challenge.rw_formcycle_k29_no_saddle.row) (q := My.vw) (loose := []) (Xt := fun s => xlAt My.vw [] s && recOk (RowW.records (PySem.Challenge.rw_formcycle_k29_no_saddle.row.toRowW)) s) (XP := XL My.vw []) (Yf := Hook.obs (kHook My.KK My.asK (fun _ => by kernel_rfl))) (Ya := Hook.val (kHook My.KK My.asK (fun _ => by kernel_rfl))) (YP := Hook.says (kHook My.KK My.asK (fun _ => by kernel_rfl))) (N := 4166) My.hl (Hook.of (kHook My.KK My.asK (fun _ => by kernel_rfl))) (Hook.keeps (kHook My.KK My.asK (fun _ => by kernel_rfl))) (fun s e => xl_of s (Bool.and_eq_true_iff.mp e).1) XL.keeps (by rfl) (by rfl) (by rfl) (fun s e => recFacts_of (Bool.and_eq_true_iff.mp e).2) (by rfl) said (by decide +kernel) ⟨rfl, rfl, rfl, rfl, rfl, by decide +kernel⟩ ?hw ?hc
  (case hw => w_witness2)
  k_fill
  refine My.walk (l := PySem.Challenge.rw_formcycle_k29_no_saddle) rfl rfl (fun w h Y => PySem.W.kIn_of Y) ?F
  case F =>
    intro w mg fa h KX G hmg
    refine' My.all_mk KX G hmg ?h0 ?h1 ?h2 ?h3 ?h4 ?h5 ?h6 ?h7 ?h8 ?h9 ?h10 ?h11 ?h12 ?h13 ?h14 ?h15 ?h16 ?h17 ?h18 ?h19 ?h20 ?h21 ?h22 ?h23 ?h24 ?z_abs ?z_bool ?z_isinstance ?z_len ?z_max ?z_min ?z_ValueError ?aU_FormError ?lU_FormError ?lN_FormError ?sk_FormError ?ni_FormError ?aC_Apart ?lC_Apart ?lN_Apart ?sk_Apart ?ni_Apart ?kC_Apart ?sa_Apart ?ga_Apart ?gh_Apart ?cl_Apart ?gg_Apart ?gt_Apart ?aC_Nought ?lC_Nought ?lN_Nought ?sk_Nought ?ni_Nought ?kC_Nought ?sa_Nought ?ga_Nought ?gh_Nought ?cl_Nought ?gg_Nought ?gt_Nought ?ni_id_FormError ?kC_FormError ?ga_FormError ?gh_FormError ?cl_FormError ?gg_FormError ?gt_FormError ?mv_FormError ?mb_FormError ?mo_FormError ?aC_NoShape ?lC_NoShape ?kC_NoShape ?sa_NoShape ?ga_NoShape ?gh_NoShape ?cl_NoShape ?gg_NoShape ?gt_NoShape ?hi_NoShape ?hf_NoShape ?lI_NoShape ?cI_NoShape ?kI_NoShape ?tk_NoShape_form ?nf_NoShape_form ?aC_TooGreat ?lC_TooGreat ?kC_TooGreat ?sa_TooGreat ?ga_TooGreat ?gh_TooGreat ?cl_TooGreat ?gg_TooGreat ?gt_TooGreat ?hi_TooGreat ?hf_TooGreat ?lI_TooGreat ?cI_TooGreat ?kI_TooGreat ?tk_TooGreat_number ?nf_TooGreat_number ?tk_TooGreat_most ?nf_TooGreat_most ?aC_NoRoot ?lC_NoRoot ?kC_NoRoot ?sa_NoRoot ?ga_NoRoot ?gh_NoRoot ?cl_NoRoot ?gg_NoRoot ?gt_NoRoot ?hi_NoRoot ?hf_NoRoot ?lI_NoRoot ?cI_NoRoot ?kI_NoRoot ?tk_NoRoot_number ?nf_NoRoot_number ?aC_NotLevel ?lC_NotLevel ?kC_NotLevel ?sa_NotLevel ?ga_NotLevel ?gh_NotLevel ?cl_NotLevel ?gg_NotLevel ?gt_NotLevel ?hi_NotLevel ?hf_NotLevel ?lI_NotLevel ?cI_NotLevel ?kI_NotLevel ?tk_NotLevel_form ?nf_NotLevel_form ?aC_NotPlain ?lC_NotPlain ?kC_NotPlain ?sa_NotPlain ?ga_NotPlain ?gh_NotPlain ?cl_NotPlain ?gg_NotPlain ?gt_NotPlain ?hi_NotPlain ?hf_NotPlain ?lI_NotPlain ?cI_NotPlain ?kI_NotPlain ?tk_NotPlain_form ?nf_NotPlain_form ?aC_NoTurn ?lC_NoTurn ?kC_NoTurn ?sa_NoTurn ?ga_NoTurn ?gh_NoTurn ?cl_NoTurn ?gg_NoTurn ?gt_NoTurn ?hi_NoTurn ?hf_NoTurn ?lI_NoTurn ?cI_NoTurn ?kI_NoTurn ?tk_NoTurn_turn ?nf_NoTurn_turn ?aC_NotOwn ?lC_NotOwn ?kC_NotOwn ?sa_NotOwn ?ga_NotOwn ?gh_NotOwn ?cl_NotOwn ?gg_NotOwn ?gt_NotOwn ?hi_NotOwn ?hf_NotOwn ?lI_NotOwn ?cI_NotOwn ?kI_NotOwn ?tk_NotOwn_turn ?nf_NotOwn_turn ?aC_NoMeasure ?lC_NoMeasure ?kC_NoMeasure ?sa_NoMeasure ?ga_NoMeasure ?gh_NoMeasure ?cl_NoMeasure ?gg_NoMeasure ?gt_NoMeasure ?hi_NoMeasure ?hf_NoMeasure ?lI_NoMeasure ?cI_NoMeasure ?kI_NoMeasure ?tk_NoMeasure_number ?nf_NoMeasure_number ?aC_NoAnswer ?lC_NoAnswer ?kC_NoAnswer ?sa_NoAnswer ?ga_NoAnswer ?gh_NoAnswer ?cl_NoAnswer ?gg_NoAnswer ?gt_NoAnswer ?hi_NoAnswer ?hf_NoAnswer ?lI_NoAnswer ?cI_NoAnswer ?kI_NoAnswer ?tk_NoAnswer_point ?nf_NoAnswer_point ?zA_Apart ?tA_Apart ?m_NoShape_Apart ?m_TooGreat_Apart ?zA_NoAnswer ?tA_NoAnswer ?m_NoShape_NoAnswer ?m_TooGreat_NoAnswer ?zA_NoMeasure ?tA_NoMeasure ?m_NoShape_NoMeasure ?m_TooGreat_NoMeasure ?zA_NoRoot ?tA_NoRoot ?m_NoShape_NoRoot ?m_TooGreat_NoRoot ?zA_NoTurn ?tA_NoTurn ?m_NoShape_NoTurn ?m_TooGreat_NoTurn ?zA_NotLevel ?tA_NotLevel ?m_NoShape_NotLevel ?m_TooGreat_NotLevel ?zA_NotOwn ?tA_NotOwn ?m_NoShape_NotOwn ?m_TooGreat_NotOwn ?zA_NotPlain ?tA_NotPlain ?m_NoShape_NotPlain ?m_TooGreat_NotPlain ?zA_Nought ?tA_Nought ?m_NoShape_Nought ?m_TooGreat_Nought ?zA_NoShape ?tA_NoShape ?m_TooGreat_NoShape ?zA_TooGreat ?tA_TooGreat ?m_NoShape_TooGreat ?zA_FormError ?tA_FormError ?a_SAME ?l_SAME ?a_MOST_MEASURE
    (case h0 => exact My.hF0 _)
    (case h1 => exact My.hF1 _)
    (case h2 => exact My.hF2 _)
    (case h3 => exact My.hF3 _)
    (case h4 => exact My.hF4 _)
    (case h5 => exact My.hF5 _)
    (case h6 => exact My.hF6 _)
    (case h7 => exact My.hF7 _)
    (case h8 => exact My.hF8 _)
    (case h9 => exact My.hF9 _)
    (case h10 => exact My.hF10 _)
    (case h11 => exact My.hF11 _)
    (case h12 => exact My.hF12 _)
    (case h13 => exact My.hF13 _)
    (case h14 => exact My.hF14 _)
    (case h15 => exact My.hF15 _)
    (case h16 => exact My.hF16 _)
    (case h17 => exact My.hF17 _)
    (case h18 => exact My.hF18 _)
    (case h19 => exact My.hF19 _)
    (case h20 => exact My.hF20 _)
    (case h21 => exact My.hF21 _)
    (case h22 => exact My.hF22 _)
    (case h23 => exact My.hF23 _)
    (case h24 => exact My.hF24 _)
    (case z_abs => as_aux_lemma => k_is)
    (case z_bool => as_aux_lemma => k_is)
    (case z_isinstance => as_aux_lemma => k_is)
    (case z_len => as_aux_lemma => k_is)
    (case z_max => as_aux_lemma => k_is)
    (case z_min => as_aux_lemma => k_is)
    (case z_ValueError => as_aux_lemma => k_is)
    (case aU_FormError => as_aux_lemma => k_is)
    (case lU_FormError => as_aux_lemma => k_is)
    (case lN_FormError => as_aux_lemma => k_is)
    (case sk_FormError => rfl)
    (case ni_FormError => rfl)
    (case aC_Apart => as_aux_lemma => k_is)
    (case lC_Apart => as_aux_lemma => k_is)
    (case lN_Apart => as_aux_lemma => k_is)
    (case sk_Apart => rfl)
    (case ni_Apart => rfl)
    (case kC_Apart => as_aux_lemma => k_is)
    (case sa_Apart => as_aux_lemma => k_is)
    (case ga_Apart => as_aux_lemma => k_is)
    (case gh_Apart => as_aux_lemma => k_is)
    (case cl_Apart => as_aux_lemma => k_is)
    (case gg_Apart => as_aux_lemma => k_is)
    (case gt_Apart => as_aux_lemma => k_is)
    (case aC_Nought => as_aux_lemma => k_is)
    (case lC_Nought => as_aux_lemma => k_is)
    (case lN_Nought => as_aux_lemma => k_is)
    (case sk_Nought => rfl)
    (case ni_Nought => rfl)
    (case kC_Nought => as_aux_lemma => k_is)
    (case sa_Nought => as_aux_lemma => k_is)
    (case ga_Nought => as_aux_lemma => k_is)
    (case gh_Nought => as_aux_lemma => k_is)
    (case cl_Nought => as_aux_lemma => k_is)
    (case gg_Nought => as_aux_lemma => k_is)
    (case gt_Nought => as_aux_lemma => k_is)
    (case ni_id_FormError => rfl)
    (case kC_FormError => as_aux_lemma => k_is)
    (case ga_FormError => as_aux_lemma => k_is)
    (case gh_FormError => as_aux_lemma => k_is)
    (case cl_FormError => as_aux_lemma => k_is)
    (case gg_FormError => as_aux_lemma => k_is)
    (case gt_FormError => as_aux_lemma => k_is)
    (case mv_FormError => as_aux_lemma => k_is)
    (case mb_FormError => as_aux_lemma => k_is)
    (case mo_FormError => as_aux_lemma => k_is)
    (case aC_NoShape => as_aux_lemma => k_is)
    (case lC_NoShape => as_aux_lemma => k_is)
    (case kC_NoShape => as_aux_lemma => k_is)
    (case sa_NoShape => as_aux_lemma => k_is)
    (case ga_NoShape => as_aux_lemma => k_is)
    (case gh_NoShape => as_aux_lemma => k_is)
    (case cl_NoShape => as_aux_lemma => k_is)
    (case gg_NoShape => as_aux_lemma => k_is)
    (case gt_NoShape => as_aux_lemma => k_is)
    (case hi_NoShape => as_aux_lemma => k_is)
    (case hf_NoShape => as_aux_lemma => k_is)
    (case lI_NoShape => as_aux_lemma => k_is)
    (case cI_NoShape => as_aux_lemma => k_is)
    (case kI_NoShape => as_aux_lemma => k_is)
    (case tk_NoShape_form => as_aux_lemma => k_is)
    (case nf_NoShape_form => as_aux_lemma => k_is)
    (case aC_TooGreat => as_aux_lemma => k_is)
    (case lC_TooGreat => as_aux_lemma => k_is)
    (case kC_TooGreat => as_aux_lemma => k_is)
    (case sa_TooGreat => as_aux_lemma => k_is)
    (case ga_TooGreat => as_aux_lemma => k_is)
    (case gh_TooGreat => as_aux_lemma => k_is)
    (case cl_TooGreat => as_aux_lemma => k_is)
    (case gg_TooGreat => as_aux_lemma => k_is)
    (case gt_TooGreat => as_aux_lemma => k_is)
    (case hi_TooGreat => as_aux_lemma => k_is)
    (case hf_TooGreat => as_aux_lemma => k_is)
    (case lI_TooGreat => as_aux_lemma => k_is)
    (case cI_TooGreat => as_aux_lemma => k_is)
    (case kI_TooGreat => as_aux_lemma => k_is)
    (case tk_TooGreat_number => as_aux_lemma => k_is)
    (case nf_TooGreat_number => as_aux_lemma => k_is)
    (case tk_TooGreat_most => as_aux_lemma => k_is)
    (case nf_TooGreat_most => as_aux_lemma => k_is)
    (case aC_NoRoot => as_aux_lemma => k_is)
    (case lC_NoRoot => as_aux_lemma => k_is)
    (case kC_NoRoot => as_aux_lemma => k_is)
    (case sa_NoRoot => as_aux_lemma => k_is)
    (case ga_NoRoot => as_aux_lemma => k_is)
    (case gh_NoRoot => as_aux_lemma => k_is)
    (case cl_NoRoot => as_aux_lemma => k_is)
    (case gg_NoRoot => as_aux_lemma => k_is)
    (case gt_NoRoot => as_aux_lemma => k_is)
    (case hi_NoRoot => as_aux_lemma => k_is)
    (case hf_NoRoot => as_aux_lemma => k_is)
    (case lI_NoRoot => as_aux_lemma => k_is)
    (case cI_NoRoot => as_aux_lemma => k_is)
    (case kI_NoRoot => as_aux_lemma => k_is)
    (case tk_NoRoot_number => as_aux_lemma => k_is)
    (case nf_NoRoot_number => as_aux_lemma => k_is)
    (case aC_NotLevel => as_aux_lemma => k_is)
    (case lC_NotLevel => as_aux_lemma => k_is)
    (case kC_NotLevel => as_aux_lemma => k_is)
    (case sa_NotLevel => as_aux_lemma => k_is)
    (case ga_NotLevel => as_aux_lemma => k_is)
    (case gh_NotLevel => as_aux_lemma => k_is)
    (case cl_NotLevel => as_aux_lemma => k_is)
    (case gg_NotLevel => as_aux_lemma => k_is)
    (case gt_NotLevel => as_aux_lemma => k_is)
    (case hi_NotLevel => as_aux_lemma => k_is)
    (case hf_NotLevel => as_aux_lemma => k_is)
    (case lI_NotLevel => as_aux_lemma => k_is)
    (case cI_NotLevel => as_aux_lemma => k_is)
    (case kI_NotLevel => as_aux_lemma => k_is)
    (case tk_NotLevel_form => as_aux_lemma => k_is)
    (case nf_NotLevel_form => as_aux_lemma => k_is)
    (case aC_NotPlain => as_aux_lemma => k_is)
    (case lC_NotPlain => as_aux_lemma => k_is)
    (case kC_NotPlain => as_aux_lemma => k_is)
    (case sa_NotPlain => as_aux_lemma => k_is)
    (case ga_NotPlain => as_aux_lemma => k_is)
    (case gh_NotPlain => as_aux_lemma => k_is)
    (case cl_NotPlain => as_aux_lemma => k_is)
    (case gg_NotPlain => as_aux_lemma => k_is)
    (case gt_NotPlain => as_aux_lemma => k_is)
    (case hi_NotPlain => as_aux_lemma => k_is)
    (case hf_NotPlain => as_aux_lemma => k_is)
    (case lI_NotPlain => as_aux_lemma => k_is)
    (case cI_NotPlain => as_aux_lemma => k_is)
    (case kI_NotPlain => as_aux_lemma => k_is)
    (case tk_NotPlain_form => as_aux_lemma => k_is)
    (case nf_NotPlain_form => as_aux_lemma => k_is)
    (case aC_NoTurn => as_aux_lemma => k_is)
    (case lC_NoTurn => as_aux_lemma => k_is)
    (case kC_NoTurn => as_aux_lemma => k_is)
    (case sa_NoTurn => as_aux_lemma => k_is)
    (case ga_NoTurn => as_aux_lemma => k_is)
    (case gh_NoTurn => as_aux_lemma => k_is)
    (case cl_NoTurn => as_aux_lemma => k_is)
    (case gg_NoTurn => as_aux_lemma => k_is)
    (case gt_NoTurn => as_aux_lemma => k_is)
    (case hi_NoTurn => as_aux_lemma => k_is)
    (case hf_NoTurn => as_aux_lemma => k_is)
    (case lI_NoTurn => as_aux_lemma => k_is)
    (case cI_NoTurn => as_aux_lemma => k_is)
    (case kI_NoTurn => as_aux_lemma => k_is)
    (case tk_NoTurn_turn => as_aux_lemma => k_is)
    (case nf_NoTurn_turn => as_aux_lemma => k_is)
    (case aC_NotOwn => as_aux_lemma => k_is)
    (case lC_NotOwn => as_aux_lemma => k_is)
    (case kC_NotOwn => as_aux_lemma => k_is)
    (case sa_NotOwn => as_aux_lemma => k_is)
    (case ga_NotOwn => as_aux_lemma => k_is)
    (case gh_NotOwn => as_aux_lemma => k_is)
    (case cl_NotOwn => as_aux_lemma => k_is)
    (case gg_NotOwn => as_aux_lemma => k_is)
    (case gt_NotOwn => as_aux_lemma => k_is)
    (case hi_NotOwn => as_aux_lemma => k_is)
    (case hf_NotOwn => as_aux_lemma => k_is)
    (case lI_NotOwn => as_aux_lemma => k_is)
    (case cI_NotOwn => as_aux_lemma => k_is)
    (case kI_NotOwn => as_aux_lemma => k_is)
    (case tk_NotOwn_turn => as_aux_lemma => k_is)
    (case nf_NotOwn_turn => as_aux_lemma => k_is)
    (case aC_NoMeasure => as_aux_lemma => k_is)
    (case lC_NoMeasure => as_aux_lemma => k_is)
    (case kC_NoMeasure => as_aux_lemma => k_is)
    (case sa_NoMeasure => as_aux_lemma => k_is)
    (case ga_NoMeasure => as_aux_lemma => k_is)
    (case gh_NoMeasure => as_aux_lemma => k_is)
    (case cl_NoMeasure => as_aux_lemma => k_is)
    (case gg_NoMeasure => as_aux_lemma => k_is)
    (case gt_NoMeasure => as_aux_lemma => k_is)
    (case hi_NoMeasure => as_aux_lemma => k_is)
    (case hf_NoMeasure => as_aux_lemma => k_is)
    (case lI_NoMeasure => as_aux_lemma => k_is)
    (case cI_NoMeasure => as_aux_lemma => k_is)
    (case kI_NoMeasure => as_aux_lemma => k_is)
    (case tk_NoMeasure_number => as_aux_lemma => k_is)
    (case nf_NoMeasure_number => as_aux_lemma => k_is)
    (case aC_NoAnswer => as_aux_lemma => k_is)
    (case lC_NoAnswer => as_aux_lemma => k_is)
    (case kC_NoAnswer => as_aux_lemma => k_is)
    (case sa_NoAnswer => as_aux_lemma => k_is)
    (case ga_NoAnswer => as_aux_lemma => k_is)
    (case gh_NoAnswer => as_aux_lemma => k_is)
    (case cl_NoAnswer => as_aux_lemma => k_is)
    (case gg_NoAnswer => as_aux_lemma => k_is)
    (case gt_NoAnswer => as_aux_lemma => k_is)
    (case hi_NoAnswer => as_aux_lemma => k_is)
    (case hf_NoAnswer => as_aux_lemma => k_is)
    (case lI_NoAnswer => as_aux_lemma => k_is)
    (case cI_NoAnswer => as_aux_lemma => k_is)
    (case kI_NoAnswer => as_aux_lemma => k_is)
    (case tk_NoAnswer_point => as_aux_lemma => k_is)
    (case nf_NoAnswer_point => as_aux_lemma => k_is)
    (case zA_Apart => as_aux_lemma => k_is)
    (case tA_Apart => as_aux_lemma => k_is)
    (case m_NoShape_Apart => as_aux_lemma => k_is)
    (case m_TooGreat_Apart => as_aux_lemma => k_is)
    (case zA_NoAnswer => as_aux_lemma => k_is)
    (case tA_NoAnswer => as_aux_lemma => k_is)
    (case m_NoShape_NoAnswer => as_aux_lemma => k_is)
    (case m_TooGreat_NoAnswer => as_aux_lemma => k_is)
    (case zA_NoMeasure => as_aux_lemma => k_is)
    (case tA_NoMeasure => as_aux_lemma => k_is)
    (case m_NoShape_NoMeasure => as_aux_lemma => k_is)
    (case m_TooGreat_NoMeasure => as_aux_lemma => k_is)
    (case zA_NoRoot => as_aux_lemma => k_is)
    (case tA_NoRoot => as_aux_lemma => k_is)
    (case m_NoShape_NoRoot => as_aux_lemma => k_is)
    (case m_TooGreat_NoRoot => as_aux_lemma => k_is)
    (case zA_NoTurn => as_aux_lemma => k_is)
    (case tA_NoTurn => as_aux_lemma => k_is)
    (case m_NoShape_NoTurn => as_aux_lemma => k_is)
    (case m_TooGreat_NoTurn => as_aux_lemma => k_is)
    (case zA_NotLevel => as_aux_lemma => k_is)
    (case tA_NotLevel => as_aux_lemma => k_is)
    (case m_NoShape_NotLevel => as_aux_lemma => k_is)
    (case m_TooGreat_NotLevel => as_aux_lemma => k_is)
    (case zA_NotOwn => as_aux_lemma => k_is)
    (case tA_NotOwn => as_aux_lemma => k_is)
    (case m_NoShape_NotOwn => as_aux_lemma => k_is)
    (case m_TooGreat_NotOwn => as_aux_lemma => k_is)
    (case zA_NotPlain => as_aux_lemma => k_is)
    (case tA_NotPlain => as_aux_lemma => k_is)
    (case m_NoShape_NotPlain => as_aux_lemma => k_is)
    (case m_TooGreat_NotPlain => as_aux_lemma => k_is)
    (case zA_Nought => as_aux_lemma => k_is)
    (case tA_Nought => as_aux_lemma => k_is)
    (case m_NoShape_Nought => as_aux_lemma => k_is)
    (case m_TooGreat_Nought => as_aux_lemma => k_is)
    (case zA_NoShape => as_aux_lemma => k_is)
    (case tA_NoShape => as_aux_lemma => k_is)
    (case m_TooGreat_NoShape => as_aux_lemma => k_is)
    (case zA_TooGreat => as_aux_lemma => k_is)
    (case tA_TooGreat => as_aux_lemma => k_is)
    (case m_NoShape_TooGreat => as_aux_lemma => k_is)
    (case zA_FormError => as_aux_lemma => k_is)
    (case tA_FormError => as_aux_lemma => k_is)
    (case a_SAME => as_aux_lemma => k_is)
    (case l_SAME => as_aux_lemma => k_is)
    (case a_MOST_MEASURE => as_aux_lemma => k_is)
